import Derived.Test.YtnlbchmfcebeeaaGreatTC6
import Derived.Deep.CutRange
import Derived.Deep.RegionHeld3
set_option maxHeartbeats 12800000
set_option maxRecDepth 100000
namespace Go.Proofs.YtnlbchmfcebeeaaGreat
open Go.Proofs.Tryz Ch
open Go.RowKit
open Value(int slice bool pointer string agg tuple)
open IntKind(i64)
open Obj(cells)
open Ending(returned)
open Operand(tmp)
open Or(inl inr)
namespace Ch
def take(ss:List St)(a p t:ByteArray)(x y z:Int):Bool×Sd:=
 if(db ss a).2 then
  if(cK ss p).2 then
   if mJ t&&mj x&&mj y&&mj z then(true,⟨(db ss a).1,(cK ss p).1,t,x,y,z⟩)else(false,l8)
  else(false,l8)
 else(false,l8)
theorem VW ss a p t x y z:(take ss a p t x y z).2.Wf:=by
 unfold take;split
 ·split
  ·split
   ·exact⟨nG ss a,l7 ss p⟩
   exact nH
  exact nH
 exact nH
end Ch
theorem xu:(uW:Array Value).all (λx=>x.oneCell')=true:=bZ
theorem Pf ob oo w ss a p t x y z(ha:a.size<=9223372036854775807)(hp:p.size<=9223372036854775807)(ht:t.size<=9223372036854775807)(hS:rN w ob oo ss)(hl:ss.length<=1000):
 Calls prog 79 #[pointer (some ⟨ob,oo,none⟩),agg #[string a,string p,string t,int i64 x,int i64 y,int i64 z]] w
  λr w'=>r=returned (tuple #[agg (aN (Ch.take ss a p t x y z).2).toArray,bool (Ch.take ss a p t x y z).1])/\Kp bA w w':=by
 have⟨ds,hds,iT⟩:=g7;have⟨de,hde,hea⟩:=Bz;have⟨dm,XE,hma⟩:=FK;have Q:rN ((w.alloc (.cells #[string a,string p,string t,int i64 x,int i64 y,int i64 z] 26)).alloc (.cells cB 95)) ob oo ss:=(hS.alloc _).alloc _;have R:((w.alloc (.cells #[string a,string p,string t,int i64 x,int i64 y,int i64 z] 26)).alloc (.cells cB 95)).heap[w.heap.size]? =some (.cells #[string a,string p,string t,int i64 x,int i64 y,int i64 z] 26):=by rw[cE _ _ _ dy];exact ak _ _
 have aO:((w.alloc (.cells #[string a,string p,string t,int i64 x,int i64 y,int i64 z] 26)).alloc (.cells cB 95)).heap[w.heap.size+1]? =some (.cells cB 95):=jM w _ _;have K2:Kp bA w ((w.alloc (.cells #[string a,string p,string t,int i64 x,int i64 y,int i64 z] 26)).alloc (.cells cB 95)):=((Kp.refl _ _).alloc _).alloc _;have aa:((db ss a).1.map Value.bool).toArray.size=16:=by simp[nG]
 have am:(prog.info? 91).map (·.size)=some ((db ss a).1.map Value.bool).toArray.size:=by rw[aa];exact rV
 have a2:((db ss a).1.map Value.bool).toArray.all (λx=>x.oneCell')=true:=by
  apply gH.2;intro v hv;simp only[kP,gY]at hv;obtain⟨c,_,rfl⟩:=hv;rfl
 have ad:=tq (l7 ss p);have aI:(prog.info? 93).map (·.size)=some (bP (cK ss p).1).toArray.size:=by rw[ad];exact nF
 have a4:=x_ (cK ss p).1;clear hS;go_in;go_upto_region 1 with fail;generalize (w.alloc (.cells #[string a,string p,string t,int i64 x,int i64 y,int i64 z] 26)).alloc (.cells cB 95)=w2 at*;generalize VX:w.heap.size+1=Y at*;generalize YD:w.heap.size=sb at*;have cells:∀W:World,W.heap[sb]? =some (.cells #[string a,string p,string t,int i64 x,int i64 y,int i64 z] 26)->W.cell? ⟨sb,0,none⟩=some (string a)/\W.cell? ⟨sb,1,none⟩=some (string p)/\W.cell? ⟨sb,2,none⟩=some (string t)/\W.cell? ⟨sb,3,none⟩=some (int i64 x)/\W.cell? ⟨sb,4,none⟩=some (int i64 y)/\W.cell? ⟨sb,5,none⟩=some (int i64 z):=λW h=>by simp[World.cell?,h]
 have HC:=ag cells;clear cells;have c0:w2.cell? ⟨sb,0,none⟩=some (string a):=(HC w2 R).1;have E1:=ag (BA ob oo w2 ss a ha Q hl);go_wp;refine b9 E1 ?_;intro Z K3;generalize ao:((db ss a).1.map Value.bool).toArray=LA at*;have a0:=ag ao;clear ao;have oM:=ak Z (.cells eL 91);have Kn:=rQ Z (.cells eL 91) LA;have K4:=K3.trans Kn;have aj:=an (Z.alloc (.cells eL 91)) Z.heap.size eL LA 91 (0,0) oM;have U:=K4.at_ R (λx=>x);have I:=K4.at_ aO (λx=>x);have Dd:=Q.aB K4 (λx=>x) (λ_ _ _ x=>x);have K5:=K2.trans K4;clear E1 c0 R aO Q K2 K3 Kn K4;go_upto_region 2 with(refine bJ LA oM am aa.symm a2 ?_);generalize (Z.alloc (.cells eL 91)).setRow Z.heap.size LA=w4 at*;clear oM;generalize Z.heap.size=ab at*;cases X:(db ss a).2 with
 |false=>
  have D:=ag (show Ch.take ss a p t x y z=(false,l8)by simp[Ch.take,X]);have E:=K5.setRow (g:=Y) (λx=>oQ) uW;go_wp2_with (refine bJ uW I dh rfl xu ?_);refine kH (an _ _ _ _ _ _ I) hds iT dh ?_;rw[D];exact⟨rfl,E⟩
 |true=>?_
 have c1:w4.cell? ⟨sb,1,none⟩=some (string p):=(HC w4 U).2.1;have E2:=ag (FM ob oo w4 ss p hp Dd hl);go_wp21;refine b9 E2 ?_;intro w5 K6;generalize ap:(bP (cK ss p).1).toArray=LP at*;have a1:=ag ap;clear ap;have rW:=ak w5 (.cells kb 93);have Kn:=rQ w5 (.cells kb 93) LP;have K7:=K6.trans Kn;have a5:=an (w5.alloc (.cells kb 93)) w5.heap.size kb LP 93 (0,0) rW;have a6:=K7.at_ U (λx=>x);have F:=K7.at_ I (λx=>x);have a3:=K7.at_ aj (λx=>x);have K8:=K5.trans K7;clear E2 c1 U I aj Dd K5 K6 Kn K7;go_upto_region 5 with(refine bJ LP rW aI ad.symm a4 ?_);generalize (w5.alloc (.cells kb 93)).setRow w5.heap.size LP=w6 at*;clear rW;generalize w5.heap.size=pb at*;cases q2:(cK ss p).2 with
 |false=>
  have D:=ag (show Ch.take ss a p t x y z=(false,l8)by simp[Ch.take,X,q2]);have E:=K8.setRow (g:=Y) (λx=>oQ) uW;go_wp2_with (refine bJ uW F dh rfl xu ?_);refine kH (an _ _ _ _ _ _ F) hds iT dh ?_;rw[D];exact⟨rfl,E⟩
 |true=>?_
 have⟨_,_,c2,c3,c4,c5⟩:=HC w6 a6;have ET:=ag (Dt w6 t ht);have EX:=ag (jY w6 x);have EY:=ag (jY w6 y);have EZ:=ag (jY w6 z);go_wp21;refine b9 ET ?_;intro w7 G;rw[G];clear G w7;cases qt:mJ t with
 |false=>
  have D:=ag (show Ch.take ss a p t x y z=(false,l8)by simp[Ch.take,X,q2,qt]);have E:=K8.setRow (g:=Y) (λx=>oQ) uW;go_wp2_with (refine bJ uW F dh rfl xu ?_);refine kH (an _ _ _ _ _ _ F) hds iT dh ?_;rw[D];exact⟨rfl,E⟩
 |true=>?_
 go_wp2_with fail;refine b9 EX ?_;intro w7 G;rw[G];clear G w7;cases qx:mj x with
 |false=>
  have D:=ag (show Ch.take ss a p t x y z=(false,l8)by simp[Ch.take,X,q2,qt,qx]);have E:=K8.setRow (g:=Y) (λx=>oQ) uW;go_wp2_with (refine bJ uW F dh rfl xu ?_);refine kH (an _ _ _ _ _ _ F) hds iT dh ?_;rw[D];exact⟨rfl,E⟩
 |true=>?_
 go_wp2_with fail;refine b9 EY ?_;intro w7 G;rw[G];clear G w7;cases qy:mj y with
 |false=>
  have D:=ag (show Ch.take ss a p t x y z=(false,l8)by simp[Ch.take,X,q2,qt,qx,qy]);have E:=K8.setRow (g:=Y) (λx=>oQ) uW;go_wp2_with (refine bJ uW F dh rfl xu ?_);refine kH (an _ _ _ _ _ _ F) hds iT dh ?_;rw[D];exact⟨rfl,E⟩
 |true=>?_
 go_wp21;refine b9 EZ ?_;intro w7 G;rw[G];clear G w7;cases qz:mj z with
 |false=>
  have D:=ag (show Ch.take ss a p t x y z=(false,l8)by simp[Ch.take,X,q2,qt,qx,qy,qz]);have E:=K8.setRow (g:=Y) (λx=>oQ) uW;go_wp2_with (refine bJ uW F dh rfl xu ?_);refine kH (an _ _ _ _ _ _ F) hds iT dh ?_;rw[D];exact⟨rfl,E⟩
 |true=>?_
 have D:=ag (show Ch.take ss a p t x y z=(true,⟨(db ss a).1,(cK ss p).1,t,x,y,z⟩)by simp[Ch.take,X,q2,qt,qx,qy,qz]);have J:(Sd.mk (db ss a).1 (cK ss p).1 t x y z).Wf:=⟨nG ss a,l7 ss p⟩
 have O:prog.built 95 [(0,agg ((db ss a).1.map Value.bool).toArray),(1,agg (bP (cK ss p).1).toArray),(2,string t),(3,int i64 x),(4,int i64 y),(5,int i64 z)]=some (aN (Sd.mk (db ss a).1 (cK ss p).1 t x y z)).toArray:=Hu _ J;rw[a0,a1]at O;have aS:=iD J;have Yx:=jc J;have a7:=mK (Sd.mk (db ss a).1 (cK ss p).1 t x y z);generalize hM:(aN (Sd.mk (db ss a).1 (cK ss p).1 t x y z)).toArray=M at*;have HM:=ag hM;have HB:=ag O;clear hM J O ET EX EY EZ;have E:=K8.setRow (g:=Y) (λx=>oQ) M;go_wp2_with (first|refine ns rfl 91 (tmp 6) rfl ab rfl 91 LA (0,0) de a3 hde (by cases de<;>simp_all [ee]) am ?_|refine ns rfl 93 (tmp 8) rfl pb rfl 93 LP (0,0) dm a5 XE (by cases dm<;>simp_all [ee]) aI ?_|(refine fJ rfl 95 #[(0,.tmp 53),(1,.tmp 54),(2,.tmp 56),(3,.tmp 58),(4,.tmp 60),(5,.tmp 62)] rfl M [(0,agg LA),(1,agg LP),(2,string t),(3,int i64 x),(4,int i64 y),(5,int i64 z)] ?_ HB ?_;rfl)|refine bJ M F aS Yx.symm a7 ?_);refine kH (an _ _ _ _ _ _ F) hds iT aS ?_;rw[D];exact⟨by rw[<-HM];rfl,E⟩
namespace Ch
def jJ(ss:List St)(act:List Bool)(d:Int):Nat->Nat->List Bool->List Bool
 |0,_,l=>l
 |f+1,k,l=>jJ ss act d f (k+1) (if has act (k:Int)&&aG ss d (k:Int)then tf l (k:Int) true else l)
def leaves(ol:Ol)(s:Sd)(t:Nat):List Bool:=match ol.dF[t]? with
 |some x=>if x.target==45 then eX else jJ ol.ah s.act (vg ol.ah x.state x.target) ol.ah.length 0 eX
 |none=>eX
theorem Ib ss act d:∀ f k l,(jJ ss act d f k l).length=l.length:=by
 intro f;induction f with
 |zero=>intro k l;rfl
 |succ f D=>grind[jJ,nD]
theorem qW ol s t:(leaves ol s t).length=16:=by
 unfold leaves;split
 ·split
  ·rfl
  rw[Ib];rfl
 rfl
def iH(ol:Ol)(s:Sd)(t:Nat):List Int->List Int->Option (List Int)
 | [],kept=>some (kept++[(t:Int)])
 |x::l,kept=>if meets (leaves ol s t) (leaves ol s x.toNat)then(if within ol t x.toNat then iH ol s t l kept else none)else iH ol s t l (kept++[x])
def nR(ol:Ol)(s:Sd)(list:List Int)(t:Nat):List Int:=match iH ol s t list []with|some l=>l|none=>list
def gD(ol:Ol)(s:Sd):List Int->List Int->List Int
 | [],acc=>acc
 |x::l,acc=>gD ol s l (nR ol s acc x.toNat)
def choose(ol:Ol)(s:Sd)(trg:Int):List Int:=gD ol s (find ol s trg) []
theorem Pg{ol s t}(E:t<ol.dF.length):∀ l kept r,Ae ol l->Ae ol kept->iH ol s t l kept=some r->Ae ol r/\r.length<=kept.length+l.length+1:=by
 intro l;induction l with
 |nil=>
  intro kept r _ hk h;simp only[iH,bE]at h;subst h;refine⟨?_,dy⟩;intro n D;rcases cS.1 D with D|D
  ·exact hk n D
  simp_all
 |cons x l F=>?_
 grind[kept,Ae,iH]
theorem BH{ol s t}(F:t<ol.dF.length){l}(D:Ae ol l):Ae ol (nR ol s l t)/\(nR ol s l t).length<=l.length+1:=by
 unfold nR;split
 ·rename_i r h;have:=Pg F l [] r D (by intro n E;simp at E) h;simp_all
 simp_all
theorem Ly{ol s}:∀ l acc,Ae ol l->Ae ol acc->Ae ol (gD ol s l acc)/\(gD ol s l acc).length<=acc.length+l.length:=by
 intro l;induction l with
 |nil=>grind[gD]
 |cons x l F=>?_
 intro acc D h;have G:=D x dy;simp only[gD];have E:=BH (s:=s) (t:=x.toNat) oQ h;have⟨h1,h2⟩:=F (nR ol s acc x.toNat) (λn hn=>D n (by simp[hn])) E.1;grind
theorem Ic{ol s trg D k}(h:Ae ol D):Ae ol (ib ol s trg D k)/\(ib ol s trg D k).length<=D.length+1:=by
 unfold ib;split
 ·rename_i q;simp only[fQ,bne_iff_ne]at q;refine⟨?_,dy⟩;intro n E;rcases cS.1 E with E|E
  ·exact h n E
  grind[vz,dX]
 simp_all
theorem Ie{ol s trg}:∀ f k D,Ae ol D->Ae ol (mN ol s trg f k D)/\(mN ol s trg f k D).length<=D.length+f:=by
 intro f;induction f with
 |zero=>grind[mN]
 |succ f E=>?_
 grind[mN,Ic]
theorem A4 ol s trg:Ae ol (find ol s trg)/\(find ol s trg).length<=ol.ah.length:=by
 have:=Ie (ol:=ol) (s:=s) (trg:=trg) ol.ah.length 0 [] (by intro n E;simp at E);exact⟨this.1,by have D:=this.2;simp only[kN,eG]at D;exact D⟩
theorem mP ol s trg:Ae ol (choose ol s trg)/\(choose ol s trg).length<=ol.ah.length:=by
 have h:=A4 ol s trg;have:=Ly (s:=s) (find ol s trg) [] h.1 (by intro n D;simp at D);grind[choose]
def uN(ol:Ol)(s:Sd):List Int->List Bool->List Bool
 | [],l=>l
 |x::r,l=>uN ol s r (join l (leaves ol s x.toNat))
def dM(ol:Ol)(s:Sd)(list:List Int):List Bool:=uN ol s list eX
theorem Ph ol s:∀ r l,l.length=16->(uN ol s r l).length=16:=by
 intro r;induction r with
 |nil=>intro l h;exact h
 |cons x r D=>grind[uN,x8]
theorem Af ol s list:(dM ol s list).length=16:=Ph _ _ _ _ rfl
def sC(ol:Ol)(t:Nat):List Ac:=match ol.dF[t]? with|some x=>x.bM|none=>[]
def gq(ol:Ol):List Int->Ma->Ma
 | [],m=>m
 |x::l,m=>gq ol l (eD (sC ol x.toNat) m)
def fm(ol:Ol)(D:List Bool)(goals:List Int):Nat->Nat->Ma->Ma
 |0,_,m=>m
 |f+1,k,m=>fm ol D goals f (k+1) (if ky ol.ah m.s.act D goals (k:Int)then dT ol m k else m)
def enter(ol:Ol)(m:Ma)(list:List Int):Ma:=fm ol m.s.act (eS ol m.s list) ol.ah.length 0 m
def eh(ol:Ol)(m:Ma)(list:List Int):Ma:=
 enter ol (gq ol list (dD ol (dM ol m.s list) ol.ah.length {m with s:=rem ol.ah m.s (dM ol m.s list)})) list
def busy(ol:Ol)(m:Ma):Bool:=decide (0<(choose ol m.s 46).length)||decide (0<m.q.length)
def round(ol:Ol)(m:Ma):Ma:=
 if(choose ol m.s 46).length==0 then match m.q with
  | []=>eh ol m (choose ol m.s 46)
  |a::q=>eh ol {m with q:=q} (choose ol m.s a)
 else eh ol m (choose ol m.s 46)
def rounds(ol:Ol):Nat->Ma->Ma
 |0,m=>m
 |n+1,m=>if busy ol m then rounds ol n (round ol m)else m
def finish(ol:Ol)(n:Nat)(m:Ma):Sd×ByteArray×Int:=
 if busy ol (rounds ol n m)then(l8,ByteArray.empty,9)else((rounds ol n m).s,strOfNums (rounds ol n m).out,0)
def cR(ol:Ol):Sd×ByteArray×Int:=finish ol 30 (enter ol ⟨dL ol.ah,[],[]⟩ [])
def bY(ol:Ol)(s:Sd)(ev:Int):Sd×ByteArray×Int:=finish ol 29 (eh ol ⟨s,[],[]⟩ (choose ol s ev))
theorem Lz ol s:∀ l,(eS ol s l).length<=l.length:=by
 intro l;induction l with
 |nil=>simp[eS]
 |cons x l D=>?_
 grind[eS]
theorem Ma.Sz.le{m:Ma}{a}{b}(h:m.Sz a)(D:a<=b):m.Sz b:=⟨bz h.1 D,bz h.2 D⟩
theorem zv ol left:∀ k {m},m.s.Ok->(dD ol left k m).s.Ok:=by
 intro k;induction k with
 |zero=>intro m h;exact h
 |succ k D=>?_
 grind[dD,qJ,yg]
theorem zw{ol}(D:ol.Ok)left:∀ k {m} {n},m.Sz n->(dD ol left k m).Sz (n+115200*k):=by
 intro k;induction k with
 |zero=>grind[dD]
 |succ k F=>?_
 intro m n h;simp only[dD];have E:(if has left (k:Int)then eO (fa k 36 ol.fH m) k false else m:Ma).Sz (n+115200):=by
  split
  ·exact wA D _ _ h
  exact h.le oQ
 grind
theorem SJ ol:∀ l {m},m.s.Ok->(gq ol l m).s.Ok:=by
 intro l;induction l with
 |nil=>intro m h;exact h
 |cons x l D=>grind[gq,tz]
theorem LB{ol}(D:ol.Ok)t:(sC ol t).length<=240:=by
 unfold sC;split
 ·rename_i x E;exact(D.kZ x (aP E)).1
 simp
theorem SK{ol}(D:ol.Ok):∀ l {m} {n},m.Sz n->(gq ol l m).Sz (n+480*l.length):=by
 intro l;induction l with
 |nil=>grind[gq]
 |cons x l E=>?_
 intro m n h;simp only[gq];exact(E (wy h (LB D _))).le il
theorem Pj ol D goals:∀ f k {m},m.s.Ok->(fm ol D goals f k m).s.Ok:=by
 intro f;induction f with
 |zero=>intro k m h;exact h
 |succ f E=>?_
 grind[fm,xr]
theorem Pk{ol}(E:ol.Ok)D goals:∀ f k {m} {n},m.Sz n->(fm ol D goals f k m).Sz (n+115202*f):=by
 intro f;induction f with
 |zero=>grind[fm]
 |succ f G=>?_
 intro k m n h;simp only[fm];have F:(if ky ol.ah m.s.act D goals (k:Int)then dT ol m k else m:Ma).Sz (n+115202):=by
  split
  ·grind[xt]
  exact h.le oQ
 grind
theorem vA{ol m}(h:m.s.Ok)list:(enter ol m list).s.Ok:=Pj _ _ _ _ _ h
theorem yk{ol}(D:ol.Ok){m}{n}(h:m.Sz n)list:(enter ol m list).Sz (n+1900000):=by
 have:=Pk D m.s.act (eS ol m.s list) ol.ah.length 0 h;have E:=D.ah;exact this.le oQ
theorem FW{ss s}left(h:s.Ok):(rem ss s left).Ok:=⟨Yz left h.1,h.2⟩
theorem vB{ol m}(h:m.s.Ok)list:(eh ol m list).s.Ok:=
 vA (SJ _ _ (zv _ _ _ (FW _ h))) _
theorem tB{ol}(D:ol.Ok){m}{n}(h:m.Sz n){list}(J:list.length<=16):(eh ol m list).Sz (n+3900000):=by
 have F:=D.ah;have E:({m with s:=rem ol.ah m.s (dM ol m.s list)}:Ma).Sz n:=h;have G:=zw D (dM ol m.s list) ol.ah.length E;have I:=SK D list G;exact(yk D I list).le oQ
theorem Ig{ol m}(h:m.s.Ok):(round ol m).s.Ok:=by
 grind[round,vB]
theorem mQ{ol}(D:ol.Ok)s trg:(choose ol s trg).length<=16:=by
 have:=(mP ol s trg).2;have:=D.ah;omega
theorem Ih{ol}(D:ol.Ok){m}{n}(h:m.Sz n):(round ol m).Sz (n+3900000):=by
 unfold round;split
 ·split
  ·grind[tB,mQ]
  rename_i a q e;refine tB D (m:={m with q:=q}) ?_ (mQ D _ _);refine⟨?_,h.2⟩;have:=h.1;grind
 grind[tB,mQ]
theorem wFm{ol}(h:ol.Ok)D goals:∀ f k m,(fm ol D goals f k m).out.length<=m.out.length+240*f:=by
 intro f;induction f with
 |zero=>grind[fm]
 |succ f G=>?_
 intro k m;simp only[fm];have:=wDt h m k;split
 ·have:=G (k+1) (dT ol m k);omega
 have:=G (k+1) m;omega
theorem wGq{ol}(D:ol.Ok):∀ l m,(gq ol l m).out.length<=m.out.length+240*l.length:=by
 intro l;induction l with
 |nil=>grind[gq]
 |cons x l E=>?_
 intro m;simp only[gq];have:=E (eD (sC ol x.toNat) m);have:=Hy1 (sC ol x.toNat) m;have:=LB D x.toNat;simp only[List.length_cons];omega
theorem wEh{ol}(D:ol.Ok)m{list}(J:list.length<=16):(eh ol m list).out.length<=m.out.length+11520:=by
 have F:=D.ah;have G:=wDd D (dM ol m.s list) ol.ah.length {m with s:=rem ol.ah m.s (dM ol m.s list)};simp only at G;unfold eh enter;refine Nat.le_trans (wFm D _ _ _ _ _) ?_;have I:=wGq D list (dD ol (dM ol m.s list) ol.ah.length {m with s:=rem ol.ah m.s (dM ol m.s list)});omega
theorem wRo{ol}(D:ol.Ok)m:(round ol m).out.length<=m.out.length+11520:=by
 unfold round;split
 ·split
  ·exact wEh D m (mQ D _ _)
  exact wEh D {m with q:=_} (mQ D _ _)
 exact wEh D m (mQ D _ _)
theorem uz ss:(dL ss).Ok:=⟨qV ss,by simp[dL],by simp[dL]⟩
theorem yl{ss a p t x y z}:(take ss a p t x y z).2.Ok:=by
 have D:l8.Ok:=⟨nH,by simp[l8],by simp[l8]⟩
 unfold take;split
 ·split
  ·split
   ·rename_i q;simp only[fQ,mj,lV]at q;have⟨⟨⟨q1,q2⟩,q3⟩,q4⟩:=q;refine⟨⟨nG ss a,l7 ss p⟩,⟨q2,q3,q4⟩,?_⟩;show t.size<=17;unfold mJ at q1;split at q1
    ·simp at q1
    rename_i E;simp only[mz,lV,not_or]at E;omega
   exact D
  exact D
 exact D
end Ch
def l9(l:List Bool):Array Value:=(l.map Value.bool).toArray
section
variable {w:World} {b:Nat} {l:List Bool}
theorem lE.row(h:lE w b [] l [] 91):w.heap[b]? =some (cells (l9 l) 91 (0,0)):=by unfold lE at h;simpa[l9]using h
theorem lE.ofRow(h:w.heap[b]? =some (cells (l9 l) 91 (0,0))):lE w b [] l [] 91:=by unfold lE;simpa[l9]using h
theorem mR(h:l.length=16):(l9 l).size=16:=by simp[l9,h]
theorem oA(h:l.length=16):(prog.info? 91).map (·.size)=some (l9 l).size:=by rw[mR h];exact rV
theorem qX l:(l9 l).all (·.oneCell')=true:=by
 apply gH.2;intro x D;simp only[l9,kP,gY]at D;obtain⟨a,_,rfl⟩:=D;rfl
end
theorem Kp.tC{w w'}(k:Kp bA w w'){p}{v}(h:w.cell? p=some v):w'.cell? p=some v:=by
 have D:=oP w _ h;have e:=k.block p.block D (λx=>x);unfold World.cell? at*;simp_all
theorem xv w mb ob po s qv ov ol(t:Nat)(ht:t<ol.dF.length)(hm:j4 w mb ob po s qv ov)(hw:s.Wf)(hp:Pl w ob po ol)(ad:ol.Ok):
 Calls prog 176 #[pointer (some ⟨mb,0,none⟩),int i64 t] w λx w'=>x=returned (agg (l9 (Ch.leaves ol s t)))/\Kp bA w w':=by
 have⟨ds,hds,iT⟩:=Bz;have wT:=ad.ah;have a9:(t:Int)<ol.dF.length:=oQ;obtain⟨a,ha⟩:∃s,ol.dF[t]? =some s:=⟨_,au ht⟩
 have K2:Kp bA w ((w.alloc (cells eL 91)).alloc (cells eL 91)):=((Kp.refl _ _).alloc _).alloc _;have aj:((w.alloc (cells eL 91)).alloc (cells eL 91)).heap[w.heap.size]? =some (cells eL 91):=by
  rw[cE _ _ _ dy];exact ak _ _
 have aI:((w.alloc (cells eL 91)).alloc (cells eL 91)).heap[w.heap.size+1]? =_:=jM w _ _;have a5:((w.alloc (cells eL 91)).alloc (cells eL 91)).heap.size=w.heap.size+2:=dy;have a8:=hm.lt;have cp:=j4.lK (fq.aB hm K2 (λx=>x));have ab:j4 _ _ _ _ _ _ _:=fq.aB hm K2 (λx=>x);have I:=hp.aB K2 (λ_ _ _ _ _ x=>x);have⟨g,cap,ac,base,c3,cc,hac⟩:=I.tr ha;have c0:=cc 0 oQ;have c1:=cc 1 oQ;have c2:=cc 2 oQ;have c4:=cc 4 oQ;have c5:=cc 5 oQ;have c6:=cc 6 oQ;have U:=cc 3 oQ;simp only[ir,iu,kS]at c0 c1 c2 U c4 c5 c6;clear cc hac hp hm;cases X:a.target==45 with
 |true=>
  rw[show Ch.leaves ol s t=eX by simp[Ch.leaves,ha,X]];clear ab I;go_in;go_wp;generalize ((w.alloc (cells eL 91)).alloc (cells eL 91))=w2 at*;refine uY aj hds iT rV ?_;exact⟨rfl,K2⟩
 |false=>?_
 rw[show Ch.leaves ol s t=jJ ol.ah s.act (vg ol.ah a.state a.target) ol.ah.length 0 eX by simp[Ch.leaves,ha,X]];have Q:=ag (Lk ob po ((w.alloc (cells eL 91)).alloc (cells eL 91)).drew ol.ah a.state a.uh a.guard.var a.guard.sign a.guard.digit a.target ac ad.up (by exact I.str) oQ);go_in;go_upto_region 4 with fail;generalize a3:((w.alloc (cells eL 91)).alloc (cells eL 91))=w2 at*;clear a3;go_cut [6]from 21 to 35 (λd wx=>d= int i64 (vg ol.ah a.state a.target)/\Kp bA w2 wx)
 case first=>
  go_region_held3 (λw'=>w'.cell? ⟨mb,0,none⟩=some (pointer (some ⟨ob,po,none⟩))/\w'.cell? ⟨ob,po+3,none⟩=some (slice (some ⟨g,0,none⟩) ol.dF.length cap)/\w'.cell? ⟨g,t*7,none⟩=some (int i64 a.state)/\w'.cell? ⟨g,t*7+1,none⟩=some (int .u8 a.uh)/\w'.cell? ⟨g,t*7+2,none⟩=some (int .u8 a.guard.var)/\w'.cell? ⟨g,t*7+3,none⟩=some (int .u8 a.guard.sign)/\w'.cell? ⟨g,t*7+4,none⟩=some (int i64 a.guard.digit)/\w'.cell? ⟨g,t*7+5,none⟩=some ac/\w'.cell? ⟨g,t*7+6,none⟩=some (int .u8 a.target)) (first|exact⟨cp,c3,c0,c1,c2,U,c4,c5,c6⟩|exact HS) ((go_at_call 222;refine b9 Q ?_;intro w3 D;have H:=ag D;have HS:=xn (D.tC cp) (D.tC c3) (D.tC c0) (D.tC c1) (D.tC c2) (D.tC U) (ae (D.tC c4) (ae (D.tC c5) (D.tC c6)));clear Q D))
  all_goals (go_wp2;go_meet;exact⟨rfl,((Kp.refl bA w2).drewN 1).trans H⟩)
 case rest=>
  obtain⟨rfl,KC⟩:=hcut;have aS:j4 _ _ _ _ _ _ _:=fq.aB ab KC (λx=>x);have a1:=I.aB KC (λ_ _ _ _ _ x=>x);have a2:=KC.at_ aj (λx=>x);have aO:lE _ _ _ eX _ _:=lE.ofRow (KC.at_ aI (λx=>x));have KW:=K2.trans KC;have a0:∀aa T,wc.heap[w.heap.size+1]? =some (cells aa T (0,0))->T=91:=by
   intro aa T h;rw[lE.row aO]at h;simp at h;exact h.2.symm
  clear Q ab I aj aI K2 KC cp c0 c1 c2 c3 c4 c5 c6 U X ha;generalize XE:vg ol.ah a.state a.target=dm at*;have HD:=ag XE;clear XE;go_wp;go_loopw [7] (λi wr=>∃(k:Nat) (l:List Bool),i= int i64 k/\k<=ol.ah.length/\l.length=16/\Hid (jJ ol.ah s.act dm ol.ah.length 0 eX=jJ ol.ah s.act dm (ol.ah.length-k) k l)/\lE wr (w.heap.size+1) [] l [] 91/\Kp (λk=>k=w.heap.size+1) wc wr) (λi _=>ol.ah.length-(intOf i).toNat)
  case atStart=>exact⟨0,eX,rfl,aA _,rfl,ag rfl,aO,Kp.refl _ _⟩
  case round=>
   obtain⟨k,l,rfl,hk,E,Y,h1,R⟩:=hrel;have F:j4 _ _ _ _ _ _ _:=fq.aB aS R (λx=>oQ);have G:=a1.aB R (λi aa T hi hT x=>by subst x;have:=a0 _ _ hi;subst this;revert hT;unfold Vl oT;decide);have J:=R.at_ a2 (λx=>oQ);have KX:=KW.trans' R (λi hi x=>oQ);have cp:=F.lK;have⟨ao,cap,c2⟩:=G.str.len;by_cases a7:k<ol.ah.length
   ·have a4:(k:Int)<ol.ah.length:=oQ;have ef:ol.ah.length-k=(ol.ah.length-(k+1))+1:=oQ;have Q:=ag (lu wr mb 1 [pointer (some ⟨ob,po,none⟩)] s.act (dK s++[qv,ov]) 149 k F hw.1 rfl);have E2:=ag (oS ob po wr ol.ah dm k ad.up G.str oQ);have E3:=ag (FH wr (w.heap.size+1) 0 [] l [] 91 k h1 E rfl);have HK:=bw R h1;cases X:Ch.has s.act (k:Int)with
    |false=>
     rw[X]at Q;have Z:=ag (Y.trans (show _=jJ ol.ah s.act dm (ol.ah.length-(k+1)) (k+1) l by rw[ef];simp only[jJ];rw[X];rfl));clear Y ef R KX h1 F G J;go_wp;refine cF Q ?_;go_wp2;exact⟨⟨k+1,l,eb,oQ,E,Z,HK.2,HK.1⟩,ew⟩
    |true=>?_
    rw[X]at Q;cases q2:aG ol.ah dm (k:Int)with
    |false=>
     rw[q2]at E2;have Z:=ag (Y.trans (show _=jJ ol.ah s.act dm (ol.ah.length-(k+1)) (k+1) l by rw[ef];simp only[jJ];rw[X,q2];rfl));clear Y ef R KX h1 F G J;go_wp;refine cF Q ?_;go_wp21;refine fu E2 ?_;rintro x w1 ⟨rfl,rfl⟩;go_wp2;go_roundw
     case rel=>exact⟨k+1,l,eb,oQ,E,Z,HK.2,HK.1⟩
     case measure=>exact ew
    |true=>?_
    rw[q2]at E2;have Z:=ag (Y.trans (show _=jJ ol.ah s.act dm (ol.ah.length-(k+1)) (k+1) (tf l (k:Int) true)by rw[ef];simp only[jJ];rw[X,q2];rfl));clear Y ef R KX h1 F G J;go_wp21;refine fu Q ?_;rintro x w1 ⟨rfl,rfl⟩;go_wp2_with fail;refine fu E2 ?_;rintro x w1 ⟨rfl,rfl⟩;go_wp21;refine fu E3 ?_;rintro x w3 ⟨rfl,h3,D⟩;have K4:=HK.1.trans D;clear Q E2 E3 HK D;go_wp2;exact⟨⟨k+1,_,eb,oQ,by rw[nD];exact E,Z,h3,K4⟩,ew⟩
   have a6:¬(k:Int)<ol.ah.length:=oQ;have Z:=ag (Y.trans (show _=l by rw[show ol.ah.length-k=0 by omega];rfl));have ap:=h1.row;have O:=oA E;have iL:=mR E;have am:=qX l;have KZ:Kp _ _ (wr.setRow w.heap.size (l9 l)):=KX.setRow (λx=>oQ) _;clear Y h1 R KX F G;generalize hL:l9 l=L at*;have HL:=ag hL;clear hL;go_wp2_with (first|refine gV ap hds iT O ?_|refine bJ L J O iL.symm am ?_);refine uY (an _ _ _ _ _ _ J) hds iT O ?_;rw[HD,Z,HL];exact⟨rfl,KZ⟩
theorem Pm w mb ob po s qv ov ol v list t(h:yh w v list)(aS:Ae ol list)(hl:list.length<=1000)(ht:t<ol.dF.length)(hm:j4 w mb ob po s qv ov)(hw:s.Wf)(hp:Pl w ob po ol)(ab:ol.Ok):
 Calls prog 130 #[pointer (some ⟨mb,0,none⟩),v,int i64 t] w λx w'=>∃v',x=returned v'/\yh w' v' (nR ol s list t)/\Kp bA w w':=by
 have⟨i0,hi,hz0,hz1,hz2⟩:=cr nI;obtain⟨ao,a7,rfl⟩:=h.len;have E0:=ag (xv w mb ob po s qv ov ol t ht hm hw hp ab);have aa:=qW ol s t;go_in;go_wp;refine b9 E0 ?_;intro Y K1;have D:=ak Y (cells eL 91);have ap:=lE.ofRow (an (Y.alloc (cells eL 91)) Y.heap.size eL (l9 (Ch.leaves ol s t)) 91 (0,0) D);have K2:Kp _ _ ((Y.alloc (cells eL 91)).setRow Y.heap.size (l9 (Ch.leaves ol s t))):=(K1.alloc _).setRow (λx=>by have:=K1.size;omega) _;have a2:j4 _ _ _ _ _ _ _:=fq.aB hm K2 (λx=>x);have a5:=hp.aB K2 (λ_ _ _ _ _ x=>x);have h2:=h.aB K2 (λ_ _ _ x=>x);have aj:=oA aa;have FX:=mR aa;have ad:=qX (Ch.leaves ol s t);generalize a1:l9 (Ch.leaves ol s t)=LV at*;go_wp2_with (refine bJ LV D aj FX.symm ad ?_);generalize (Y.alloc (cells eL 91)).setRow Y.heap.size LV=w2 at*;generalize Y.heap.size=L1 at*;have a8:=ap.lt;go_loopw [8,9] (λkv i wr=>∃(k:Nat) (F:List Int),i= int i64 k/\k<=list.length/\wr.ownsRow w2.heap.size 3 1 kv F.length (bO F)/\F.length<=k/\Hid (iH ol s t list []=iH ol s t (list.drop k) F)/\Kp bA w2 wr) (λ_ i _=>list.length-(intOf i).toNat)
 case atStart=>exact⟨0,[],rfl,aA _,cd _ _ _ _,aC _,ag rfl,Kp.refl _ _⟩
 case round=>
  obtain⟨k,F,rfl,hk,E,a9,HE,O⟩:=hrel;have G:j4 _ _ _ _ _ _ _:=fq.aB a2 O (λx=>x);have I:=a5.aB O (λ_ _ _ _ _ x=>x);have hr:=h2.aB O (λ_ _ _ x=>x);have Q:=ap.aB O (λx=>x);by_cases U:k<list.length
  ·have a6:(k:Int)<list.length:=oQ;obtain⟨a,ha⟩:∃s,list[k]? =some s:=⟨_,au U⟩
   have⟨g,cap',hg,a0⟩:=hr.at_ ha;simp only[aH,cA]at hg;obtain⟨rfl,rfl⟩:=hg;have ed:list.drop k=a::list.drop (k+1):=by
    rw[eR U];congr 1;exact(aM.1 ha).2
   have⟨ha1,ha2⟩:=aS a (aP ha);obtain⟨j,rfl⟩:∃j:Nat,a=j:=⟨a.toNat,oQ⟩
   have hj:j<ol.dF.length:=oQ;have E1:=ag (xv wr mb ob po s qv ov ol j hj G hw I ab);have am:=qW ol s j;have step:iH ol s t (list.drop k) F=if Ch.meets (Ch.leaves ol s t) (Ch.leaves ol s j)then(if Ch.within ol t j then iH ol s t (list.drop (k+1)) F else none)else iH ol s t (list.drop (k+1)) (F++[(j:Int)]):=by
    rw[ed];simp only[iH,dE]
   have HX:=xn G I E hr Q O step;have HA:=ag ha;go_wp;refine b9 E1 ?_;intro Z K3;have⟨G,I,E,hr,Q,O,step⟩:=HX;have D:=ak Z (cells eL 91);have aI:=lE.ofRow (an (Z.alloc (cells eL 91)) Z.heap.size eL (l9 (Ch.leaves ol s j)) 91 (0,0) D);have K4:Kp _ _ ((Z.alloc (cells eL 91)).setRow Z.heap.size (l9 (Ch.leaves ol s j))):=(K3.alloc _).setRow (λx=>by have:=K3.size;omega) _;have aj:=oA am;have FX:=mR am;have ad:=qX (Ch.leaves ol s j);have HX:=xn G I E hr Q O step;generalize a1:l9 (Ch.leaves ol s j)=LV at*;go_wp2_with (refine bJ LV D aj FX.symm ad ?_);generalize (Z.alloc (cells eL 91)).setRow Z.heap.size LV=w4 at*;generalize Z.heap.size=L4 at*;have⟨G,I,E,hr,Q,O,step⟩:=HX;have a3:j4 _ _ _ _ _ _ _:=fq.aB G K4 (λx=>x);have A9:=I.aB K4 (λ_ _ _ _ _ x=>x);have J:=hr.aB K4 (λ_ _ _ x=>x);have Dd:=Q.aB K4 (λx=>x);have YE:=K4.owns E (λ_ _ x=>x);have X:=O.trans K4;have⟨g',cap',hg',a4⟩:=J.at_ HA;simp only[aH,bE,ei,cA,dV]at hg';obtain⟨rfl,rfl⟩:=hg';have E2:=ag (zl w4 L1 0 [] (Ch.leaves ol s t) [] 91 L4 0 [] (Ch.leaves ol s j) [] 91 Dd aa rfl aI am rfl);have E3:=ag (Lx w4 mb ob po s qv ov ol t j ht hj a3 A9 ab);have HK:=fM YE J X step;cases q1:Ch.meets (Ch.leaves ol s t) (Ch.leaves ol s j)with
   |true=>
    rw[q1]at E2;cases q2:Ch.within ol t j with
    |true=>
     rw[q2]at E3;have HF:=ag (HE.trans (show _=iH ol s t (list.drop (k+1)) F by rw[HK.2.2.2,q1,q2];rfl));go_wp;refine cF E2 ?_;go_wp21;refine fu E3 ?_;rintro x w6 ⟨rfl,R⟩;have⟨YE,J,X,step⟩:=HK;have aO:=R.owns YE (λ_ _ x=>x);have YF:=X.trans R;go_wp2;exact⟨⟨k+1,F,eb,oQ,aO,oQ,HF,YF⟩,ew⟩
    |false=>?_
    rw[q2]at E3;have HF:=ag (show nR ol s list t=list by
     have e:=HE.trans (show _=none by rw[HK.2.2.2,q1,q2];rfl);unfold nR;rw[e])
    go_wp;refine cF E2 ?_;go_wp21;refine fu E3 ?_;rintro x w6 ⟨rfl,R⟩;have⟨YE,J,X,step⟩:=HK;have pe:=J.aB R (λ_ _ _ x=>x);have YF:=K2.trans (X.trans R);go_wp2;go_ret;rw[HF];exact⟨_,rfl,pe,YF⟩
   |false=>?_
   rw[q1]at E2;have HF:=ag (HE.trans (show _=iH ol s t (list.drop (k+1)) (F++[(j:Int)])by rw[HK.2.2.2,q1];rfl));go_wp;refine fu E2 ?_;rintro x w5 ⟨rfl,rfl⟩;have⟨YE,J,X,step⟩:=HK;go_wp2_with (at_builtin;refine jk _ rfl (tmp 28) (tmp 33) 38 rfl w2.heap.size 3 i0 (int i64 0) 1 8 underlying38 hi hz0 hz1 hz2 rfl aV _ _ _ rfl (YE.alloc _) ⟨w5.heap.size,0,none⟩ 1 1 [int i64 j] rfl rfl ?c1 ?c2 ?c3 ?c4 ?c5 ?_)
   case c1=>exact gT _ _ _
   case c2=>intro u hu;simp at hu;subst hu;rfl
   case c3=>unfold maxLen;omega
   case c4=>omega
   case c5=>have:=X.size;simp;omega
   intro v6 w6 o6 g6 _;have R:=Kp.grown (X.alloc _) g6 (λi hi U=>by have:=(YE.lt i hi).1;omega);go_wp2;exact⟨⟨k+1,_,eb,oQ,by simpa[bO]using o6,by simp;omega,HF,R⟩,ew⟩
  have ba:¬(k:Int)<list.length:=oQ;have HF:=ag (show nR ol s list t=F++[(t:Int)]by
   have e:=HE.trans (show _=some (F++[(t:Int)])by rw[dA oQ];rfl);unfold nR;rw[e])
  go_wp2_with (at_builtin;refine jk _ rfl (tmp 44) (tmp 46) 38 rfl w2.heap.size 3 i0 (int i64 0) 1 8 underlying38 hi hz0 hz1 hz2 rfl aV _ _ _ rfl (E.alloc _) ⟨wr.heap.size,0,none⟩ 1 1 [int i64 t] rfl rfl ?c1 ?c2 ?c3 ?c4 ?c5 ?_)
  case c2=>first|rfl|(intro u hu;simp at hu;subst hu;rfl)
  case c3=>first|(unfold maxLen;omega)|omega|(simp[maxLen];omega)
  case c4=>omega
  case c5=>have:=O.size;simp;omega
  intro v6 w6 o6 g6 _;have R:=Kp.grown (O.alloc _) g6 (λi hi U=>by have:=(E.lt i hi).1;omega);have K7:=K2.trans R;go_wp2;go_ret;rw[HF];exact⟨_,rfl,⟨_,by simpa[bO]using o6⟩,K7⟩
theorem qY w mb O Q s qv ov ol trg(hm:j4 w mb O Q s qv ov)(hw:s.Wf)(hp:Pl w O Q ol)(E:ol.Ok):
 Calls prog 80 #[pointer (some ⟨mb,0,none⟩),int .u8 trg] w λx w'=>∃v',x=returned v'/\yh w' v' (Ch.choose ol s trg)/\Kp bA w w':=by
 have aI:=E.ah;have E0:=ag (SH w mb O Q s qv ov ol trg hm hw hp E);have⟨hin,hlen⟩:=A4 ol s trg;have HU:=ag (show Ch.choose ol s trg=gD ol s (Ch.find ol s trg) []from rfl);go_in;go_wp;refine fu E0 ?_;rintro x w1 ⟨fv,rfl,ab,U⟩;have h1:yh _ _ _:=⟨_,ab⟩
 have Z:j4 _ _ _ _ _ _ _:=fq.aB hm U (λx=>x);have ad:=hp.aB U (λ_ _ _ _ _ x=>x);generalize Ch.find ol s trg=list at*;obtain⟨ao,ap,rfl⟩:=h1.len;go_wp21;go_loopw [6,7] (λkv i wr=>∃(k:Nat) (D:List Int),i= int i64 k/\k<=list.length/\yh wr kv D/\D.length<=k/\Ae ol D/\Hid (gD ol s list []=gD ol s (list.drop k) D)/\Kp bA w1 wr) (λ_ i _=>list.length-(intOf i).toNat)
 case atStart=>exact⟨0,[],rfl,aA _,⟨0,cd _ _ _ _⟩,aC _,by intro n hn;simp at hn,ag rfl,Kp.refl _ _⟩
 case round=>
  obtain⟨k,D,rfl,hk,I,aO,G,HE,F⟩:=hrel;have aa:j4 _ _ _ _ _ _ _:=fq.aB Z F (λx=>x);have aj:=ad.aB F (λ_ _ _ _ _ x=>x);have hr:=h1.aB F (λ_ _ _ x=>x);by_cases J:k<list.length
  ·have am:(k:Int)<list.length:=oQ;obtain⟨a,X⟩:∃s,list[k]? =some s:=⟨_,au J⟩
   have⟨g,cap',hg,a0⟩:=hr.at_ X;simp only[aH,cA]at hg;obtain⟨rfl,rfl⟩:=hg;have ed:list.drop k=a::list.drop (k+1):=by
    rw[eR J];congr 1;exact(aM.1 X).2
   have⟨ha1,ha2⟩:=hin a (aP X);obtain⟨j,rfl⟩:∃j:Nat,a=j:=⟨a.toNat,oQ⟩
   have hj:j<ol.dF.length:=oQ;have E1:=ag (Pm wr mb O Q s qv ov ol _ D j I G oQ hj aa hw aj E);have R:=ag (HE.trans (show _=gD ol s (list.drop (k+1)) (nR ol s D j)by rw[ed];simp only[gD,dE]));have Y:=BH (s:=s) hj G;go_wp;refine fu E1 ?_;rintro x w3 ⟨v3,rfl,h3,K3⟩;have K4:=F.trans K3;go_wp2;exact⟨⟨k+1,_,eb,oQ,h3,oQ,Y.1,R,K4⟩,ew⟩
  have aS:¬(k:Int)<list.length:=oQ;have R:=ag (HE.trans (show _=D by rw[dA oQ];rfl));have K2:=U.trans F;go_wp2;go_ret;rw[HU,R];exact⟨_,rfl,I,K2⟩
theorem Ii w mb ob po s qv ov ol v list(h:yh w v list)(aj:Ae ol list)(hl:list.length<=1000)(hm:j4 w mb ob po s qv ov)(hw:s.Wf)(hp:Pl w ob po ol)(aI:ol.Ok):
 Calls prog 131 #[pointer (some ⟨mb,0,none⟩),v] w λx w'=>x=returned (agg (l9 (dM ol s list)))/\Kp bA w w':=by
 have⟨ds,hds,iT⟩:=Bz;obtain⟨ao,a6,rfl⟩:=h.len;rw[show dM ol s list=uN ol s list eX from rfl];have K2:Kp bA w ((w.alloc (cells eL 91)).alloc (cells eL 91)):=((Kp.refl _ _).alloc _).alloc _;have a1:((w.alloc (cells eL 91)).alloc (cells eL 91)).heap[w.heap.size]? =some (cells eL 91):=by
  rw[cE _ _ _ dy];exact ak _ _
 have aa:((w.alloc (cells eL 91)).alloc (cells eL 91)).heap[w.heap.size+1]? =_:=jM w _ _;have a5:((w.alloc (cells eL 91)).alloc (cells eL 91)).heap.size=w.heap.size+2:=dy;have a9:=hm.lt;have am:j4 _ _ _ _ _ _ _:=fq.aB hm K2 (λx=>x);have aO:=hp.aB K2 (λ_ _ _ _ _ x=>x);have h2:=h.aB K2 (λ_ _ _ x=>x);go_in;go_wp;generalize ((w.alloc (cells eL 91)).alloc (cells eL 91))=w2 at*;have ad:lE _ _ _ eX _ _:=lE.ofRow aa;have U:∀F T,w2.heap[w.heap.size+1]? =some (cells F T (0,0))->T=91:=by
  intro F T h;rw[aa]at h;simp at h;exact h.2.symm
 go_loopw [6] (λi wr=>∃(k:Nat) (l:List Bool),i= int i64 k/\k<=list.length/\l.length=16/\Hid (uN ol s list eX=uN ol s (list.drop k) l)/\lE wr (w.heap.size+1) [] l [] 91/\Kp (λk=>k=w.heap.size+1) w2 wr) (λi _=>list.length-(intOf i).toNat)
 case atStart=>exact⟨0,eX,rfl,aA _,rfl,ag rfl,ad,Kp.refl _ _⟩
 case round=>
  obtain⟨k,l,rfl,hk,J,HE,Q,E⟩:=hrel;have ap:j4 _ _ _ _ _ _ _:=fq.aB am E (λx=>oQ);have aS:=aO.aB E (λi F T hi hT x=>by subst x;have:=U _ _ hi;subst this;revert hT;unfold Vl oT;decide);have hr:=h2.aB E (λi F hi x=>by subst x;have:=U _ _ hi;revert this;decide);have Z:=E.at_ a1 (λx=>oQ);have KX:=K2.trans' E (λi hi x=>oQ);by_cases R:k<list.length
  ·have a4:(k:Int)<list.length:=oQ;obtain⟨a,ha⟩:∃s,list[k]? =some s:=⟨_,au R⟩
   have⟨g,cap',hg,a0⟩:=hr.at_ ha;simp only[aH,cA]at hg;obtain⟨rfl,rfl⟩:=hg;have ed:list.drop k=a::list.drop (k+1):=by
    rw[eR R];congr 1;exact(aM.1 ha).2
   have⟨ha1,ha2⟩:=aj a (aP ha);obtain⟨j,rfl⟩:∃j:Nat,a=j:=⟨a.toNat,oQ⟩
   have hj:j<ol.dF.length:=oQ;have E1:=ag (xv wr mb ob po s qv ov ol j hj ap hw aS aI);have O:=qW ol s j;have HF:=ag (HE.trans (show _=uN ol s (list.drop (k+1)) (Ch.join l (Ch.leaves ol s j))by rw[ed];simp only[uN,dE]));have HX:=bw Q E;go_wp;refine b9 E1 ?_;intro G K3;have⟨Q,E⟩:=HX;have ba:w.heap.size+2<=G.heap.size:=by have:=K3.size;have:=E.size;omega
   have I:=ak G (cells eL 91);have ab:=lE.ofRow (an (G.alloc (cells eL 91)) G.heap.size eL (l9 (Ch.leaves ol s j)) 91 (0,0) I);have K4:Kp _ _ ((G.alloc (cells eL 91)).setRow G.heap.size (l9 (Ch.leaves ol s j))):=(K3.alloc _).setRow (λx=>by have:=K3.size;omega) _;have a3:=oA O;have FX:=mR O;have a2:=qX (Ch.leaves ol s j);generalize a8:l9 (Ch.leaves ol s j)=LV at*;go_wp2_with (refine bJ LV I a3 FX.symm a2 ?_);generalize (G.alloc (cells eL 91)).setRow G.heap.size LV=w4 at*;generalize G.heap.size=L4 at*;have⟨Q,E⟩:=HX;have h4:=Q.aB K4 (λx=>x);have Dj:=E.trans' K4 (λi hi x=>x.elim);have E2:=ag (Sc w4 (w.heap.size+1) 0 [] l [] 91 L4 0 [] (Ch.leaves ol s j) [] 91 h4 J rfl ab O rfl oQ);go_wp;refine b9 E2 ?_;rintro w5 ⟨h5,K5⟩;have K6:=Dj.trans K5;go_wp2;exact⟨⟨k+1,_,eb,oQ,x8 _ _,HF,h5,K6⟩,ew⟩
  have a7:¬(k:Int)<list.length:=oQ;have HF:=ag (HE.trans (show _=l by rw[dA oQ];rfl));have Y:=Q.row;have D:=oA J;have iL:=mR J;have X:=qX l;have KZ:Kp _ _ (wr.setRow w.heap.size (l9 l)):=KX.setRow (λx=>oQ) _;generalize hL:l9 l=L at*;have HL:=ag hL;go_wp2_with (first|refine gV Y hds iT D ?_|refine bJ L Z D iL.symm X ?_);refine uY (an _ _ _ _ _ _ Z) hds iT D ?_;rw[HF,HL];exact⟨rfl,KZ⟩
theorem yh.km{w w':World}{B mb E F:Nat}{m:Ma}(h:Mm w B mb E F m)(k:Kp (km B mb w) w w'){v:Value}{l:List Int}(r:yh w v l):yh w' v l:=by
 obtain⟨base,D⟩:=r;exact⟨base,h.row k D aV aV⟩
theorem D9 w B mb U X ol m v list(h:yh w v list)(a1:Ae ol list)(hl:list.length<=1000)(hp:Pl w U X ol)(G:ol.Ok)(hm:Mm w B mb U X m)(hs:m.s.Ok)(hB:B<=w.heap.size)(hz:m.Sz 800000000):
 Calls prog 71 #[pointer (some ⟨mb,0,none⟩),v] w λx w'=>x=returned (tuple #[])/\Mm w' B mb U X (Ch.enter ol m list)/\Kp (km B mb w) w w':=by
 have⟨ds,hds,iT⟩:=Bz;have wT:=G.ah;have J:=hs.1.1;have R:=ak w (cells eL 91);have ad:=lE.ofRow (an (w.alloc (cells eL 91)) w.heap.size eL (l9 m.s.act) 91 (0,0) R);have K2:=rQ w (cells eL 91) (l9 m.s.act);have ab:=hm.still K2;have am:=hp.aB K2 (λ_ _ _ _ _ x=>x);have h2:=h.aB K2 (λ_ _ _ x=>x);have⟨qv,ov,hmb,_⟩:=id hm;have a0:∀j u,(m.s.act.map Value.bool)[j]? =some u->w.cell? ⟨mb,1+j,none⟩=some u:=by
  intro j u Z;have aI:j<16:=by have:=(aM.1 Z).1;simp at this;omega
  have:=lE.cell (pre:=[pointer (some ⟨U,X,none⟩)]) hmb J aI;rw[bD]at Z;cases e:m.s.act[j]? with
  |none=>rw[e]at Z;simp at Z
  |some b=>rw[e]at Z;simp at Z;subst Z;simpa[Ch.bit,e]using this
 have ap:=oA J;have FX:=mR J;have a4:=qX m.s.act;have Pn:(prog.info? 91).map (·.size)=some (m.s.act.map Value.bool).length:=by rw[ap];simp[l9]
 have HU:=ag (show Ch.enter ol m list=fm ol m.s.act (eS ol m.s list) ol.ah.length 0 m from rfl);have ba:=Lz ol m.s list;go_in;go_wp2_with (first|refine bS rfl 91 (tmp 10) rfl mb 1 rfl (m.s.act.map Value.bool) ds a0 hds iT Pn ?_|refine bJ (l9 m.s.act) R ap FX.symm a4 ?_);generalize (w.alloc (cells eL 91)).setRow w.heap.size (l9 m.s.act)=w2 at*;have bb:=ad.lt;have⟨qv,ov,hmb,_⟩:=id ab;have E0:=ag (Pe w2 mb U X m.s qv ov ol v list h2 a1 hl hmb hs.1 am G);go_wp;refine fu E0 ?_;rintro x w3 ⟨gv,rfl,og,K3⟩;have aO:yh _ _ _:=⟨_,og⟩
 have O:=ab.still K3;have a3:=am.aB K3 (λ_ _ _ _ _ x=>x);have RJ:=ad.aB K3 (λx=>x);have KW:=K2.trans K3;have a7:B<=w3.heap.size:=by have:=KW.size;omega
 generalize eS ol m.s list=goals at*;generalize w.heap.size=sb at*;generalize eK:m.s.act=cZ at*;go_wp21;go_loopw [6] (λi wr=>∃(k:Nat) (F:Ma),i= int i64 k/\k<=ol.ah.length/\Hid (fm ol cZ goals ol.ah.length 0 m=fm ol cZ goals (ol.ah.length-k) k F)/\Mm wr B mb U X F/\F.s.Ok/\F.Sz (800000000+115202*k)/\Kp (km B mb w3) w3 wr) (λi _=>ol.ah.length-(intOf i).toNat)
 case atStart=>exact⟨0,m,rfl,aA _,ag rfl,O,hs,hz,Kp.refl _ _⟩
 case round=>
  obtain⟨k,F,rfl,hk,HE,D,Q,aa,I⟩:=hrel;have E:=O.pl I a3;have Po:=yh.km O I aO;have aS:lE _ _ _ _ _ _:=O.at_ I RJ aV aV;have a8:B<=wr.heap.size:=by have:=I.size;omega
  have cp:=D.lK;have⟨ao,cap,c2⟩:=E.str.len;by_cases a2:k<ol.ah.length
  ·have a6:(k:Int)<ol.ah.length:=oQ;have ef:ol.ah.length-k=(ol.ah.length-(k+1))+1:=oQ;have⟨VY,ov',hmb,_⟩:=id D;have E1:=ag (Pd wr mb U X F.s VY ov' ol k sb cZ gv goals aS J Po oQ hmb Q.1 E G);have HX:=c_ D E I;cases q1:ky ol.ah F.s.act cZ goals (k:Int)with
   |false=>
    rw[q1]at E1;have HF:=ag (HE.trans (show _=fm ol cZ goals (ol.ah.length-(k+1)) (k+1) F by rw[ef];simp only[fm];rw[q1];rfl));go_wp;refine b9 E1 ?_;intro w4 Y;have⟨D,E,I⟩:=HX;have M4:=D.still Y;have K5:=Km.trans I (Kp.km Y);go_wp2;exact⟨⟨k+1,F,eb,oQ,HF,M4,Q,aa.le oQ,K5⟩,ew⟩
   |true=>?_
   rw[q1]at E1;have HF:=ag (HE.trans (show _=fm ol cZ goals (ol.ah.length-(k+1)) (k+1) (dT ol F k)by rw[ef];simp only[fm];rw[q1];rfl));have aj:=xr (ol:=ol) Q k;have a5:=xt G aa k;go_wp;refine b9 E1 ?_;intro w4 Y;have⟨D,E,I⟩:=HX;have M4:=D.still Y;have A9:=E.aB Y (λ_ _ _ _ _ x=>x);have K5:=Km.trans I (Kp.km Y);have E2:=ag (BG w4 B mb U X ol F k A9 G M4 Q (by have:=Y.size;omega) (aa.le oQ) a2);go_wp21;refine fu E2 ?_;rintro x w5 ⟨rfl,M5,K6⟩;have K7:=Km.trans K5 K6;go_wp2;exact⟨⟨k+1,_,eb,oQ,HF,M5,aj,a5.le oQ,K7⟩,ew⟩
  have a9:¬(k:Int)<ol.ah.length:=oQ;have HF:=ag (HE.trans (show _=F by rw[show ol.ah.length-k=0 by omega];rfl));have K2:=Km.trans (Kp.km KW) I;go_wp2;go_end0
  rw[HU,HF];exact⟨rfl,D,K2⟩
theorem Km.YG{B mb w w'}(k:Kp (km B mb w.drew) w.drew w'):Kp (km B mb w) w w':=⟨k.os,k.tape,k.output,k.size,k.block⟩
theorem zx{w w':World}{b}{o}{c}{T}{f}(h:w.heap[b]? =some (cells c T f))(D:w'.heap[b]? =some (cells c T f)){v}(E:w.cell? ⟨b,o,none⟩=some v):w'.cell? ⟨b,o,none⟩=some v:=by
 unfold World.cell? at*;simp_all
theorem Pl.trB{w I J ol}(h:Pl w I J ol){k}{t}(E:ol.dF[k]? =some t):
 ∃g D ac B,w.cell? ⟨I,J+3,none⟩=some (slice (some ⟨g,0,none⟩) ol.dF.length D)/\w.cell? ⟨g,k*7+5,none⟩=some ac/\w.ownsRow B 255 3 ac t.bM.length (iW t.bM)/\
  (∃c T,w.heap[I]? =some (cells c T (0,0))/\T≠149/\T≠5)/\∃c,w.heap[g]? =some (cells c 209 (0,0)):=by
 have⟨sv,tv,bv,lt,lb,B,c,T,⟨hb,hT,c2,c3,c4⟩,F⟩:=h;rw[<-F.G8,bD]at E;cases G:lt[k]? with
 |none=>simp_all
 |some x=>?_
 rw[G]at E;simp at E;subst E;have hk:=(aM.1 G).1;obtain⟨g,D,rfl⟩:=jn F.dF oQ;refine⟨g,D,x.2,B,by rw[<-F.G8,fN];simp[World.cell?,hb,c3],?_,F.kZ x (aP G),⟨c,T,hb,?_,?_⟩,bC F.dF rfl⟩
 ·rw[F.dF.cellAt (k*7+5) oQ];exact A3 _ 7 jF lt k 5 x G oQ
 ·grind[oT]
 grind[oT]
theorem yh.cj{w g n D l}(h:yh w (slice (some ⟨g,0,none⟩) n D) l):∃c,w.heap[g]? =some (cells c 3 (0,0)):=by
 have⟨base,ho⟩:=h;exact bC ho rfl
theorem tD w B mb E I ol m v list(h:yh w v list)(ab:Ae ol list)(hl:list.length<=16)(hp:Pl w E I ol)(G:ol.Ok)(hm:Mm w B mb E I m)(hs:m.s.Ok)(hB:B<=w.heap.size)(hz:m.Sz 700000000):
 Calls prog 81 #[pointer (some ⟨mb,0,none⟩),v] w λx w'=>x=returned (tuple #[])/\Mm w' B mb E I (eh ol m list)/\Kp (km B mb w) w w':=by
 have wT:=G.ah;have X:=Af ol m.s list;have HU:=ag (show eh ol m list=Ch.enter ol (gq ol list (dD ol (dM ol m.s list) ol.ah.length {m with s:=Ch.rem ol.ah m.s (dM ol m.s list)})) list from rfl);have⟨qv,ov,hmb,_⟩:=id hm;have E0:=ag (Ii w mb E I m.s qv ov ol v list h ab oQ hmb hs.1 hp G);go_in;go_wp;refine b9 E0 ?_;intro Z O;generalize dM ol m.s list=left at*;have aa:=ak Z (cells eL 91);have Q:=lE.ofRow (an (Z.alloc (cells eL 91)) Z.heap.size eL (l9 left) 91 (0,0) aa);have K2:Kp _ _ ((Z.alloc (cells eL 91)).setRow Z.heap.size (l9 left)):=(O.alloc _).setRow (λx=>by have:=O.size;omega) _;have F:=hm.still K2;have J:=hp.aB K2 (λ_ _ _ _ _ x=>x);have h2:=h.aB K2 (λ_ _ _ x=>x);have bi:mb<Z.heap.size:=by have:=hm.lt;have:=O.size;omega
 have a7:=oA X;have FX:=mR X;have a5:=qX left;generalize bk:l9 left=LV at*;go_wp2_with (refine bJ LV aa a7 FX.symm a5 ?_);generalize (Z.alloc (cells eL 91)).setRow Z.heap.size LV=w2 at*;generalize Z.heap.size=lb at*;go_upto_region 1 with fail;dsimp only[Act.put];have⟨qv,ov,hmb,oq,oo,ap⟩:=id F;have cp:=hmb.lK;have a1:E≠mb:=by
  have⟨sv,tv,bv,lt,lb',B',c,T,⟨hb,hT,_⟩,_⟩:=J;intro e;have a2:w2.heap[mb]? =some (cells _ 149 (0,0)):=hmb;rw[e,a2]at hb;simp at hb;obtain⟨_,rfl⟩:=hb;revert hT;unfold oT;decide
 have E1:=ag (FP E I w2.drew ol.ah mb 1 [pointer (some ⟨E,I,none⟩)] m.s [qv,ov] 149 lb 0 [] left [] 91 (by exact J.str) oQ (by exact hmb) hs.1 rfl (by exact Q) X rfl oQ a1 aV);have HX:=fM hmb oq oo ap;have HY:=rP F J Q h2 K2;go_cut [4]from 9 to 16 (λb wx=>b= pointer (some ⟨lb,0,none⟩)/\Mm wx B mb E I {m with s:=Ch.rem ol.ah m.s left}/\Kp (km B mb w2) w2 wx)
 case first=>
  go_region_with (go_at_call 132;refine b9 E1 ?_;rintro w3 ⟨h3,K3⟩;have H:=bw h3 K3)
  all_goals (go_wp2;go_meet;have⟨hmb,oq,oo,ap⟩:=HX;have⟨h3,K3⟩:=H;exact⟨rfl,Mm.put (w:=w2) hmb oq oo ap (((Kp.refl (λk=>k=mb) w2).drewN 1).trans K3) (by exact h3)⟩)
 case rest=>
 obtain⟨rfl,M3,K3⟩:=hcut;have⟨F,J,Q,h2,K2⟩:=HY;have R:=F.pl K3 J;have RJ:lE _ _ _ _ _ _:=F.at_ K3 Q aV aV;have h3:=yh.km F K3 h2;have KC:=Km.trans (Kp.km (B:=B) (mb:=mb) K2) K3;have aO:({m with s:=Ch.rem ol.ah m.s left}:Ma).s.Ok:=FW _ hs;have aS:({m with s:=Ch.rem ol.ah m.s left}:Ma).Sz 700000000:=hz;generalize ({m with s:=Ch.rem ol.ah m.s left}:Ma)=m1 at*;have a4:B<=wc.heap.size:=by have:=KC.size;omega
 have E2:=ag (O_ wc B mb E I ol m1 lb left RJ X R G M3 aO a4 (aS.le oQ));have HY:=fM M3 R h3 KC;have a6:=zv ol left ol.ah.length aO;have a9:=zw G left ol.ah.length aS;go_wp;refine b9 E2 ?_;rintro w4 ⟨M4,K4⟩;have⟨M3,R,h3,KC⟩:=HY;have A9:=M3.pl K4 R;have h4:=yh.km M3 K4 h3;have KD:=Km.trans KC K4;have bc:B<=w4.heap.size:=by have:=K4.size;omega
 generalize dD ol left ol.ah.length m1=m2 at*;have a3:m2.Sz 710000000:=a9.le oQ;obtain⟨ao,bb,rfl⟩:=h4.len;go_wp21;go_loopw [5] (λi wr=>∃(k:Nat) (Y:Ma),i= int i64 k/\k<=list.length/\Hid (gq ol list m2=gq ol (list.drop k) Y)/\Mm wr B mb E I Y/\Y.s.Ok/\Y.Sz (710000000+480*k)/\Kp (km B mb w4) w4 wr) (λi _=>list.length-(intOf i).toNat)
 case atStart=>exact⟨0,m2,rfl,aA _,ag rfl,M4,a6,a3,Kp.refl _ _⟩
 case round=>
  obtain⟨k,Y,rfl,hk,HE,D,ad,U,O⟩:=hrel;have aI:=M4.pl O A9;have hr:=yh.km M4 O h4;have aj:B<=wr.heap.size:=by have:=O.size;omega
  by_cases am:k<list.length
  ·have ba:(k:Int)<list.length:=oQ;obtain⟨a,ha⟩:∃s,list[k]? =some s:=⟨_,au am⟩
   have⟨g,cap',hg,a0⟩:=hr.at_ ha;simp only[aH,cA]at hg;obtain⟨rfl,rfl⟩:=hg;have ed:list.drop k=a::list.drop (k+1):=by
    rw[eR am];congr 1;exact(aM.1 ha).2
   have⟨ha1,ha2⟩:=ab a (aP ha);obtain⟨j,rfl⟩:∃j:Nat,a=j:=⟨a.toNat,oQ⟩
   have hj:j<ol.dF.length:=oQ;have bg:(j:Int)<ol.dF.length:=oQ;obtain⟨t,ht⟩:∃s,ol.dF[j]? =some s:=⟨_,au hj⟩
   have⟨tg,YC,ac,base,c3,b5,hac,⟨cob,Tob,wm,hT1,hT2⟩,ctg,htg⟩:=aI.trB ht;have⟨cg,hgb⟩:=hr.cj;have cp:=D.lK;have Dk:=G.kZ t (aP ht);have HF:=ag (HE.trans (show _=gq ol (list.drop (k+1)) (eD t.bM Y)by rw[ed];simp only[gq,dE,sC,ht]));have E1:=ag (Sw wr.drew B mb E I Y t.bM ac base (by exact hac) (by exact D) ad Dk.2 aj (by have:=Dk.1;omega) (by have:=U.1;omega) (by have:=U.2;omega));have fW:=tz t.bM ad;have a8:=wy U Dk.1;have HK:=rP O D wm htg hgb;go_upto_region 6 with fail;go_region_held3 (λw'=>w'.cell? ⟨mb,0,none⟩=some (pointer (some ⟨E,I,none⟩))/\w'.cell? ⟨E,I+3,none⟩=some (slice (some ⟨tg,0,none⟩) ol.dF.length YC)/\w'.cell? ⟨g,k,none⟩=some (int i64 j)/\w'.cell? ⟨tg,j*7+5,none⟩=some ac) (first|exact⟨cp,c3,a0,b5⟩|exact HS) ((go_at_call 134;refine b9 E1 ?_;rintro w5 ⟨h5,K5⟩;have H:=bw h5 K5;have⟨O,D,wm,htg,hgb⟩:=HK;have HS:=fM h5.lK (zx wm (Mm.at_ (w:=wr.drew) (by exact D) K5 (by exact wm) hT1 hT2) c3) (zx hgb (Mm.at_ (w:=wr.drew) (by exact D) K5 (by exact hgb) aV aV) a0) (zx htg (Mm.at_ (w:=wr.drew) (by exact D) K5 (by exact htg) aV aV) b5)))
   all_goals (
    have⟨M5,K6⟩:=H;have K5:=Km.trans HK.1 (Km.YG K6);go_wp2;go_roundw
    case rel=>exact⟨k+1,_,eb,oQ,HF,M5,fW,a8.le oQ,K5⟩
    case measure=>simp[intOf];omega)
  have be:¬(k:Int)<list.length:=oQ;have HF:=ag (HE.trans (show _=Y by rw[dA oQ];rfl));have K2:=Km.trans KD O;have E2:=ag (D9 wr B mb E I ol Y _ list hr ab oQ aI G D ad aj (U.le oQ));go_wp;refine b9 E2 ?_;rintro w5 ⟨M5,K5⟩;have K6:=Km.trans K2 K5;go_wp2;go_end0
  rw[HU,HF];exact⟨rfl,M5,K6⟩
theorem Ij w B mb I J ol m(hp:Pl w I J ol)(G:ol.Ok)(hm:Mm w B mb I J m)(hs:m.s.Ok):
 Calls prog 119 #[pointer (some ⟨mb,0,none⟩)] w λx w'=>x=returned (bool (Ch.busy ol m))/\Kp bA w w':=by
 have⟨qv,ov,D,oq,_⟩:=id hm;have X:=ag (qY w mb I J m.s qv ov ol 46 D hs.1 hp G);have F:=ag (show Ch.busy ol m=(decide (0<(Ch.choose ol m.s 46).length)||decide (0<m.q.length))from rfl);have Y:=ag D;go_in;go_wp;refine fu X ?_;rintro x w1 ⟨v1,rfl,h1,E⟩;have D:j4 _ _ _ _ _ _ _:=fq.aB Y E (λx=>x);have cq:=D.queue hs.1;obtain⟨qo,qc,rfl⟩:=oq.len;have Z:(aF m.q).length=m.q.length:=by simp[aF]
 rw[Z]at cq;generalize Ch.choose ol m.s 46=list at*;obtain⟨ao,aa,rfl⟩:=h1.len;by_cases O:0<list.length
 ·have Q:(0:Int)<list.length:=oQ;go_wp2;go_ret;rw[F];exact⟨by simp[O],E⟩
 have Q:¬(0:Int)<list.length:=oQ;by_cases U:0<m.q.length
 ·have R:(0:Int)<m.q.length:=oQ;go_wp2;go_ret;rw[F];exact⟨by simp[O,U],E⟩
 have R:¬(0:Int)<m.q.length:=oQ;go_wp2;go_ret;rw[F];exact⟨by simp[O,U],E⟩
theorem dW.head{w base v a q}(h:dW w base v (aF (a::q))):
 ∃g D E,v= slice (some ⟨g,D,none⟩) (q.length+1) E/\w.cell? ⟨g,D,none⟩=some (int .u8 a)/\q.length+1<=E/\dW w base (slice (some ⟨g,D+1,none⟩) q.length (E-1)) (aF q)/\(E=1->dW w base (slice (some ⟨g,D,none⟩) q.length 0) (aF q)):=by
 rcases h with⟨_,h⟩|⟨g,D,E,F,rfl,hb,I,J,hs,O⟩
 ·grind[aF]
 have R:(aF (a::q)).length=q.length+1:=by simp[aF]
 have G:(aF q).length=q.length:=by simp[aF]
 rw[R]at J⊢;refine⟨g,D,E,rfl,?_,J,inr ⟨g,D+1,E-1,F,by rw[G],hb,I,by rw[G];omega,oQ,?_⟩,λe=>inr ⟨g,D,0,F,by rw[G],hb,I,by rw[G];omega,oQ,?_⟩⟩
 ·rw[nt w g D F _ _ I];exact O 0 _ (by simp[aF])
 ·intro j u Q;have:=O (j+1) u (by simpa[aF]using Q);grind
 simp_all
theorem Mm.deq{w B mb G I s qv E V q out}(hm:j4 w mb G I s qv E)(hw:s.Wf)(O:dW w B V (aF q))(J:dW w B E (aF out))(Q:mM V E):
 Mm (w.setCell ⟨mb,37,none⟩ V) B mb G I ⟨s,q,out⟩/\j4 (w.setCell ⟨mb,37,none⟩ V) mb G I s V E/\Kp (km B mb w) w (w.setCell ⟨mb,37,none⟩ V):=by
 have D:=hm.Ll hw V;have F:Kp _ w _:=Kp.setCell (S:=λk=>k=mb) (Kp.refl _ _) (p:=⟨mb,37,none⟩) (λ_=>rfl) V;have R:=O.ne hm aV;have U:=J.ne hm aV;exact⟨⟨_,_,D,O.aB F (λi hi x=>by subst x;exact R hi),J.aB F (λi hi x=>by subst x;exact U hi),Q⟩,D,(Kp.refl _ _).trans' F (λi _ x=>inl x)⟩
theorem Pp w B mb Q R ol m(Z:Pl w Q R ol)(G:ol.Ok)(hm:Mm w B mb Q R m)(hs:m.s.Ok)(hB:B<=w.heap.size)(hz:m.Sz 700000000):
 Calls prog 120 #[pointer (some ⟨mb,0,none⟩)] w λx w'=>x=returned (tuple #[])/\Mm w' B mb Q R (Ch.round ol m)/\Kp (km B mb w) w w':=by
 have⟨qv,ov,hmb,oq,oo,ap⟩:=id hm;have E0:=ag (qY w mb Q R m.s qv ov ol 46 hmb hs.1 Z G);have HX:=Hi hmb oq oo ap hm Z;have⟨hin,h16⟩:=mP ol m.s 46;have wT:=G.ah;cases q1:(Ch.choose ol m.s 46).length==0 with
 |false=>
  rw[show Ch.round ol m=eh ol m (Ch.choose ol m.s 46)by unfold Ch.round;rw[q1];rfl];go_in;go_wp;refine fu E0 ?_;rintro x w1 ⟨v1,rfl,h1,E⟩;have⟨hmb,oq,oo,ap,hm,Z⟩:=HX;have F:=hm.still E;have I:=Z.aB E (λ_ _ _ _ _ x=>x);have Y:=ag (tD w1 B mb Q R ol m _ _ h1 hin oQ I G F hs (by have:=E.size;omega) hz);generalize aS:Ch.choose ol m.s 46=list at*;have HL:=ag aS;obtain⟨ao,ab,rfl⟩:=h1.len
  have a3:¬((list.length:Int)=0):=by intro e;have:list.length=0:=oQ
                                     rw[this]at q1;exact absurd q1 aV
  have a5:((list.length:Int)==0)=false:=cX a3;go_wp21;refine fu Y ?_;rintro x w2 ⟨rfl,O,U⟩;have J:=Km.trans (Kp.km E) U;go_wp2;go_end0
  rw[HL];exact⟨rfl,O,J⟩
 |true=>?_
 have e0:Ch.choose ol m.s 46=[]:=by
  cases q:Ch.choose ol m.s 46 with
  |nil=>rfl
  |cons a l=>rw[q]at q1;simp at q1
 cases q2:m.q with
 |nil=>
  rw[show Ch.round ol m=eh ol m []by unfold Ch.round;rw[q1,q2,e0];rfl];rw[e0]at E0;go_in;go_wp;refine fu E0 ?_;rintro x w1 ⟨v1,rfl,h1,E⟩;have⟨hmb,oq,oo,ap,hm,Z⟩:=HX;have F:=hm.still E;have I:=Z.aB E (λ_ _ _ _ _ x=>x);have Y:=ag (tD w1 B mb Q R ol m _ _ h1 (by intro n hn;simp at hn) dy I G F hs (by have:=E.size;omega) hz);have aI:j4 _ _ _ _ _ _ _:=fq.aB hmb E (λx=>x);have cq:=aI.queue hs.1;obtain⟨qo,qc,rfl⟩:=oq.len;have YH:(aF m.q).length=0:=by rw[q2];rfl
  rw[YH]at cq;obtain⟨ao,ab,rfl⟩:=h1.len;simp only[kN]at Y;go_wp21;refine fu Y ?_;rintro x w2 ⟨rfl,O,U⟩;have J:=Km.trans (Kp.km E) U;go_wp2;go_end0
  exact⟨rfl,O,J⟩
 |cons a q=>?_
 have ad:({m with q:=q}:Ma).Sz 700000000:=⟨by have:=hz.1;rw[q2]at this;simp at this⊢;omega,hz.2⟩
 rw[show Ch.round ol m=eh ol {m with q:=q} (Ch.choose ol m.s a)by unfold Ch.round;rw[q1,q2];rfl];rw[e0]at E0;go_in;go_wp;refine fu E0 ?_;rintro x w1 ⟨v1,rfl,h1,E⟩;obtain⟨ao,ab,rfl⟩:=h1.len;simp only[kN];have⟨hmb,oq,oo,ap,hm,Z⟩:=HX;have F:j4 _ _ _ _ _ _ _:=fq.aB hmb E (λx=>x);have I:=Z.aB E (λ_ _ _ _ _ x=>x);have cq:=F.queue hs.1;have am:=oq.aB E (λ_ _ x=>x);have aj:=oo.aB E (λ_ _ x=>x);rw[q2]at am;obtain⟨g,X,VZ,rfl,cg,a0,a1,a2⟩:=am.head;have fz:=λi=>fq.free F i;have aa:=hm.still E;have a4:(q.length:Int)+1<=(VZ:Int):=oQ;by_cases aO:VZ=1
 ·subst aO;obtain rfl:q=[]:=by
   cases q with
   |nil=>rfl
   |cons b l=>simp at a0
  have⟨O,hm2,U⟩:=Mm.deq (V:=slice (some ⟨g,X,none⟩) 0 0) F hs.1 (a2 rfl) aj (λi hi x=>ap i (by simpa[Value.ownBlock]using hi) x);have D:=aa.pl U I;have J:=Km.trans (Kp.km E) U;have Y:=ag (qY (w1.setCell ⟨mb,37,none⟩ (slice (some ⟨g,X,none⟩) 0 0)) mb Q R m.s _ _ ol a hm2 hs.1 D G);have HY:=c_ O D J;have⟨hin,h16⟩:=mP ol m.s a;go_wp;refine fu Y ?_;rintro x w4 ⟨v4,rfl,h4,K4⟩;have⟨O,D,J⟩:=HY;have M4:=O.still K4;have A9:=D.aB K4 (λ_ _ _ _ _ x=>x);have K5:=Km.trans J (Kp.km K4);have E2:=ag (tD w4 B mb Q R ol _ _ _ h4 hin oQ A9 G M4 hs (by have:=K5.size;omega) ad);go_wp21;refine fu E2 ?_;rintro x w5 ⟨rfl,M5,K6⟩;have K7:=Km.trans K5 K6;go_wp2;go_end0
  exact⟨rfl,M5,K7⟩
 have⟨O,hm2,U⟩:=Mm.deq (V:=slice (some ⟨g,X+1,none⟩) q.length (VZ-1)) F hs.1 (a1) aj (λi hi x=>ap i (by simpa[Value.ownBlock]using hi) x);have D:=aa.pl U I;have J:=Km.trans (Kp.km E) U;have Y:=ag (qY (w1.setCell ⟨mb,37,none⟩ (slice (some ⟨g,X+1,none⟩) q.length (VZ-1))) mb Q R m.s _ _ ol a hm2 hs.1 D G);have HY:=c_ O D J;have⟨hin,h16⟩:=mP ol m.s a;go_wp;refine fu Y ?_;rintro x w4 ⟨v4,rfl,h4,K4⟩;have⟨O,D,J⟩:=HY;have M4:=O.still K4;have A9:=D.aB K4 (λ_ _ _ _ _ x=>x);have K5:=Km.trans J (Kp.km K4);have E2:=ag (tD w4 B mb Q R ol _ _ _ h4 hin oQ A9 G M4 hs (by have:=K5.size;omega) ad);go_wp21;refine fu E2 ?_;rintro x w5 ⟨rfl,M5,K6⟩;have K7:=Km.trans K5 K6;go_wp2;go_end0
 exact⟨rfl,M5,K7⟩
theorem pA{α:Type}(l:List α)i a:l.toArray.setIfInBounds i a=(l.set i a).toArray:=List.setIfInBounds_toArray ..
theorem pB{α:Type}x l i(a:α):(x::l).set (i+1) a=x::l.set i a:=rfl
theorem pC{α:Type}x l(a:α):(x::l).set 0 a=a::l:=rfl
section
variable {P:Program} {Q:Exit->Act->World->Prop} {S:World->Prop}
theorem aY S{id}{l:List Oper}{a}{w}(hm:P.follows .mixedOrders=true)(h:wpAnyH P .any l.toArray (NoPanic Q) S l.length (Array.replicate l.length false) a w.drew):(Code.region id l.toArray true).wp P Q a w:=
 wp_region_noPanic (wp_region_held (S:=S) hm (cX h))
theorem V0{E}i(d:Nat){G:Oper}v{F}{D}{a}{w}(hi:E[i]? =some G)(hs:Region.noSelect E=true)(O:Region.free .any E D i=true)(U:(Region.ready .any E D).contains i=true)(R:G.guard=none)(J:G.dst=some d)(X:∀w',S w'->(execOp a.eval G).run P w'= .ok (.value v) w')(I:S w)(h:wpAnyH P .any E (NoPanic Q) S F (D.setIfInBounds i true) (a.put (some d) v) w):wpAnyH P .any E (NoPanic Q) S (F+1) D a w:=
 wpAnyH_take hi hs O U (λ_ _ _ h=>h) (inl ⟨by simp[Region.wanted,R],X⟩) I (by rw[J];exact h)
theorem tk{E}i(d:Nat){G:Oper}v{F}{D}{a}{w}(hi:E[i]? =some G)(hb:(Region.noSelect E&&Region.free .any E D i&&(Region.ready .any E D).contains i)=true)(O:G.guard=none)(J:G.dst=some d)(R:∀w',S w'->(execOp a.eval G).run P w'= .ok (.value v) w')(I:S w)(h:wpAnyH P .any E (NoPanic Q) S F (D.setIfInBounds i true) (a.put (some d) v) w):wpAnyH P .any E (NoPanic Q) S (F+1) D a w:=by
 grind[V0]
theorem ym{E}i{G}{F}{D}{a}{w}(J:Region.ready .any E D=[i])(hi:E[i]? =some G)(I:G.guard=none)(h:G.wp P a w (λa' w'=>S w'/\wpAnyH P .any E (NoPanic Q) S F (D.setIfInBounds i true) a' w') (NoPanic Q)):wpAnyH P .any E (NoPanic Q) S (F+1) D a w:=
 wpAnyH_all J dy (λj hj=>by
  simp at hj;subst hj;have hw:Region.wanted G (yielded E a.tmps)=true:=by simp[Region.wanted,I]
  simp only[wpOp,hi,hw,aQ];exact inl h)
end
theorem er{P o a w K Q}d(F:o.dst=d)f args(D:(execOp a.eval o).run P w= .ok (.enter f args) w)v(R:World->Prop)(E:Calls P f args w λe w'=>e=returned v/\R w')(h:∀w',R w'->K (a.put d v) w'):o.wp P a w K Q:=by
 subst F;unfold Oper.wp;rw[D,Oper.upon_enter];refine E.mono λe w' hh=>?_;simp_all
theorem gA{P o a w K Q}d(E:o.dst=d)v w'(D:(execOp a.eval o).run P w= .ok (.value v) w')(h:K (a.put d v) w'):o.wp P a w K Q:=by
 subst E;unfold Oper.wp;rw[D,Oper.upon_value];omega
theorem qZ{P a w Q S E}i j{G}{I}{F}{D}(X:Region.ready .any E D=[i,j])(hi:E[i]? =some G)(U:E[j]? =some I)(J:G.guard=none)(O:I.guard=none)(Y:G.wp P a w (λa' w'=>S w'/\wpAnyH P .any E (NoPanic Q) S F (D.setIfInBounds i true) a' w') (NoPanic Q))(R:I.wp P a w (λa' w'=>S w'/\wpAnyH P .any E (NoPanic Q) S F (D.setIfInBounds j true) a' w') (NoPanic Q)):wpAnyH P .any E (NoPanic Q) S (F+1) D a w:=
 wpAnyH_all X dy (λk hk=>by
  simp only[dB,gJ,gK]at hk;rcases hk with rfl|rfl
  ·have hw:Region.wanted G (yielded E a.tmps)=true:=by simp[Region.wanted,J]
   simp only[wpOp,hi,hw,aQ];simp_all
  have hw:Region.wanted I (yielded E a.tmps)=true:=by simp[Region.wanted,O]
  simp only[wpOp,U,hw,aQ];exact inl R)
theorem bR{P:Program}{Q:Exit->Act->World->Prop}{S:World->Prop}{E:Array Oper}(i d:Nat){G:Oper}(v:Value){F:Nat}{D:Array Bool}{a I:Act}{w:World}(J:S w)
 (h:wpAnyH P .any E (NoPanic Q) S F (D.setIfInBounds i true) I w) (hi:E[i]? =some G:=by exact rfl) (hb:(Region.noSelect E&&Region.free .any E D i&&(Region.ready .any E D).contains i)=true:=by kernel_rfl)
 (U:G.guard=none:=by exact rfl) (R:G.dst=some d:=by exact rfl) (X:∀w',S w'->(execOp a.eval G).run P w'= .ok (.value v) w':=by intro w' _;simp[execOp,Act.eval,go_sem]) (O:a.put (some d) v=I:=by(conv=>lhs;simp only[Act.put,pA,pB,pC]);all_goals exact rfl):wpAnyH P .any E (NoPanic Q) S (F+1) D a w:=
 tk i d v hi hb U R X J (by rw[O];exact h)
theorem fh{P:Program}{Q:Exit->Act->World->Prop}{S:World->Prop}{E:Array Oper}(i d:Nat){G:Oper}(v:Value){F:Nat}{D:Array Bool}{a I:Act}{w:World}(hi:E[i]? =some G)
 (X:∀w',S w'->(execOp a.eval G).run P w'= .ok (.value v) w') (J:S w) (h:wpAnyH P .any E (NoPanic Q) S F (D.setIfInBounds i true) I w) (hb:(Region.noSelect E&&Region.free .any E D i&&(Region.ready .any E D).contains i)=true:=by kernel_rfl)
 (U:G.guard=none:=by exact rfl) (R:G.dst=some d:=by exact rfl) (O:a.put (some d) v=I:=by(conv=>lhs;simp only[Act.put,pA,pB,pC]);all_goals exact rfl):wpAnyH P .any E (NoPanic Q) S (F+1) D a w:=
 tk i d v hi hb U R X J (by rw[O];exact h)
theorem iU{P:Program}{Q:Exit->Act->World->Prop}{S:World->Prop}{E:Array Oper}(i d:Nat){G:Oper}(v:Value){F:Nat}{D:Array Bool}{a:Act}{w:World}(hi:E[i]? =some G)
 (R:∀w',S w'->(execOp a.eval G).run P w'= .ok (.value v) w') (I:S w) (h:wpAnyH P .any E (NoPanic Q) S F (D.setIfInBounds i true) (a.put (some d) v) w) (hb:(Region.noSelect E&&Region.free .any E D i&&(Region.ready .any E D).contains i)=true:=by kernel_rfl)
 (O:G.guard=none:=by exact rfl) (J:G.dst=some d:=by exact rfl):wpAnyH P .any E (NoPanic Q) S (F+1) D a w:=
 tk i d v hi hb O J R I h
theorem pf{P:Program}{Q:Exit->Act->World->Prop}{S:World->Prop}{E:Array Oper}(i:Nat){G:Oper}{F:Nat}{D:Array Bool}{a:Act}{w:World}
 (h:G.wp P a w (λa' w'=>S w'/\wpAnyH P .any E (NoPanic Q) S F (D.setIfInBounds i true) a' w') (NoPanic Q)) (J:Region.ready .any E D=[i]:=by kernel_rfl) (hi:E[i]? =some G:=by exact rfl) (I:G.guard=none:=by exact rfl):wpAnyH P .any E (NoPanic Q) S (F+1) D a w:=
 ym i J hi I h
theorem SM:(prog.info? 149).map (·.size)=some 39:=bZ
theorem YI:(prog.info? 119).map (·.size)=some 42:=bZ
theorem XG:∃d,prog.underlying 87=some d/\ee d=true:=⟨_,underlying87,rfl⟩
theorem aa0:∃d,prog.underlying 119=some d/\ee d=true:=⟨_,underlying119,rfl⟩
theorem BI q Z a1 a2 a3 a4 a5 a6 a7 a8 a9 Q R D U X Y p0 p1 p2 p3 p4 p5 p6 p7 p8 p9 G I J O E F tm x y z:
 prog.built 149 [(0,pointer q),(1,agg #[bool Z,bool a1,bool a2,bool a3,bool a4,bool a5,bool a6,bool a7,bool a8,bool a9,bool Q,bool R,bool D,bool U,bool X,bool Y,int .u8 p0,int .u8 p1,int .u8 p2,int .u8 p3,int .u8 p4,int .u8 p5,int .u8 p6,int .u8 p7,int .u8 p8,int .u8 p9,int .u8 G,int .u8 I,int .u8 J,int .u8 O,int .u8 E,int .u8 F,string tm,int i64 x,int i64 y,int i64 z])]=some #[pointer q,bool Z,bool a1,bool a2,bool a3,bool a4,bool a5,bool a6,bool a7,bool a8,bool a9,bool Q,bool R,bool D,bool U,bool X,bool Y,int .u8 p0,int .u8 p1,int .u8 p2,int .u8 p3,int .u8 p4,int .u8 p5,int .u8 p6,int .u8 p7,int .u8 p8,int .u8 p9,int .u8 G,int .u8 I,int .u8 J,int .u8 O,int .u8 E,int .u8 F,string tm,int i64 x,int i64 y,int i64 z,slice none 0 0,slice none 0 0]:=bZ
def RK(q:Option Addr)(s:Sd):Array Value:=([Value.pointer q]++s.act.map Value.bool++(dK s++[Value.slice none 0 0,Value.slice none 0 0])).toArray
theorem BJ q s(hw:s.Wf):prog.built 149 [(0,pointer q),(1,agg (aN s).toArray)]=some (RK q s):=by
 have⟨act,b_,tm,x,y,z⟩:=s;have⟨h1,h2⟩:=hw;simp only at h1 h2;obtain⟨Z,a1,a2,a3,a4,a5,a6,a7,a8,a9,Q,R,D,U,X,Y,rfl⟩:=ur act h1;obtain⟨p0,p1,p2,p3,p4,p5,p6,p7,p8,p9,G,I,J,O,E,F,rfl⟩:=ur b_ h2;exact BI q Z a1 a2 a3 a4 a5 a6 a7 a8 a9 Q R D U X Y p0 p1 p2 p3 p4 p5 p6 p7 p8 p9 G I J O E F tm x y z
theorem BK q{s}(hw:s.Wf):(RK q s).size=39:=by simp[RK,dK,bP,hw.1,hw.2]
theorem Ik q{s}(hw:s.Wf):(prog.info? 149).map (·.size)=some (RK q s).size:=by rw[BK q hw];exact SM
theorem NM q s:(RK q s).all (λx=>x.oneCell')=true:=by
 apply gH.2;intro x D;simp only[RK,dK,bP,kP,cS,gY,dB,gJ,gK]at D;rcases D with(rfl|⟨a,_,rfl⟩)|((⟨a,_,rfl⟩|rfl|rfl|rfl|rfl)|rfl|rfl)<;>rfl
theorem j4.ofRow{w mb D E s}(h:w.heap[mb]? =some (cells (RK (some ⟨D,E,none⟩) s) 149 (0,0))):j4 w mb D E s (slice none 0 0) (slice none 0 0):=h
def yY(e:Int)(sv tv bv:Value)(s:Sd):Array Value:=([Value.int i64 e,int i64 0,int i64 0,sv,tv,bv]++aN s).toArray
theorem yn e:prog.built 119 [(0,int i64 e)]=some (yY e (slice none 0 0) (slice none 0 0) (slice none 0 0) l8):=bZ
theorem AG a b c l1 c1 l2 c2 l3 c3 Z a1 a2 a3 a4 a5 a6 a7 a8 a9 Q R D U X Y p0 p1 p2 p3 p4 p5 p6 p7 p8 p9 G I J O E F tm x y z:
 prog.built 119 [(1,agg #[int i64 0,int i64 0,slice a l1 c1,slice b l2 c2,slice c l3 c3]),(2,agg #[bool Z,bool a1,bool a2,bool a3,bool a4,bool a5,bool a6,bool a7,bool a8,bool a9,bool Q,bool R,bool D,bool U,bool X,bool Y,int .u8 p0,int .u8 p1,int .u8 p2,int .u8 p3,int .u8 p4,int .u8 p5,int .u8 p6,int .u8 p7,int .u8 p8,int .u8 p9,int .u8 G,int .u8 I,int .u8 J,int .u8 O,int .u8 E,int .u8 F,string tm,int i64 x,int i64 y,int i64 z])]=some #[int i64 0,int i64 0,int i64 0,slice a l1 c1,slice b l2 c2,slice c l3 c3,bool Z,bool a1,bool a2,bool a3,bool a4,bool a5,bool a6,bool a7,bool a8,bool a9,bool Q,bool R,bool D,bool U,bool X,bool Y,int .u8 p0,int .u8 p1,int .u8 p2,int .u8 p3,int .u8 p4,int .u8 p5,int .u8 p6,int .u8 p7,int .u8 p8,int .u8 p9,int .u8 G,int .u8 I,int .u8 J,int .u8 O,int .u8 E,int .u8 F,string tm,int i64 x,int i64 y,int i64 z]:=bZ
theorem Il a b c E c1 F c2 G c3 s(hw:s.Wf):
 prog.built 119 [(1,agg #[int i64 0,int i64 0,slice a E c1,slice b F c2,slice c G c3]),(2,agg (aN s).toArray)]=some (yY 0 (slice a E c1) (slice b F c2) (slice c G c3) s):=by
 have⟨act,b_,tm,x,y,z⟩:=s;have⟨h1,h2⟩:=hw;simp only at h1 h2;obtain⟨a0,a1,a2,a3,a4,a5,a6,a7,a8,a9,X,Y,D,Z,Dh,Di,rfl⟩:=ur act h1;obtain⟨p0,p1,p2,p3,p4,p5,p6,p7,p8,p9,O,Q,R,U,I,J,rfl⟩:=ur b_ h2;exact AG a b c E c1 F c2 G c3 a0 a1 a2 a3 a4 a5 a6 a7 a8 a9 X Y D Z Dh Di p0 p1 p2 p3 p4 p5 p6 p7 p8 p9 O Q R U I J tm x y z
theorem q_ e sv tv bv{s}(hw:s.Wf):(yY e sv tv bv s).size=42:=by simp[yY,dp hw]
theorem tE e sv tv bv{s}(hw:s.Wf):(prog.info? 119).map (·.size)=some (yY e sv tv bv s).size:=by rw[q_ e sv tv bv hw];exact YI
theorem wB e{sv}{tv}{bv}(E:sv.oneCell'=true)(F:tv.oneCell'=true)(G:bv.oneCell'=true)s:(yY e sv tv bv s).all (λx=>x.oneCell')=true:=by
 apply gH.2;intro x D;simp only[yY,aN,dK,bP,kP,cS,gY,dB,gJ,gK]at D;rcases D with(rfl|rfl|rfl|rfl|rfl|rfl)|(⟨a,_,rfl⟩|⟨a,_,rfl⟩|rfl|rfl|rfl|rfl)<;>first|rfl|assumption
theorem cQ{P Q S E}i{J}{F}{D}{a}{w}(hr:Region.ready .any E D=[i])(hi:E[i]? =some J)(Z:J.guard=none)ty x y(ho:J.op= .store ty x y)(Y:J.dst=none)g cells(hx:a.eval x= pointer (some ⟨g,0,none⟩))(hy:a.eval y= agg cells)t G(O:w.heap[g]? =some (.cells G t (0,0)))(U:(P.info? ty).map (·.size)=some cells.size)(I:G.size=cells.size)(R:cells.all (·.oneCell')=true)(X:S (w.setRow g cells))(h:wpAnyH P .any E (NoPanic Q) S F (D.setIfInBounds i true) a (w.setRow g cells)):wpAnyH P .any E (NoPanic Q) S (F+1) D a w:=
 ym i hr hi Z (wp_store_row ty x y ho g cells hx hy t G O U I R (by rw[Y];exact⟨X,h⟩))
theorem eT{P o}{a:Act}{w}ty x(E:o.op= .load ty x)b k(I:a.eval x= pointer (some ⟨b,k,none⟩))(D:List Value)d(F:∀j v,D[j]? =some v->w.cell? ⟨b,k+j,none⟩=some v)(hu:P.underlying ty=some d)(G:ee d=true)(hi:(P.info? ty).map (·.size)=some D.length):(execOp a.eval o).run P w= .ok (.value (agg D.toArray)) w:=by
 unfold execOp;simp only[E,I,Instr.loadAt,Instr.sureAddr,kQ,np,kR,tn w b k ty D d F hu G hi]
theorem dR{P o}{a:Act}{w}ty x(E:o.op= .load ty x)g(I:a.eval x= pointer (some ⟨g,0,none⟩))t D F d(G:w.heap[g]? =some (cells D t F))(hu:P.underlying ty=some d)(J:ee d=true)(hi:(P.info? ty).map (·.size)=some D.size):(execOp a.eval o).run P w= .ok (.value (agg D)) w:=by
 unfold execOp;simp only[E,I,Instr.loadAt,Instr.sureAddr,kQ,np,kR,run_loadVar_row w g t ty D F d G hu (by cases d<;>simp_all [ee]) hi]
theorem pY{P o}{a:Act}{w}t u x(D:o.op= .convert t u x)v r(E:a.eval x=v)(h:(convert t u v).run P w= .ok r w):
 (execOp a.eval o).run P w= .ok (.value r) w:=by
 unfold execOp;simp_all
theorem j4.stand{w mb D F s qv E}(h:j4 w mb D F s qv E):∀j v,(aN s)[j]? =some v->w.cell? ⟨mb,1+j,none⟩=some v:=by
 intro j v G;unfold j4 fq lE at h;rw[World.cell?,h];grind[aN,dK]
theorem Kl{P o a w K Q}d(E:o.dst=d)v w'(D:(execOp a.eval o).run P w= .ok (.value v) w')(h:K (a.put d v) w'):o.wp P a w K Q:=by
 subst E;unfold Oper.wp;rw[D,Oper.upon_value];omega
theorem FY{P a w Q S E}i j{G}{I}{F}{D}(X:Region.ready .any E D=[i,j])(hi:E[i]? =some G)(U:E[j]? =some I)(J:G.guard=none)(O:I.guard=none)(Y:G.wp P a w (λa' w'=>S w'/\wpAnyH P .any E (NoPanic Q) S F (D.setIfInBounds i true) a' w') (NoPanic Q))(R:I.wp P a w (λa' w'=>S w'/\wpAnyH P .any E (NoPanic Q) S F (D.setIfInBounds j true) a' w') (NoPanic Q)):wpAnyH P .any E (NoPanic Q) S (F+1) D a w:=
 wpAnyH_all X dy (λk hk=>by
  simp only[dB,gJ,gK]at hk;rcases hk with rfl|rfl
  ·have hw:Region.wanted G (yielded E a.tmps)=true:=by simp[Region.wanted,J]
   simp only[wpOp,hi,hw,aQ];simp_all
  have hw:Region.wanted I (yielded E a.tmps)=true:=by simp[Region.wanted,O]
  simp only[wpOp,U,hw,aQ];exact inl R)
theorem D_{P a w Q S E}i j{R}{U}{F}{D}G I v u w'(X:G≠I)(hr:Region.ready .any E D=[i,j])(ad:Region.ready .any E (D.setIfInBounds i true)=[j])(ab:Region.ready .any E (D.setIfInBounds j true)=[i])(hi:E[i]? =some R)(hj:E[j]? =some U)(O:R.guard=none)(aa:U.guard=none)(Y:R.dst=some G)(Z:U.dst=some I)(r1:(execOp a.eval R).run P w= .ok (.value v) w)(r2:(execOp (a.put (some G) v).eval U).run P w= .ok (.value u) w')(r3:(execOp a.eval U).run P w= .ok (.value u) w')(r4:(execOp (a.put (some I) u).eval R).run P w'= .ok (.value v) w')(hS:S w)(J:S w')(h:wpAnyH P .any E (NoPanic Q) S F ((D.setIfInBounds i true).setIfInBounds j true) ((a.put (some G) v).put (some I) u) w'):wpAnyH P .any E (NoPanic Q) S (F+1+1) D a w:=by
 refine FY i j hr hi hj O aa ?_ ?_
 ·grind[Kl,ym]
 refine Kl (some I) Z u w' r3 ⟨J,ym i ab hi O (Kl (some G) Y v w' r4 ⟨J,?_⟩)⟩;have e1:(D.setIfInBounds j true).setIfInBounds i true=(D.setIfInBounds i true).setIfInBounds j true:=by
  grind
 rw[e1,<-Act.put_comm a (x:=some G) (y:=some I) v u (λd hd hd'=>X ((Option.some.inj hd).trans (Option.some.inj hd').symm))];omega
