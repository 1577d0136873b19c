import Derived.Test.YtnlbchmfcebeeaaGreatTZp
import Derived.Laws.BytesArg
set_option maxHeartbeats 12800000
set_option maxRecDepth 100000
namespace Go.Proofs.YtnlbchmfcebeeaaGreat
open Go.Proofs.Tryz Ch
open Go.RowKit
open Value(int slice pointer string agg tuple)
open IntKind(i64)
open Obj(cells)
open Ending(returned)
open Or(inl inr)
namespace Ch
theorem MQ{l i n}(hi:i<n)(I:i<l.length)(hb:∀j,bit l j=true->j<i):(List.range n).filter (bit (l.set i true))=(List.range n).filter (bit l)++[i]:=by
 have e:List.range n=List.range i++(i::List.range' (i+1) (n-(i+1))):=by
  rw[jm,jm,show n=i+(n-i)by omega,<-List.range'_append_1,eG,show n-i=(n-(i+1))+1 by omega,nu];congr 3;omega
 have E:∀j,j≠i->bit (l.set i true) j=bit l j:=λj D=>by
  unfold bit;simp only[iO];rw[jP oQ]
 have F:bit (l.set i true) i=true:=by
  unfold bit;simp only[iO];rw[jO I];rfl
 have G:bit l i=false:=by
  cases q:bit l i with
  |false=>rfl
  |true=>have:=hb i q;omega
 have t1:(List.range' (i+1) (n-(i+1))).filter (bit (l.set i true))=[]:=by
  rw[qD];intro j D q;simp at D;rw[E j oQ]at q;have:=hb j q;omega
 have t2:(List.range' (i+1) (n-(i+1))).filter (bit l)=[]:=by
  rw[qD];intro j D q;simp at D;have:=hb j q;omega
 have t3:(List.range i).filter (bit (l.set i true))=(List.range i).filter (bit l):=by
  apply qI;intro j D;simp at D;exact E j oQ
 rw[e,gZ,gZ,List.filter_cons_of_pos F,List.filter_cons_of_neg (by rw[G];simp),t1,t2,t3,iz]
theorem Jz{ss c}(h:place ss c≠ -2):∃g:Nat,place ss c=g/\g<ss.length/\hJ ss g=c:=by
 grind[mU,place,hJ]
theorem QT{ss t}(hs:ss.length<=16):∀ f k last l E,AF ss t f k last l=some E->k+f=t.size->l.length=16-> -1<=last->(∀j,bit l j=true->(j:Int)<=last)->
 ((List.range ss.length).filter (bit E)).map (hJ ss)=((List.range ss.length).filter (bit l)).map (hJ ss)++(gW t).drop k:=by
 intro f;induction f with
 |zero=>
  intro k last l E h hk _ _ _;simp only[AF,bE]at h;subst h;rw[dA (by rw[cL];omega),iz]
 |succ f Q=>?_
 intro k last l E h hk I J hb;simp only[AF]at h;split at h
 ·cases h
 rename_i c;have⟨i,e,hi,hn⟩:=Jz (ss:=ss) (c:=af t k) oQ;rw[e]at h c;have O:tf l (i:Int) true=l.set i true:=rfl;rw[O]at h;have D:∀j,bit l j=true->j<i:=λj q=>by have:=hb j q;omega
 have:=Q (k+1) i _ E h oQ (cX I) oQ (λj q=>by
  by_cases R:j=i
  ·omega
  have:bit (l.set i true) j=bit l j:=by
   unfold bit;simp only[iO];rw[jP oQ]
  rw[this]at q;have:=D j q;omega)
 rw[this,MQ hi oQ D,nZ,jL];congr 1;have F:k<t.size:=oQ;rw[eR (i:=k) (by rw[cL];exact F)];have G:=rX t k F;rw[au (by rw[cL];exact F)]at G;simp only[bE]at G;rw[G];simp[hn]
theorem UA t:∀x∈gW t,0<=x/\x<256:=λx hx=>by
 unfold gW at hx;obtain⟨b,_,rfl⟩:=gY.1 hx;have:=b.toNat_lt;omega
theorem Bj t:strOfNums (gW t)=t:=Bi (mg (UA t))
theorem WX{L:List RN}{ol:Ol}(J:L.map RN.st=ol.ah)(D:L.length<=16){a}(h:(gP ol.ah a).1=true):a=bX ol.ah (gP ol.ah a).2:=by
 have U:ol.ah.length<=16:=by rw[<-J];simpa using D
 have⟨on,hT⟩:=Fi J D h;have hm:min ol.ah.length 16=ol.ah.length:=oQ;have R:jI ol.ah (gP ol.ah a).2=a.b_:=by
  unfold jI;rw[hm];have:kI ol.ah (gP ol.ah a).2 ol.ah.length=lG ol.ah (gP ol.ah a).2:=rfl;rw[this,<-hT.b_,Bj]
 have Q:j1 ol.ah (gP ol.ah a).2=a.act:=by
  unfold j1;rw[hm];have F:jU ol.ah (gP ol.ah a).2 ol.ah.length=gW a.act:=by
   show((List.range ol.ah.length).filter (bit (gP ol.ah a).2.act)).map (hJ ol.ah)=gW a.act;unfold gP take at h⊢;split at h
   ·rename_i c1;rw[aq c1];split at h
    ·rename_i c2;rw[aq c2];split at h
     ·rename_i c3;rw[aq c3];show((List.range ol.ah.length).filter (bit (db ol.ah a.act).1)).map (hJ ol.ah)=gW a.act;unfold db oJ at c1⊢;cases q:AF ol.ah a.act a.act.size 0 (-1) eX with
      |none=>rw[q]at c1;simp at c1
      |some l=>?_
      rw[q]at c1;have G:=QT U _ _ _ _ _ q oQ rfl oQ (λj E=>by rw[mW]at E;cases E);have O:(List.range ol.ah.length).filter (bit eX)=[]:=by
       rw[qD];intro j _ E;rw[mW]at E;cases E
      rw[O]at G;cases I:allFit ol.ah l ol.ah.length with
      |true=>simp only[I,aQ];simpa using G
      |false=>simp only[I,bu,bf]at c1
     simp at h
    simp at h
   simp at h
  rw[F,Bj]
 unfold bX;rw[Q,R,hT.tm,hT.x,hT.y,hT.z]
/-! A tick. -/
def ve:List Int->List Int
 |a::b::l=>a::(b-1)::ve l
 |_=>[]
theorem UB{t}:∀ f k acc,t.size<=k+2*f->(t.size-k) % 2=0->vu t f k acc=acc++ve ((gW t).drop k):=by
 intro f;induction f with
 |zero=>intro k acc h _;rw[dA (by rw[cL];omega)];simp[vu,ve]
 |succ f E=>?_
 intro k acc h D;by_cases c:k+1<t.size
 ·grind[kr,vu,ve]
 rw[dA (by rw[cL];omega)];grind[vu,ve]
theorem GL:∀ n {l},l.length<=n->TL 49 l->TL 48 (ve l)/\(ve l).length=l.length/\∀x∈ve l,0<=x/\x<256:=by
 intro n;induction n with
 |zero=>intro l F _;cases l with|nil=>exact⟨trivial,rfl,by simp[ve]⟩|cons a l=>simp at F
 |succ n J=>?_
 intro l F I;match l,I with
 | [],_=>grind
 |a::b::l,⟨⟨D,O,Q⟩,G⟩=>
  have⟨g1,g2,g3⟩:=J (by simp at F;omega) G;have E:=D;unfold ez at D;simp at D;refine⟨⟨⟨E,oQ,oQ⟩,g1⟩,by simp[ve,g2],λx hx=>?_⟩;grind[ve]
theorem JA{s}(h:Gv 49 s):gW (tick s).tm=ve (gW s.tm):=by
 have he:s.tm.size % 2=0:=by rw[<-cL];exact TL.even _ (aC _) h.1
 show gW (strOfNums (vu s.tm s.tm.size 0 []))=_;rw[UB _ _ _ oQ oQ];simp only[kT,List.drop_zero];exact mg (GL _ (aC _) h.1).2.2
theorem GM{s}(h:Gv 49 s):Gv 48 (tick s):=by
 have hb:=JA h;have D:=GL _ (aC _) h.1;refine⟨by rw[hb];exact D.1,?_⟩;rw[<-cL,hb,D.2.1,cL];exact h.2
theorem ZE:∀ n {l},l.length<=n->wM l<=l.length:=by
 intro n;induction n with
 |zero=>grind[wM]
 |succ n E=>?_
 intro l D;match l with
 | []=>grind
 | [a]=>simp[wM]
 |a::b::l=>
  grind[wM]
theorem ZF{s}(h:Gv 48 s):xU 16 s:=by
 refine⟨by rw[<-cL];exact TL.even _ (aC _) h.1,?_⟩;have:=ZE _ (aC (gW s.tm).length);rw[cL]at this;have:=h.2;omega
theorem JB{t}(D:(read t).1=0):xV (read t).2.2:=by
 grind[yF,zE,TQ,Ct]
theorem UC{t a}(h:oH t a=0):Gv 49 (qO t a):=by
 have⟨e,h1⟩:=CN h;rw[e];exact GK (Ot h1)
theorem UD{t a}(h:oH t a=0):(read t).1=0:=by
 grind[oH]
theorem MR{t a}(h:oH t a=0):(eP (read t).2.2 17 (tick (qO t a)) []).isSome=true:=
 Mp (JB (UD h)) 16 [] (ZF (GM (UC h)))
structure Kw(ol:Ol)a s:Prop where
 out:a=bX ol.ah s
 inv:Inv ol s
 ok:s.Ok
 tl:Gv 48 s
theorem QU{ol}(hB:WQ ol){s}(D:Inv ol s):∀x∈lG ol.ah s,0<=x/\x<256:=by
 intro x E;obtain⟨k,hk,rfl⟩:=gY.1 E;have⟨h1,hh⟩:=fR.1 hk;have:=D.b_ k (cX h1) hh;unfold jz at this;split at this
 ·simp_all
 unfold bq at this;cases q:uX ol.ah (place ol.ah (cf s k))with
 |none=>simp_all
 |some y=>?_
 have⟨i,e,_,_⟩:=lq q;have⟨g,_,_,hn⟩:=Jz (ss:=ol.ah) (c:=cf s k) oQ;rw[<-hn];exact hB g
theorem Kw.tk{L ol}(E:L.map RN.st=ol.ah)(D:Co ol)(hB:WQ ol){a}{s}(h:Kw ol a s):∃on,TkF L ol a s on:=by
 have⟨on,h1,h2⟩:=Cw E D (λk _=>hB k) h.inv.Cr.lt h.inv.la;have hm:min ol.ah.length 16=ol.ah.length:=by have:=D.le;omega
 obtain rfl:=h.out;refine⟨on,h1,h2,?_,rfl,rfl,rfl,rfl,h.tl⟩;show gW (jI ol.ah s)=_;unfold jI;rw[hm];exact mg (QU hB h.inv)
def lP(t:ByteArray)(k:Nat):ByteArray:=t.extract 0 k++t.extract (k+2) t.size
theorem Kw.due{ol a s}(h:Kw ol a s){k}(hk:k % 2=0)(D:k+1<s.tm.size):Kw ol {a with tm:=lP s.tm k} {s with tm:=lP s.tm k}:=by
 have hb:gW (lP s.tm k)=(gW s.tm).take (2*(k/2))++(gW s.tm).drop (2*(k/2+1)):=by
  grind[lP,uE,qq,cL]
 have iL:(lP s.tm k).size<=16:=by
  unfold lP;rw[jN,sZ,sZ];have:=h.tl.2;omega
 refine⟨by rw[h.out];rfl,h.inv.same ⟨rfl,rfl⟩,⟨h.ok.1,h.ok.2.1,by show(lP s.tm k).size<=17;omega⟩,⟨?_,iL⟩⟩;show TL 48 (gW (lP s.tm k));rw[hb];exact TL.append _ (aC _) (TL.abn _ h.tl.1) (TL.Oe _ h.tl.1)
theorem tU{ol s ev}(h:(dx ol s ev).1=true):(bY ol s ev).2.2=0/\(bY ol s ev).2.1=(dx ol s ev).2.2/\(dx ol s ev).2.1=bX ol.ah (bY ol s ev).1:=by
 grind[yL,dx]
theorem JC{ol s ev}(h:(dx ol s ev).1=false):(bY ol s ev).2.2=9:=by
 rw[yL,h];rfl
theorem Kw.afp{ol}(E:Co ol)(D:xV ol){a}{s}(h:Kw ol a s){ev}(F:(dx ol s ev).1=true):Kw ol (dx ol s ev).2.1 (bY ol s ev).1:=by
 have e:=yL ol s ev;rw[aq F]at e;have e1:(bY ol s ev).1=(rounds ol 29 (eh ol ⟨s,[],[]⟩ (choose ol s ev))).s:=by rw[e,rE]
 refine⟨(tU F).2.2,?_,rh h.ok ev,?_⟩
 ·rw[e1];exact rF E 29 (lC E (m:=⟨s,[],[]⟩) h.inv ev)
 rw[e1];exact(kf oQ ol).rounds D 29 ((kf oQ ol).eh D (m:=⟨s,[],[]⟩) h.tl _)
theorem QV{ol f s l}(h:mn s.tm s.tm.size 0=none):eP ol (f+1) s l=some (s,strOfNums l):=by
 grind[eP,cC]
theorem QW{ol f k s l}(h:mn s.tm s.tm.size 0=some k)(D:(dx ol {s with tm:=lP s.tm k} (af s.tm k)).1=true):
 eP ol (f+1) s l=eP ol f (bY ol {s with tm:=lP s.tm k} (af s.tm k)).1 (l++vC (dx ol {s with tm:=lP s.tm k} (af s.tm k)).2.2):=by
 grind[tU,cC,af,lP,eP]
theorem QX{ol f k s l}(h:mn s.tm s.tm.size 0=some k)(D:(dx ol {s with tm:=lP s.tm k} (af s.tm k)).1=false):
 eP ol (f+1) s l=eP ol f {s with tm:=lP s.tm k} l:=by
 grind[JC,cC,af,lP,eP]
def yM(t:ByteArray)(k:Nat):Prop:=∃f,mn t t.size 0=mn t f k/\t.size<=k+2*f
theorem MT t:yM t 0:=⟨t.size,rfl,oQ⟩
theorem yM.next{t k}(h:yM t k)(hk:k+1<t.size)(G:(af t (k+1)!=48)=true):yM t (k+2):=by
 have⟨f,D,E⟩:=h;match f,D,E with
 |0,_,E=>omega
 |f+1,D,E=>
  have F:(af t (k+1)==48)=false:=cX G;simp only[mn,aq hk,F,bu,bf]at D;exact⟨f,D,oQ⟩
theorem yM.Kk{t k}(h:yM t k)(hk:k+1<t.size)(F:(af t (k+1)!=48)=false):mn t t.size 0=some k:=by
 have⟨f,E,D⟩:=h;match f,E,D with
 |0,_,D=>omega
 |f+1,E,D=>
  grind[af,mn]
theorem yM.stop{t k}(h:yM t k)(hk:¬k+1<t.size):mn t t.size 0=none:=by
 have⟨f,h1,_⟩:=h;rw[h1,Hr hk]
end Ch
theorem Ch.Kw.sm{ol}(E:Co ol){a}{s}(h:Kw ol a s):a.Sm:=by
 rw[h.out];have D:=E.le;refine⟨?_,?_,?_⟩
 ·show(strOfNums _).size<=_;rw[dC];grind[yc]
 ·show(strOfNums _).size<=_;rw[dC];grind[BD]
 show s.tm.size<=_;have:=h.tl.2;omega
theorem Ao w B cb l v ol a s r(hF:ku w B cb l v)(hR:Rf l ol)(hW:Kw ol a s)(ZG:Gv 49 s)(hr:eP ol 17 (Ch.tick s) []=some r):
 Calls prog 147 #[pointer (some ⟨cb,0,none⟩),agg (cM a)] w λy w'=>y=returned (tuple #[agg (cM (bX ol.ah r.1)),string r.2])/\Kp bA w w':=by
 have⟨da,jx,dQ⟩:=kz;have aj:a.tm=s.tm:=by rw[hW.out];rfl
 have bc:=ZG.2;have ce:s.tm.size % 2=0:=by rw[<-cL];exact Ch.TL.even _ (aC _) ZG.1
 have a3:Kp bA w ((w.alloc (cells (cM a) 26)).alloc (cells cG 26)):=((Kp.refl _ _).alloc _).alloc _;have bx:((w.alloc (cells (cM a) 26)).alloc (cells cG 26)).heap[w.heap.size]? =some (cells (cM a) 26):=by rw[cE _ _ _ dy];exact ak _ _
 have am:((w.alloc (cells (cM a) 26)).alloc (cells cG 26)).heap[w.heap.size+1]? =some (cells cG 26):=by
  have:=ak (w.alloc (cells (cM a) 26)) (cells cG 26);simpa using this
 have HH:=fM hF hW ZG hr;go_in;go_upto_region 1 with fail;generalize (w.alloc (cells (cM a) 26)).alloc (cells cG 26)=w0 at*;generalize VX:w.heap.size+1=rb at*;generalize YD:w.heap.size=sb at*;generalize Vy:s.tm=tm at*;go_wp;go_loopw [6,7] (λtv kv wr=>∃(k:Nat) (acc:List Int),tv= string (strOfNums acc)/\kv= int i64 k/\k<=tm.size/\k % 2=0/\acc.length<=k/\Hid (acc++ve ((gW tm).drop k)=ve (gW tm))/\Kp bA w0 wr) (λ_ kv _=>tm.size-(intOf kv).toNat)
 case atStart=>exact⟨0,[],rfl,rfl,aA _,rfl,aC _,ag rfl,Kp.refl _ _⟩
 case round=>
  obtain⟨k,acc,rfl,rfl,hk,a5,b2,HE,KW⟩:=hrel;have WY:=KW.at_ bx (λx=>x);have c2:wr.cell? ⟨sb,2,none⟩=some (string tm):=by rw[World.cell?,WY,<-aj];rfl
  by_cases F:k+1<tm.size
  ·have a0:k<tm.size:=oQ;have p1:af tm (k+1)=((tm[k+1]'F).toNat:Int):=by simp[af,F]
   have hd:=kr F;have hT:=Ch.TL.Oe (k/2) (by have:=HH.2.2.1.1;rw[Vy]at this;exact this);rw[show 2*(k/2)=k by omega,hd]at hT;have h1:=hT.1.2;rw[p1]at h1;have HG:=ag (show(acc++[((tm[k]'a0).toNat:Int),((tm[k+1]'F).toNat:Int)-1])++ve ((gW tm).drop (k+2))=ve (gW tm)by
    rw[<-HE,hd,(by simp[af,a0]:af tm k=((tm[k]'a0).toNat:Int)),p1];simp[ve])
   generalize a4:((tm[k]'a0).toNat:Int)=c0 at*;generalize bk:((tm[k+1]'F).toNat:Int)=c1 at*;have XD:IntKind.i64.wrap ((k:Int)+1)=(k:Int)+1:=g_ oQ;have ap:=lU (P:=prog) ((wr.alloc (cells #[int .u8 c0,int .u8 (c1-1)] 5)).drew) 47 5 underlying47 underlying5 wr.heap.size 0 2 2 [c0,c1-1] rfl (by
    intro i hi;match i,hi with
    |0,_=>simp
    |1,_=>simp) 9 underlying9
   replace ap:Sem.run prog (convert 47 9 (slice (some ⟨wr.heap.size,0,none⟩) 2 2)) (wr.drew.alloc (cells #[int .u8 c0,int .u8 (c1-1)] 5))= .ok (string (strOfNums [c0,c1-1])) (wr.drew.alloc (cells #[int .u8 c0,int .u8 (c1-1)] 5)):=ap;have D:wr.drew.cell? _=_:=c2;have X:(wr.drew.alloc (cells #[int .u8 c0,int .u8 (c1-1)] 5)).cell? _=_:=((Kp.refl bA wr.drew).alloc _).bN c2;have HK:=ag (KW.drew.alloc (cells #[int .u8 c0,int .u8 (c1-1)] 5));go_upto_region 5 with fail;refine aY (λw'=>w'.cell? ⟨sb,2,none⟩=some (string tm)) bZ ?_;refine bR 0 22 (string (strOfNums acc)) D ?_;refine bR 1 23 (pointer (some ⟨sb,2,none⟩)) D ?_;refine fh 2 24 (string tm) rfl (λw' hS=>by simp[execOp,Act.eval,go_sem,hS]) D ?_;refine bR 3 25 (int i64 (k:Int)) D ?_;refine fh 4 26 (int .u8 c0) rfl (λw' _=>by simp[execOp,Act.eval,go_sem,(oQ:(k:Int)<(tm.size:Int)),a4]) D ?_;refine bR 5 27 (pointer (some ⟨sb,2,none⟩)) D ?_;refine fh 6 28 (string tm) rfl (λw' hS=>by simp[execOp,Act.eval,go_sem,hS]) D ?_;refine bR 7 29 (int i64 (k:Int)) D ?_;refine fh 8 30 (int i64 ((k:Int)+1)) rfl (λw' _=>by simp[execOp,Act.eval,go_sem,XD]) D ?_;refine fh 9 31 (int .u8 c1) rfl (λw' _=>by simp[execOp,Act.eval,go_sem,(oQ:(k:Int)+1<(tm.size:Int)),bk,(oQ:(0:Int)<=(k:Int)+1),(oQ:((k:Int)+1).toNat=k+1)]) D ?_;refine fh 10 32 (int .u8 (c1-1)) rfl (λw' _=>by simp[execOp,Act.eval,go_sem,(BB oQ:IntKind.u8.wrap (c1-1)=c1-1)]) D ?_;refine pf 11 ?_;refine Kl (some 33) rfl (slice (some ⟨wr.heap.size,0,none⟩) 2 2) (wr.drew.alloc (cells #[int .u8 c0,int .u8 (c1-1)] 5)) wX ?_;simp only[Act.put,pA,pB,pC];refine⟨X,?_⟩;refine pf 12 ?_;refine Kl (some 34) rfl (string (strOfNums [c0,c1-1])) (wr.drew.alloc (cells #[int .u8 c0,int .u8 (c1-1)] 5)) (by simp[execOp,Act.eval,ap]) ?_;simp only[Act.put,pA,pB,pC];refine⟨X,?_⟩;refine fh 13 35 (string (strOfNums acc++strOfNums [c0,c1-1])) rfl (λw' _=>by simp[execOp,Act.eval,go_sem,λw'=>run_string_add_sum (P:=prog) w' (strOfNums acc) (strOfNums [c0,c1-1]) (by rw[strOfNums_size,strOfNums_size];simp;omega)]) X ?_;refine bR 14 6 (string (strOfNums acc++strOfNums [c0,c1-1])) X ?_;refine bG bZ (bH ?_) _;generalize wr.drew.alloc (cells #[int .u8 c0,int .u8 (c1-1)] 5)=wz at*;rw[<-lj];go_wp2;exact⟨⟨k+2,_,rfl,eb,oQ,oQ,by simp;omega,HG,HK⟩,ew⟩
  have bo:¬(k:Int)+1<(tm.size:Int):=oQ;have ck:k=tm.size:=oQ;have HT:=ag (show strOfNums acc=(Ch.tick s).tm by
   have h1:=HE.out;rw[dA (by rw[cL];omega)]at h1;have h2:=JA HH.2.2.1;rw[Vy,<-h1]at h2;apply Bi;rw[h2];have hb:=(GL _ (aC _) (by have:=HH.out.2.2.1.1;rw[Vy]at this;exact this:Ch.TL 49 (gW tm))).2.2;rw[<-h1]at hb;simp only[ve,iz]at hb⊢;exact mg hb)
  have bi:Kw ol {a with tm:=(Ch.tick s).tm} (Ch.tick s):=⟨by rw[HH.out.2.1.out];rfl,HH.out.2.1.inv.same ⟨rfl,rfl⟩,yp HH.out.2.1.ok,GM HH.out.2.2.1⟩
  have f2:wr.frozen? ⟨sb,2,none⟩=false:=by simp[World.frozen?,WY]
  have cc:=KW.at_ am (λx=>x);have hz:(wr.setCell ⟨sb,2,none⟩ (string (Ch.tick s).tm)).heap[sb]? =some (cells (cM {a with tm:=(Ch.tick s).tm}) 26 (0,0)):=by rw[ar _ WY];rfl
  have HZ:=fM bi HH.2.2.2 hz ((KW.mono gM).setCell jF _:Kp (λi=>i=sb) w0 (wr.setCell ⟨sb,2,none⟩ (string (Ch.tick s).tm)));have HF:=ag HH.out.1;have a8:=HT.out;generalize strOfNums acc=T at*;subst a8;generalize Ch.tick s=s1 at*;go_upto_region 7 with fail;generalize wr.setCell ⟨sb,2,none⟩ (string s1.tm)=w1 at*;go_wp21;go_loopg [8,9] 400 (λf ov kv wr=>∃(k U:Nat) (I:As) (s':Sd) (lo:List Int),ov= string (strOfNums lo)/\kv= int i64 k/\k % 2=0/\k<=18/\U<=17/\U*20+(20-k)<=f/\lo.length+345600*U<=5875200/\Hid (Kw ol I s'/\eP ol U s' lo=some r/\yM s'.tm k/\wr.heap[sb]? =some (cells (cM I) 26 (0,0))/\Kp (λi=>i=sb) w0 wr))
  case atStart=>exact⟨0,17,_,s1,[],rfl,rfl,rfl,oQ,oQ,oQ,dy,ag ⟨HZ.1,HZ.out.2.1,MT _,HZ.out.2.2.1,HZ.out.2.2.2⟩⟩
  case round=>
   obtain⟨k,U,I,s',lo,rfl,rfl,a5,b7,cq,hf,br,HI⟩:=hrel;obtain⟨f,rfl⟩:∃f,gk=f+1:=⟨gk-1,oQ⟩
   obtain⟨hW,G,nP,WY,KW⟩:=HI.out;have bc:=hW.tl.2;have aj:I.tm=s'.tm:=by rw[hW.out];rfl
   have c2:wr.cell? ⟨sb,2,none⟩=some (string s'.tm):=by rw[World.cell?,WY,<-aj];rfl
   have f2:wr.frozen? ⟨sb,2,none⟩=false:=by simp[World.frozen?,WY]
   generalize Vy:s'.tm=tm at*;by_cases F:k+1<tm.size
   ·have b6:(k:Int)+1<(tm.size:Int):=oQ;have a0:k<tm.size:=oQ;have b4:(k:Int)<tm.size:=oQ;have ct:((k:Int)+1).toNat=k+1:=oQ;have cs:(0:Int)<=(k:Int)+1:=oQ;have p0:af tm k=((tm[k]'a0).toNat:Int):=by simp[af,a0]
    have p1:af tm (k+1)=((tm[k+1]'F).toNat:Int):=by simp[af,F]
    cases q:(((tm[k+1]'F).toNat:Int)!=48)with
    |true=>
     have HN:=ag (nP.next F (by rw[p1];exact q));have J:=fM hW G WY KW;go_wp2;go_roundg f
     case measure=>omega
     case rel=>exact⟨k+2,U,I,s',lo,rfl,eb,oQ,oQ,oQ,oQ,br,ag ⟨J.1,J.2.1,by rw[Vy];exact HN,J.2.2.1,J.2.2.2⟩⟩
    |false=>?_
    have ZH:=nP.Kk F (by rw[p1];exact q);obtain⟨R,rfl⟩:∃R,U=R+1:=by
     cases U with
     |zero=>simp[eP]at G
     |succ n=>exact⟨n,rfl⟩
    rw[<-Vy]at ZH;have aa:=hW.due (k:=k) a5 (by rw[Vy];exact F);have fW:=QW (ol:=ol) (f:=R) (l:=lo) ZH;have Y:=QX (ol:=ol) (f:=R) (l:=lo) ZH;rw[Vy,p0]at fW Y;rw[Vy]at aa;have⟨on,ZD⟩:=aa.tk (L:=Ch.mk l) (by have:=hR.ah;unfold Ch.ah at this;exact this) hR.lD hR.WR;have bm:=mq hR.ok {s' with tm:=lP tm k} ((tm[k]'a0).toNat:Int);have O:=tU (ol:=ol) (s:={s' with tm:=lP tm k}) (ev:=((tm[k]'a0).toNat:Int));have Q:=aa.afp hR.lD hR.Dl (ev:=((tm[k]'a0).toNat:Int));have hz:((wr.drew).setCell ⟨sb,2,none⟩ (string (lP tm k))).heap[sb]? =some (cells (cM {I with tm:=lP tm k}) 26 (0,0)):=by rw[ar _ (show wr.drew.heap[sb]? =_ from WY)];rfl
    have Kz:Kp _ _ ((wr.drew).setCell ⟨sb,2,none⟩ (string (lP tm k))):=KW.drew.setCell jF _;have J:=xn G hz Kz ZD fW Y (ae O (ae Q aa));generalize a4:((tm[k]'a0).toNat:Int)=c0 at*;have cm:(k:Int)<=tm.size:=oQ;have cn:((k:Int)).toNat=k:=oQ;have ci:(k:Int)+2<=(tm.size:Int):=oQ;have b8:((k:Int)+2).toNat=k+2:=oQ;have b5:(0:Int)<=(k:Int)+2:=oQ;have cu:IntKind.i64.wrap ((k:Int)+2)=(k:Int)+2:=g_ oQ;have b3:∀w',Sem.run prog (Op.stringOp BinOp.add (tm.extract 0 k) (tm.extract (k+2) tm.size)) w'= .ok (string (lP tm k)) w':=λw'=>my (P:=prog) w' (tm.extract 0 k) (tm.extract (k+2) tm.size) il;have D:wr.drew.cell? _=_:=c2;have X:((wr.drew).setCell ⟨sb,2,none⟩ (string (lP tm k))).cell? ⟨sb,2,none⟩=some (string (lP tm k)):=dG J.2.1 rfl;go_upto_region 13 with fail;go_region;have ba:=ag (show((wr.setCell ⟨sb,2,none⟩ (string (lP tm k))).drew).heap[sb]? =some (cells (cM {I with tm:=lP tm k}) 26 (0,0))/\Kp (λi=>i=sb) w0 ((wr.setCell ⟨sb,2,none⟩ (string (lP tm k))).drew)from⟨J.2.1,J.2.2.1⟩);generalize (wr.setCell ⟨sb,2,none⟩ (string (lP tm k))).drew=w5 at*;have⟨hs5,K5⟩:=ba;have ab:=J.2.2.2.2.2.2.2.2;have XL:=HF.aw (a3.trans' K5 (λi hi e=>oQ));have E:=ag (xI w5 B cb l v ol {I with tm:=lP tm k} c0 {s' with tm:=lP tm k} on XL hR (ab.sm hR.lD) J.2.2.2.1 ab.inv ab.ok);have ao:=K5.at_ am oQ;have G:=J.1;have fW:=J.2.2.2.2.1;have Y:=J.2.2.2.2.2.1;have O:=J.2.2.2.2.2.2.1;have Q:=J.2.2.2.2.2.2.2.1;have aI:_=some (cM {I with tm:=lP tm k}).size:=bF;generalize XW:dx ol {s' with tm:=lP tm k} c0=fd at*;have⟨fe,fs,ft⟩:=fd;simp only at E fW Y O Q;have fO:=fK fs;have fI:_=some (cM fs).size:=bF;have fS:(cM fs).size=6:=rfl;have HL:=Hi G fW Y O Q ab;generalize be:cM {I with tm:=lP tm k}=A5 at*;generalize Io:cM fs=Z at*;have HA:=bw be Io;go_wp2_with (refine gV hs5 jx dQ aI ?_);refine b9 E ?_;intro w6 K6;have b0:=K6.at_ hs5 (λx=>x);have KV:=K5.trans' K6 gM;have ad:=ak w6 (cells cG 26);have Kn:=rQ w6 (cells cG 26) Z;have a9:=an (w6.alloc (cells cG 26)) w6.heap.size cG Z 26 (0,0) ad;have a1:=Kn.at_ b0 (λx=>x);have a2:=KV.trans' Kn gM;go_upto_region 15 with(refine bJ Z ad fI fS.symm fO ?_);generalize (w6.alloc (cells cG 26)).setRow w6.heap.size Z=w7 at*;generalize w6.heap.size=fb at*;cases fe with
    |false=>
     have HN:=ag (HL.1.symm.trans (HL.2.2.1 rfl));have HM:=c_ HL.2.2.2.2.2 (show w7.heap[sb]? =some (cells (cM {I with tm:=lP tm k}) 26 (0,0))by rw[HA.1];exact a1) a2;go_wp2;go_roundg f
     case measure=>omega
     case rel=>exact⟨0,R,_,_,lo,rfl,rfl,rfl,oQ,oQ,oQ,oQ,ag ⟨HM.1,HN.symm,MT _,HM.2.1,HM.2.2⟩⟩
    |true=>?_
    have HN:=ag (HL.1.symm.trans (HL.2.1 rfl));have O:=HL.2.2.2.1 rfl;have Q:=HL.2.2.2.2.1 rfl;have cg:ft.size<=345600:=by rw[<-O.2.1];exact bm
    have cp:(strOfNums lo).size<=5875200:=by rw[dC];omega
    have bg:Kp _ _ (w7.setRow sb Z):=a2.setRow (λ_=>rfl) _;have b1:=an w7 sb A5 Z 26 (0,0) a1;have bt:=yo ft;have HO:=ag (show strOfNums lo++ft=strOfNums (lo++vC ft)by rw[lj];congr 1;exact(Bj ft).symm);have HM:=c_ Q (show(w7.setRow sb Z).heap[sb]? =some (cells (cM fs) 26 (0,0))by rw[HA.2];exact b1) bg;have bb:A5.size=Z.size:=by rw[<-HA.1,fS];rfl
    go_wp2_with (first|refine gV a9 jx dQ fI ?_|refine bJ Z a1 fI bb fO ?_);generalize w7.setRow sb Z=w8 at*;rw[HO];go_roundg f
    case measure=>omega
    case rel=>exact⟨0,R,_,_,lo++vC ft,rfl,rfl,rfl,oQ,oQ,oQ,by rw[ix,bt];omega,ag ⟨HM.1,HN.symm,MT _,HM.2.1,HM.2.2⟩⟩
   have bo:¬(k:Int)+1<(tm.size:Int):=oQ;have a7:=QV (ol:=ol) (f:=U-1) (l:=lo) (by rw[Vy];exact nP.stop F:mn s'.tm s'.tm.size 0=none);have ca:U≠0:=λe=>by rw[e]at G;simp[eP]at G
   rw[show U-1+1=U by omega,G]at a7;obtain rfl:r=(s',strOfNums lo):=cX a7;have ao:=KW.at_ am oQ;have aO:=fK I;have aI:_=some (cM I).size:=bF;have aS:(cM I).size=6:=rfl;have KF:Kp _ _ (wr.setRow rb (cM I)):=(a3.trans' KW (λi hi e=>oQ)).setRow (λx=>oQ) _;have a6:=hW.out;generalize tR:cM I=AA at*;have Hd:=bw tR a6;go_wp2_with (first|refine gV WY jx dQ aI ?_|refine bJ AA ao aI aS.symm aO ?_);refine kH (an _ _ _ _ _ _ ao) jx dQ aI ?_;refine⟨?_,KF⟩;show _=Ending.returned (tuple #[agg (cM (bX ol.ah s')),string (strOfNums lo)]);rw[<-Hd.2,Hd.1];rfl
theorem QY w t a(ha:a.Sm):
 Calls prog 101 #[string t,agg (cM a)] w λx w'=>x=returned (tuple #[agg (cM (mX 17 t a).1),string (mX 17 t a).2.1,int i64 (mX 17 t a).2.2])/\Kp bA w w':=by
 have⟨da,jx,dQ⟩:=kz;have K0:Kp bA w ((w.alloc (cells (cM a) 26)).alloc (cells cG 26)):=((Kp.refl _ _).alloc _).alloc _;have a2:((w.alloc (cells (cM a) 26)).alloc (cells cG 26)).heap[w.heap.size]? =some (cells (cM a) 26):=by rw[cE _ _ _ dy];exact ak _ _
 have aS:((w.alloc (cells (cM a) 26)).alloc (cells cG 26)).heap[w.heap.size+1]? =some (cells cG 26):=by
  have:=ak (w.alloc (cells (cM a) 26)) (cells cG 26);simpa using this
 have HE:=ag (λh0 L hN=>GJ (t:=t) (L:=L) h0 hN a);have X:=ag (show(Ch.read t).1≠0->oH t a=(Ch.read t).1 from λh=>by unfold oH;rw[aq (cX h)]);have Y:=ag (show oH t a≠0->mX 17 t a=(kJ,(⟨#[]⟩:ByteArray),oH t a)from λh=>by unfold mX;rw[aq (cX h)]);have am:=ag (show oH t a=0->∀r,eP (Ch.read t).2.2 17 (Ch.tick (qO t a)) []=some r->mX 17 t a=(bX (Ch.read t).2.2.ah r.1,r.2,0)from λh r e=>by unfold mX;rw[ax (by simp[h]),e]);have aI:(prog.info? 26).map (·.size)=some (cM a).size:=bF;go_in;go_upto_region 1 with fail;generalize (w.alloc (cells (cM a) 26)).alloc (cells cG 26)=w0 at*;generalize VX:w.heap.size+1=R at*;generalize YD:w.heap.size=ob at*;have E0:=ag (oE w0 t);go_wp;refine hm E0 ?_;rintro x w2 ⟨p,rfl,a4,a1,K2⟩;have aj:=K2.at_ a2 (λx=>x);have J:=K2.at_ aS (λx=>x);have KW:=K0.trans K2;cases q1:(Ch.read t).1 !=0 with
 |true=>
  have I:(Ch.read t).1≠0:=cX q1;have U:=ag (show mX 17 t a=(kJ,(⟨#[]⟩:ByteArray),(Ch.read t).1)by rw[Y (by rw[X I];exact I),X I]);have Z:Kp bA w (w2.setRow R cG):=KW.setRow (λx=>oQ) _;generalize (Ch.read t).1=re at*;generalize (Ch.read t).2.1=rp at*;go_wp2_with (refine bJ cG J bF rfl (fK kJ) ?_);refine aJ (az rfl _ _ R 26 cG (0,0) da rfl (an _ _ _ _ _ _ J) jx dQ bF) rfl ?_;rw[U];exact⟨rfl,Z⟩
 |false=>?_
 have h0:(Ch.read t).1=0:=cX q1;obtain⟨cb,l,v,rfl,hF,hN,a0,hT⟩:=a1 h0;have Q:=yK h0 hN hT;have ap:=HE h0 _ hN;have E2:=ag (vO w2 w0.heap.size cb l v a hF (by have:=a0.1;omega) ha (λi x hx=>by
  have:=hN.wf i x.n (by unfold Ch.mk;rw[bD,hx];rfl);exact⟨this.1,this.2.1⟩))
 have HX:=c_ hF Q KW;generalize rz (Ch.mk l) a.act a.b_ a.tm a.x a.y a.z=lr at*;have Yb:=ag ap;generalize tR:cM a=AA at*;have Hd:=ag tR;generalize a5:(Ch.read t).1=re at*;generalize (Ch.read t).2.1=rp at*;go_wp2_with (refine gV aj jx dQ aI ?_);refine b9 E2 ?_;intro w3 K3;have a3:=K3.at_ aj (λx=>x);have xH:=K3.at_ J (λx=>x);have AR:=c_ (HX.1.aw K3) HX.2.1 (HX.2.2.trans K3);cases lr with
 |false=>
  have U:=ag (show mX 17 t a=(kJ,(⟨#[]⟩:ByteArray),(7:Int))by rw[Y (by rw[Yb];simp),Yb];rfl);have Z:Kp bA w (w3.setRow R cG):=AR.2.2.setRow (λx=>oQ) _;go_wp2_with (refine bJ cG xH bF rfl (fK kJ) ?_);refine aJ (az rfl _ _ R 26 cG (0,0) da rfl (an _ _ _ _ _ _ xH) jx dQ bF) rfl ?_;rw[U];exact⟨rfl,Z⟩
 |true=>?_
 have D:oH t a=0:=Yb;have⟨hls,htk⟩:=CN D;have Q:=AR.2.1;have rG:(Ch.mk l).map RN.st=(Ch.read t).2.2.ah:=by have:=Q.ah;unfold Ch.ah at this;exact this
 have ao:(Ch.mk l).length<=16:=by rw[eu];exact Q.le
 have F:=WX rG ao htk;have aa:Ch.Inv (Ch.read t).2.2 (gP (Ch.read t).2.2.ah a).2:=I1 Q.lD htk;have ab:(gP (Ch.read t).2.2.ah a).2.Ok:=yl;have ZG:=UC D;rw[<-hls]at F aa ab;have aO:Kw (Ch.read t).2.2 a (qO t a):=⟨F,aa,ab,⟨Ch.TL.mono oQ _ (aC _) ZG.1,ZG.2⟩⟩
 have⟨r,hr⟩:=qE.1 (MR D);have U:=ag (am D r hr);have E3:=Ao w3 w0.heap.size cb l v (Ch.read t).2.2 a (qO t a) r AR.1 Q aO ZG hr;rw[Hd]at E3;have E4:=ag E3;have HK:=ag AR.2.2;generalize bX (Ch.read t).2.2.ah r.1=fs at*;have fO:=fK fs;have fI:(prog.info? 26).map (·.size)=some (cM fs).size:=bF;have fS:(cM fs).size=6:=rfl;generalize Io:cM fs=G at*;have Ps:=ag Io;go_wp2_with (refine gV a3 jx dQ aI ?_);refine b9 E4 ?_;intro O K4;have Ju:=K4.at_ xH (λx=>x);have E:=ak O (cells cG 26);have Kn:=rQ O (cells cG 26) G;have ad:=an (O.alloc (cells cG 26)) O.heap.size cG G 26 (0,0) E;have MP:=Kn.at_ Ju (λx=>x);have KD:=(HK.trans K4).trans Kn;go_upto_region 8 with(refine bJ G E fI fS.symm fO ?_);generalize (O.alloc (cells cG 26)).setRow O.heap.size G=w5 at*;generalize O.heap.size=fb at*;have Z:Kp bA w (w5.setRow R G):=KD.setRow (λx=>oQ) _;go_wp2_with (first|refine gV ad jx dQ fI ?_|refine bJ G MP fI fS.symm fO ?_);refine aJ (az rfl _ _ R 26 G (0,0) da rfl (an _ _ _ _ _ _ MP) jx dQ fI) rfl ?_;rw[U];exact⟨by rw[<-Ps];rfl,Z⟩
namespace Ch
end Ch
theorem UE a:(prog.info? 26).map (·.size)=some (cM a).size:=bF
namespace Ch
theorem ab0{t ol}(D:read t=(0,0,ol)){a}(E:(gP ol.ah a).1=true):oH t a=0/\qO t a=(gP ol.ah a).2:=by
 unfold oH qO;rw[D];simp[E]
structure Good ol s:Prop where
 inv:Inv ol s
 pz:Ja ol.ah s
 tl:Gv 49 s
 ok:s.Ok
 stb:XP ol s
structure Fj t ol:Prop where
 rd:read t=(0,0,ol)
 lD:Co ol
 Dl:xV ol
 WR:WQ ol
theorem ZI{t ol}(h:read t=(0,0,ol))(hB:WQ ol):Fj t ol:=by
 have D:(read t).1=0:=by rw[h]
 have e:(read t).2.2=ol:=by rw[h]
 exact⟨h,by rw[<-e];exact(yF D).1,by rw[<-e];exact JB D,hB⟩
theorem Good.take{t ol}(D:Fj t ol){s}(g:Good ol s):gP ol.ah (bX ol.ah s)=(true,s):=
 TV (L:=ol.ah.map λx=>⟨x.name,x.kind,x.parent,x.pos,[],[],[]⟩) (by rw[List.map_map];exact List.map_id _) D.lD (λk _=>D.WR k) g.inv g.pz g.tl g.ok.2.1.1 g.ok.2.1.2.1 g.ok.2.1.2.2
theorem Good.lg{t ol}(D:Fj t ol){s}(g:Good ol s):oH t (bX ol.ah s)=0/\qO t (bX ol.ah s)=s:=by
 have h:=g.take D;have:=ab0 D.rd (a:=bX ol.ah s) (by rw[h]);simp_all
theorem Ap{t ol}(D:Fj t ol){n}{m}(h:(finish ol n m).2.2=0)(hi:Inv ol m.s)(F:Ja ol.ah m.s/\m.s.b_.length=16)(G:Gv 49 m.s)(E:m.s.Ok):Good ol (finish ol n m).1:=by
 have hs:=Cx h;have hk:=wC E n (ol:=ol);have e:(finish ol n m).1=(rounds ol n m).s:=by
  grind[finish,busy,rounds]
 refine⟨?_,?_,?_,hk,hs⟩
 ·rw[e];exact rF D.lD n hi
 ·rw[e];exact((vM D.lD.le).rounds D.Dl n F).1
 rw[e];exact(kf oQ ol).rounds D.Dl n G
theorem MU{t ol}(D:Fj t ol)(h:(cR ol).2.2=0):Good ol (cR ol).1:=by
 unfold cR at h⊢;refine Ap D h (zO D.lD).2 ?_ ?_ (vA (uz _) _)
 ·refine(vM D.lD.le).fm D.Dl _ _ _ _ (m:=⟨dL ol.ah,[],[]⟩) ⟨λk hk=>?_,gR _⟩;show(eN ol.ah).getD k 0=0;grind[eN,jZ]
 exact(kf oQ ol).fm D.Dl _ _ _ _ (m:=⟨dL ol.ah,[],[]⟩) ⟨trivial,aA _⟩
theorem Fk{t ol}(D:Fj t ol){s}(g:Good ol s){ev}(h:(bY ol s ev).2.2=0):Good ol (bY ol s ev).1:=by
 unfold bY at h⊢;refine Ap D h (lC D.lD (m:=⟨s,[],[]⟩) g.inv ev) ((vM D.lD.le).eh D.Dl (m:=⟨s,[],[]⟩) ⟨g.pz,g.ok.1.2⟩ _) ((kf oQ ol).eh D.Dl (m:=⟨s,[],[]⟩) g.tl _) (vB (m:=⟨s,[],[]⟩) g.ok _)
theorem MV{ol n m}:(finish ol n m).2.2=0\/(finish ol n m).2.2=9:=by
 grind[finish]
theorem QZ ol s ev:(bY ol s ev).2.2=0\/(bY ol s ev).2.2=9:=MV
theorem UF{t}:∀ f k,mn t f k=none->t.size<=k+2*f->TL 48 ((gW t).drop k)->TL 49 ((gW t).drop k):=by
 intro f;induction f with
 |zero=>intro k _ h _;rw[dA (by rw[cL];omega)];trivial
 |succ f E=>?_
 intro k h G D;simp only[mn]at h;split at h
 ·rename_i c;rw[kr c]at D⊢;split at h
  ·cases h
  rename_i q;have I:af t (k+1)≠48:=cX q;refine⟨⟨D.1.1,?_,D.1.2.2⟩,E (k+2) h oQ D.2⟩;have:=D.1.2.1;omega
 rename_i c;by_cases c2:k<t.size
 ·have F:=TL.even _ (aC _) D;grind[cL]
 rw[dA (by rw[cL];omega)];trivial
structure Mid ol s:Prop where
 inv:Inv ol s
 pz:Ja ol.ah s
 tl:Gv 48 s
 ok:s.Ok
 stb:XP ol s
theorem Mid.due{ol s}(g:Mid ol s):Mid ol (cC s).2.2:=by
 have fW:=xw g.ok;have eK:=g.stb.av (Ms s);unfold cC at fW eK⊢;split
 ·rename_i k hk;have D:=F7 _ _ _ _ hk;have hw:Kw _ _ _:=⟨rfl,g.inv,g.ok,g.tl⟩
  rw[hk]at fW eK;have he:=(zR _ _ _ _ hk rfl).1;exact⟨(hw.due he D.2).inv,g.pz,(hw.due he D.2).tl,fW,eK⟩
 omega
theorem Good.Aj{ol s}(g:Good ol s):Mid ol (tick s):=
 ⟨g.inv.same ⟨rfl,rfl⟩,g.pz,GM g.tl,yp g.ok,g.stb.av ⟨rfl,rfl,rfl,rfl⟩⟩
theorem Good.sm{ol s}(g:Good ol s):(bX ol.ah s).Sm:=by
 have D:(j1 ol.ah s).size<=16:=by unfold j1;rw[dC];have:=yc ol.ah s (min ol.ah.length 16);omega
 have E:(jI ol.ah s).size<=16:=by unfold jI;rw[dC];have:=BD ol.ah s (min ol.ah.length 16);omega
 have F:=g.tl.2;exact⟨bz D aV,bz E aV,bz F aV⟩
theorem Q0{t ol}(D:Fj t ol):∀ n {s} {l} {r},Mid ol s->eP ol n s l=some r->Good ol r.1:=by
 intro n;induction n with
 |zero=>grind[eP]
 |succ n I=>?_
 intro s l r g h;have gd:=g.due;simp only[eP]at h;split at h
 ·split at h
  ·rename_i c;have F:(bY ol (cC s).2.2 (cC s).1).2.2=0:=cX c;refine I ?_ h;generalize (cC s).2.2=E at*;generalize (cC s).1=ev at*;have hs:=Cx (by unfold bY at F;exact F);have e:(bY ol E ev).1=(rounds ol 29 (eh ol ⟨E,[],[]⟩ (choose ol E ev))).s:=by
    unfold bY finish at F⊢;grind
   refine⟨?_,?_,?_,rh gd.ok ev,hs⟩
   ·rw[e];exact rF D.lD 29 (lC D.lD (m:=⟨E,[],[]⟩) gd.inv ev)
   ·rw[e];exact((vM D.lD.le).rounds D.Dl 29 ((vM D.lD.le).eh D.Dl (m:=⟨E,[],[]⟩) ⟨gd.pz,gd.ok.1.2⟩ _)).1
   rw[e];exact(kf oQ ol).rounds D.Dl 29 ((kf oQ ol).eh D.Dl (m:=⟨E,[],[]⟩) gd.tl _)
  grind
 rename_i c;simp at h;subst h;have G:mn s.tm s.tm.size 0=none:=by
  grind[cC,mn]
 have e:(cC s).2.2=s:=by unfold cC;rw[G]
 simp only[e];have:=UF s.tm.size 0 G oQ (cX g.tl.1);exact⟨g.inv,g.pz,⟨by simpa using this,g.tl.2⟩,g.ok,g.stb⟩
def rn(n:Nat)(c:Int):Int:=if eW c then 65+(c-65+(n:Int)) % 26 else c
section
variable {n:Nat}
def mSt(n:Nat)(s:St):St:={s with name:=rn n s.name}
def mS(n:Nat)(ss:List St):List St:=ss.map (mSt n)
structure Ren n(t t':ByteArray):Prop where
 size:t'.size=t.size
 pk:∀p,af t' p=rn n (af t p)
end
structure Has(t:ByteArray)p(s:List Int):Prop where
 le:p+s.length<=t.size
 at_:∀k b,s[k]? =some b->af t (p+k)=b
theorem Has.right{t p a b}(h:Has t p (a++b)):Has t (p+a.length) b:=
 ⟨by have:=h.le;simp at this;omega,λk c hk=>by
  have:=h.at_ (a.length+k) c (by rw[iy oQ];simpa using hk);rwa[<-oe]at this⟩
theorem Has.head{t p s x}(h:Has t p (x::s)):af t p=x:=h.at_ 0 x rfl
theorem Has.tail{t p s x}(h:Has t p (x::s)):Has t (p+1) s:=Has.right (a:=[x]) h
def UG(l:List Int):Prop:=(∃s e,(s=33\/s=126\/s=35)/\ez e=true/\l=[s,e])\/(∃e d,ez e=true/\jy 49 d=true/\l=[64,e,d])\/∃s v d,(s=43\/s=45\/s=61)/\kF v=true/\jy 48 d=true/\l=[s,v,d]
theorem UG.ev{s e}(h:s=33\/s=126\/s=35)(he:ez e=true):UG [s,e]:=inl ⟨s,e,h,he,rfl⟩
theorem UG.tm{e d}(he:ez e=true)(D:jy 49 d=true):UG [64,e,d]:=inr (inl ⟨e,d,he,D,rfl⟩)
theorem UG.vr{s v d}(h:s=43\/s=45\/s=61)(E:kF v=true)(D:jy 48 d=true):UG [s,v,d]:=inr (inr ⟨s,v,d,h,E,D,rfl⟩)
theorem UG.ind{M:(l:List Int)->UG l->Prop}(ev:∀{s e} h he,M [s,e] (.ev h he))(tm:∀{e d} he D,M [64,e,d] (.tm he D))(vr:∀{s v d} h G D,M [s,v,d] (.vr h G D)){l}h:M l h:=by
 rcases h with⟨s,e,E,F,rfl⟩|⟨e,d,E,F,rfl⟩|⟨s,v,d,E,F,I,rfl⟩
 ·simp_all
 ·simp_all
 simp_all
def MW(R:List Int->Prop)(l:List Int):Prop:=∃L:List (List Int),(∀a∈L,R a)/\l=L.flatten
theorem MW.nil{R}:MW R []:=⟨[],dy,rfl⟩
theorem MW.cons{R a s}(D:R a)(hs:MW R s):MW R (a++s):=by
 obtain⟨L,h,rfl⟩:=hs;refine⟨a::L,λx hx=>?_,rfl⟩;grind
theorem MW.ind{R}{M:(l:List Int)->MW R l->Prop}(nil:M [] .nil)(cons:∀{a s} E hs,M s hs->M (a++s) (.cons E hs)){l}h:M l h:=by
 obtain⟨L,D,rfl⟩:=h;induction L with
 |nil=>simp_all
 |cons a L F=>exact cons (D a dy) ⟨L,λx hx=>D x (by simp[hx]),rfl⟩ (F λx hx=>D x (by simp[hx]))
abbrev yN(l:List Int):Prop:=MW UG l
theorem yN.snoc{s a}(h:yN s)(D:UG a):yN (s++a):=by
 induction h using MW.ind with
 |nil=>have:=MW.cons D .nil;simp_all
 |cons hb _ E=>rw[jL];exact .cons hb E
section
variable {t:ByteArray}
def Vz(l:List Int):Prop:=l=[]\/∃v s d,kF v=true/\sx s=true/\jy 48 d=true/\l=[63,v,s,d]
theorem Vz.none:Vz []:=inl rfl
theorem Vz.some{v s d}(E:kF v=true)(hs:sx s=true)(D:jy 48 d=true):Vz [63,v,s,d]:=inr ⟨v,s,d,E,hs,D,rfl⟩
theorem Vz.ind{M:(l:List Int)->Vz l->Prop}(none:M [] .none)(some:∀{v s d} E hs D,M [63,v,s,d] (.some E hs D)){l}h:M l h:=by
 rcases h with rfl|⟨v,s,d,F,G,I,rfl⟩
 ·omega
 simp_all
def TgT(n:Nat)(c:Int):Prop:=c=46\/c=122\/(97<=c/\c<=100)\/(65<=c/\c<65+(n:Int))
def TaT(n:Nat)(c:Int):Prop:=c=45\/(65<=c/\c<65+(n:Int))
def WZ(n:Nat)(l:List Int):Prop:=(∃ tg ta g a,TgT n tg/\Vz g/\yN a/\TaT n ta/\l=[58,tg]++(g++(a++[62,ta])))\/∃ b a,(b=94\/b=36)/\yN a/\l=[b]++(a++[59])
theorem WZ.tr{n tg ta g a}(D:TgT n tg)(E:Vz g)(F:yN a)(G:TaT n ta):WZ n ([58,tg]++(g++(a++[62,ta]))):=inl ⟨tg,ta,g,a,D,E,F,G,rfl⟩
theorem WZ.bl{n b a}(D:b=94\/b=36)(E:yN a):WZ n ([b]++(a++[59])):=inr ⟨b,a,D,E,rfl⟩
theorem WZ.ind{n}{M:(l:List Int)->WZ n l->Prop}(tr:∀{tg ta} {g a} (D:TgT n tg) (E:Vz g) (F:yN a) (G:TaT n ta),M _ (.tr D E F G))(bl:∀{b} {a} (D:b=94\/b=36) (E:yN a),M _ (.bl D E)){l}h:M l h:=by
 rcases h with⟨tg,ta,g,a,D,E,F,G,rfl⟩|⟨b,a,D,E,rfl⟩
 ·simp_all
 simp_all
abbrev GN(n:Nat)(l:List Int):Prop:=MW (WZ n) l
theorem GN.snoc{n s a}(h:GN n s)(D:WZ n a):GN n (s++a):=by
 induction h using MW.ind with
 |nil=>have:=MW.cons D .nil;simp_all
 |cons hb _ E=>rw[jL];exact .cons hb E
structure ajU n(r:Rs):Prop where
 dF:∀x∈r.dF,TgT n x.uh
 dH:∀u∈r.dH,65<=u.name/\u.name<65+(n:Int)
end
structure afr(P:List (Int×Int)):Prop where
 len:P.length<=16
 root:∃k,P[0]? =some (k,-1)/\(k=2\/k=3)
 kind:∀(j:Nat) q p,P[j]? =some (q,p)->1<=q/\q<=5
 DD:∀ j q p,P[j]? =some (q,p)->j=0\/∃i:Nat,p=(i:Int)/\i<j/\∃kd pp,P[i]? =some (kd,pp)/\(kd=2\/kd=3)/\(q=4\/q=5->kd=2)
 Gp:∀(i:Nat) k p,P[i]? =some (k,p)->(k=2\/k=3)->∃(j:Nat) (q:Int),P[j]? =some (q,(i:Int))/\q≠5
structure WrC(P:List (Int×Int))(M:Option Nat->Nat->Nat->List Int->Prop):Prop where
 fin:∀{i} {p},P[i]? =some (4,p)->M none i (i+1) [60,65+(i:Int),62]
 his:∀{i} {p},P[i]? =some (5,p)->M none i (i+1) [42,65+(i:Int)]
 box:∀{i e} {k p} {a ks b},P[i]? =some (k,p)->(k=1\/k=2\/k=3)->GN P.length a->GN P.length b->M (some i) (i+1) e ks->
  M none i e ([if k=3 then 91 else 40,65+(i:Int)]++(a++(ks++(b++[if k=3 then 93 else 41]))))
 nil:∀{i j},M (some i) j j []
 cons:∀{i j e f:Nat} {q} {s ss},P[j]? =some (q,(i:Int))->M none j e s->M (some i) e f ss->M (some i) j f (s++ss)
def Wr(P:List (Int×Int))(o:Option Nat)(i e:Nat)(s:List Int):Prop:=∀M,WrC P M->M o i e s
theorem Wr.fin{P i p}(h:P[i]? =some (4,p)):Wr P none i (i+1) [60,65+(i:Int),62]:=λ_ c=>c.fin h
theorem Wr.his{P i p}(h:P[i]? =some (5,p)):Wr P none i (i+1) [42,65+(i:Int)]:=λ_ c=>c.his h
theorem Wr.box{P i e k p a ks b}(h:P[i]? =some (k,p))(hk:k=1\/k=2\/k=3)(D:GN P.length a)(hb:GN P.length b)(hs:Wr P (some i) (i+1) e ks):
 Wr P none i e ([if k=3 then 91 else 40,65+(i:Int)]++(a++(ks++(b++[if k=3 then 93 else 41])))):=λM c=>c.box h hk D hb (hs M c)
theorem Wr.nil{P i j}:Wr P (some i) j j []:=λ_ c=>c.nil
theorem Wr.cons{P}{i:Nat}{j}{e}{f}{q}{s}{ss}(h:P[j]? =some (q,(i:Int)))(D:Wr P none j e s)(E:Wr P (some i) e f ss):Wr P (some i) j f (s++ss):=λM c=>c.cons h (D M c) (E M c)
theorem Wr.ind{P}{M:(o:Option Nat)->(i e:Nat)->(s:List Int)->Wr P o i e s->Prop}(fin:∀{i} {p} (h:P[i]? =some (4,p)),M none i (i+1) [60,65+(i:Int),62] (.fin h))(his:∀{i} {p} (h:P[i]? =some (5,p)),M none i (i+1) [42,65+(i:Int)] (.his h))(box:∀{i e} {k p} {a ks b} (h:P[i]? =some (k,p)) hk D hb hs,M (some i) (i+1) e ks hs->M none i e ([if k=3 then 91 else 40,65+(i:Int)]++(a++(ks++(b++[if k=3 then 93 else 41])))) (.box h hk D hb hs))(nil:∀{i j},M (some i) j j [] .nil)(cons:∀{i j e f:Nat} {q} {s ss} (h:P[j]? =some (q,(i:Int))) E F,M none j e s E->M (some i) e f ss F->M (some i) j f (s++ss) (.cons h E F)){o}{i}{e}{s}h:M o i e s h:=
 (h (λo i e s=>∃h,M o i e s h) ⟨λh=>⟨_,fin h⟩,λh=>⟨_,his h⟩,λh hk D hb ⟨_,m⟩=>⟨_,box h hk D hb _ m⟩,⟨_,nil⟩,λh ⟨_,m1⟩ ⟨_,m2⟩=>⟨_,cons h _ _ m1 m2⟩⟩).2
structure UH(P:List (Int×Int))(ss:List St):Prop where
 len:ss.length<=P.length
 at_:∀(k:Nat) s,ss[k]? =some s->∃kd p,P[k]? =some (kd,p)/\s.name=65+(k:Int)/\s.parent=p/\(s.kind=kd\/(kd=2/\s.kind=1/\∀ j q,j<ss.length->P[j]? ≠some (q,(k:Int))))
def opn(k:Int):Int:=if k=3 then 91 else if k=4 then 60 else if k=5 then 42 else 40
theorem MX{k}(D:1<=k)(E:k<=5):fU (opn k)=if k=2 then 1 else k:=by
 have:k=1\/k=2\/k=3\/k=4\/k=5:=oQ;rcases this with rfl|rfl|rfl|rfl|rfl<;>rfl
theorem UH.more{P}(D:afr P){ss}(h:UH P ss){k}{parent}(hk:P[ss.length]? =some (k,parent))pos:
 UH P (cI parent (ss++[⟨65+(ss.length:Int),pos,fU (opn k),parent⟩])):=by
 have Q:=(aM.1 hk).1;have O:=D.kind _ _ _ hk;have F:∀(j:Nat) (q:Int),j<ss.length+1->P[j]? ≠some (q,(ss.length:Int)):=by
  intro j q hj e;rcases D.DD _ _ _ e with rfl|⟨i,e2,e3,_⟩
  ·have⟨k0,e0,_⟩:=D.root;simp_all
  omega
 refine⟨by rw[iQ];simp;omega,?_⟩;rw[iQ];simp only[ix,e_,kN,eG];
 have I:∀(c:Nat) s,(ss++[⟨65+(ss.length:Int),pos,fU (opn k),parent⟩])[c]? =some s->∃kd p,P[c]? =some (kd,p)/\s.name=65+(c:Int)/\s.parent=p/\
  (s.kind=kd\/(kd=2/\s.kind=1/\∀(j:Nat) (q:Int),j<ss.length+1->(c:Int)=parent\/P[j]? ≠some (q,(c:Int)))):=by
  intro c s G;by_cases E:c<ss.length
  ·rw[mx E]at G;have⟨kd,p,e1,e2,e3,J⟩:=h.at_ c s G;grind
  grind[MX]
 generalize Z:ss++[(⟨65+(ss.length:Int),pos,fU (opn k),parent⟩:St)]=L at*;unfold cI;cases parent with
 |negSucc x=>
  simp_all
 |ofNat x=>?_
 simp only;
 have R:∀kd pp,P[x]? =some (kd,pp)->kd=2\/kd=3:=by
  intro kd pp e;rcases D.DD _ _ _ hk with e0|⟨i,e2,e3,U,X,J,Y,_⟩
  ·have⟨k0,e1,_⟩:=D.root;simp_all
  grind
 grind
structure ajW(P:List (Int×Int))(ol:Ol):Prop where
 len:ol.ah.length=P.length
 at_:∀(k:Nat) s,ol.ah[k]? =some s->P[k]? =some (s.kind,s.parent)/\s.name=65+(k:Int)
 dF:∀x∈ol.dF,TgT P.length x.uh
structure ajX(w:Wk):Prop where
 op:∀c∈w.open_,c=41\/c=93
 cl:w.close≠32
end Ch
def W3(l:List (Int×Int)):List Value:=l.flatMap λa=>[int i64 a.1,int i64 a.2]
def Fl(w:World)(B:Nat)(v:Value)(n:Nat):Prop:=((∃F D,v= slice F 0 D)/\n=0)\/
 ∃g E D,v= slice (some ⟨g,E,none⟩) n D/\g<B/\∀j,j<n->∃x,w.cell? ⟨g,E+j,none⟩=some (int i64 x)/\ -9223372036854775808<=x/\x<=9223372036854775807
theorem Fl.aB{w w' B v n}(h:Fl w B v n)(k:Below B w w'):Fl w' B v n:=by
 rcases h with h|⟨g,E,D,e,F,G⟩
 ·exact inl h
 refine inr ⟨g,E,D,e,F,λj hj=>?_⟩;have⟨x,hx,hb⟩:=G j hj;refine⟨x,?_,hb⟩;rw[World.cell?]at hx⊢;rw[k.block g F];omega
theorem Fl.len{w B v n}(h:Fl w B v n):∃E D,v= slice E n D:=by
 rcases h with⟨⟨E,D,rfl⟩,rfl⟩|⟨g,F,D,rfl,_⟩
 ·simp_all
 simp_all
structure Mk(w:World)B(b:Nat)lv n(a:Nat)P(room:Nat)pv:Prop where
 low:B<=b
 cj:w.heap[b]? =some (cells #[lv,int i64 a,pv,int i64 room] 102 (0,0))
 pts:w.ownsRow B 113 2 pv P.length (W3 P)
 ints:Fl w B lv n
 nle:n<=maxLen
section
variable {w:World} {B b:Nat} {lv:Value} {n a:Nat} {P:List (Int×Int)} {room:Nat} {pv:Value}
theorem Mk.lt(h:Mk w B b lv n a P room pv):b<w.heap.size:=aR h.cj
theorem Mk.ZJ(h:Mk w B b lv n a P room pv):B<=w.heap.size:=by have:=h.lt;have:=h.low;omega
theorem Mk.c0(h:Mk w B b lv n a P room pv):w.cell? ⟨b,0,none⟩=some lv:=dG h.cj rfl
theorem Mk.c1(h:Mk w B b lv n a P room pv):w.cell? ⟨b,1,none⟩=some (int i64 a):=dG h.cj rfl
theorem Mk.c2(h:Mk w B b lv n a P room pv):w.cell? ⟨b,2,none⟩=some pv:=dG h.cj rfl
theorem Mk.c3(h:Mk w B b lv n a P room pv):w.cell? ⟨b,3,none⟩=some (int i64 room):=dG h.cj rfl
theorem Mk.free(h:Mk w B b lv n a P room pv)i:w.frozen? ⟨b,i,none⟩=false:=by simp[World.frozen?,h.cj]
theorem Mk.ne(h:Mk w B b lv n a P room pv):pv.ownBlock≠some b:=aZ h.pts h.cj aV
theorem Mk.aB{S w'}(h:Mk w B b lv n a P room pv)(k:Kp S w w')(hb:¬S b)(E:∀i,pv.ownBlock=some i->¬S i)(D:∀i,S i->B<=i):Mk w' B b lv n a P room pv:=
 ⟨h.low,k.at_ h.cj hb,k.owns h.pts E,h.ints.aB (k.below h.ZJ D),h.nle⟩
theorem Mk.aw{w'}(h:Mk w B b lv n a P room pv)(k:Kp bA w w'):Mk w' B b lv n a P room pv:=h.aB k (λx=>x) (λ_ _ x=>x) (λ_ x=>x.elim)
theorem Mk.drewN(h:Mk w B b lv n a P room pv)m:Mk (w.drewN m) B b lv n a P room pv:=h.aw ((Kp.refl _ _).drewN m)
theorem Mk.Hj(h:Mk w B b lv n a P room pv)(c:Nat):Mk (w.setCell ⟨b,1,none⟩ (int i64 c)) B b lv n c P room pv:=by
 have D:=h.ne;have K:Kp (λk=>k=b) w (w.setCell ⟨b,1,none⟩ (int i64 c)):=(Kp.refl _ _).setCell jF _;refine⟨h.low,?_,K.owns h.pts (λi e x=>D (by rw[<-x];exact e)),h.ints.aB (K.below h.ZJ (λi x=>by have:=h.low;omega)),h.nle⟩;rw[ar _ h.cj];rfl
theorem Mk.Yt(h:Mk w B b lv n a P room pv)(c:Nat):Mk (w.setCell ⟨b,3,none⟩ (int i64 c)) B b lv n a P c pv:=by
 have D:=h.ne;have K:Kp (λk=>k=b) w (w.setCell ⟨b,3,none⟩ (int i64 c)):=(Kp.refl _ _).setCell jF _;refine⟨h.low,?_,K.owns h.pts (λi e x=>D (by rw[<-x];exact e)),h.ints.aB (K.below h.ZJ (λi x=>by have:=h.low;omega)),h.nle⟩;rw[ar _ h.cj];rfl
end
def JD(w:World)(b:Nat)(a:As):Prop:=w.heap[b]? =some (cells (cM a) 26 (0,0))
theorem JD.aB{S w w' b a}(h:JD w b a)(k:Kp S w w')(hs:¬S b):JD w' b a:=k.at_ h hs
theorem JD.lt{w b a}(h:JD w b a):b<w.heap.size:=aR h
theorem JD.c0{w b a}(h:JD w b a):w.cell? ⟨b,0,none⟩=some (string a.act):=dG h rfl
theorem JD.c1{w b a}(h:JD w b a):w.cell? ⟨b,1,none⟩=some (string a.b_):=dG h rfl
theorem JD.abc{w b a}(h:JD w b a)v:JD (w.setCell ⟨b,0,none⟩ (string v)) b {a with act:=v}:=by
 unfold JD at*;rw[heap_setCell_same _ _ _ _ _ _ h];rfl
theorem JD.Hj{w b a}(h:JD w b a)v:JD (w.setCell ⟨b,1,none⟩ (string v)) b {a with b_:=v}:=by
 unfold JD at*;rw[heap_setCell_same _ _ _ _ _ _ h];rfl
def VB(w:World)(g:Nat)(l:List Int):Prop:=∃C,w.heap[g]? =some (cells C 5 (C.size,C.size+1))/\l.length<=C.size/\∀(j:Nat) x,l[j]? =some x->C[j]? =some (Value.int .u8 x)
section
variable {w:World} {g:Nat} {l:List Int}
theorem VB.cell(h:VB w g l){j}{x}(D:l[j]? =some x):w.cell? ⟨g,j,none⟩=some (int .u8 x):=by
 have⟨C,h1,_,h3⟩:=h;rw[World.cell?,h1];simp_all
theorem VB.free(h:VB w g l){j}(D:j<l.length):w.frozen? ⟨g,j,none⟩=false:=by
 have⟨C,h1,h2,_⟩:=h;simp[World.frozen?,h1];omega
theorem VB.set(h:VB w g l){j}y:VB (w.setCell ⟨g,j,none⟩ (int .u8 y)) g (l.set j y):=by
 have⟨C,h1,h2,h3⟩:=h;refine⟨C.setIfInBounds j (int .u8 y),?_,by simpa using h2,λk x hk=>?_⟩
 ·grind[ar]
 grind
theorem VB.new w s:VB (Lib.bytesWorld w 5 s) w.heap.size (gW s):=by
 refine⟨_,Lib.bytesWorld_at_new w 5 s,?_,λj x hj=>?_⟩
 ·simp[Lib.bytesCells,cL]
 have D:=(aM.1 hj).1;rw[cL]at D;have:=Lib.bytesWorld_cell w 5 s j D;rw[World.cell?,Lib.bytesWorld_at_new]at this;grind[gW]
