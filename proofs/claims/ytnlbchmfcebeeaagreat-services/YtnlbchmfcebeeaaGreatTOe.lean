import Derived.Test.YtnlbchmfcebeeaaGreatTSg
set_option maxHeartbeats 12800000
set_option maxRecDepth 100000
namespace Go.Proofs.YtnlbchmfcebeeaaGreat
open Go.Proofs.Tryz Ch
open Go.RowKit
open Value(int slice bool pointer string agg tuple)
open IntKind(i64)
open Obj(cells)
open Ending(returned)
open Operand(tmp)
open Or(inl inr)
theorem Nb:(prog.info? 79).map (·.size)=some 3:=bZ
theorem Oz:∃d,prog.underlying 79=some d/\ee d=true:=⟨_,underlying79,rfl⟩
theorem Nc r:(prog.info? 79).map (·.size)=some (vk r).size:=Nb
theorem Rg w{xb}{tb}{T}{pc}{ol}{x}{kv}(h:gF w xb tb T pc ol x kv)u r:
 Calls prog 84 #[pointer (some ⟨xb,0,none⟩),int i64 u,agg (vk r)] w λy w'=>y=returned (int i64 (rK x u r).2)/\jh w w' xb tb T pc ol kv (rK x u r).1:=by
 have⟨dq,SC,DS⟩:=Oz;have am:=h.low;have ap:=aR h.uS;have aI:=aR h.cj;have K1:=kG w (cells (vk r) 79);have I:=ak w (cells (vk r) 79);have O:=h.aw K1;have Y:=ag (yP _ O u);have rI:=Nc r;by_cases hc:0<=u/\u<(x.ai.length:Int)
 ·obtain⟨n,rfl⟩:∃n:Nat,u=(n:Int):=⟨u.toNat,oQ⟩
  have hn:n<x.ai.length:=oQ;obtain⟨t,hu⟩:∃t,x.ai[n]? =some t:=⟨_,au hn⟩
  have Ev:ub x (n:Int)=some t:=by unfold ub;rw[aq oQ];exact hu
  have R:(decide (0<=(n:Int))&&decide ((n:Int)<(x.ai.length:Int)))=true:=il;rw[R]at Y;have x9:(w.alloc (cells (vk r) 79)).cell? _=some (slice (some ⟨tb,0,none⟩) x.ai.length x.ai.length):=O.cell 9;have c0:(w.alloc (cells (vk r) 79)).cell? ⟨tb,n*45,none⟩=some _:=O.fG hu (j:=0) oQ;have HU:=ag (show rK x (n:Int) r=if t.kind≠0 then(x,11)else if pG r then(aD x n (sT r),0)else(x,12)by unfold rK;rw[Ev];rfl);have ab:(n:Int)<x.ai.length:=oQ;generalize rK x (n:Int) r=SS at*;by_cases q:t.kind≠0
  ·have J:=ag (HU.trans (aq q));have F:=bw O K1;go_in;go_upto_region 1 with fail;generalize w.alloc (cells (vk r) 79)=w1 at*;go_wp;exact cF Y (qR J (jh.of F.1 (F.2.mono gM)))
  have HV:=ag (HU.trans (ax q));have q':t.kind=0:=cX q;have ER:=ag (DR (w.alloc (cells (vk r) 79)) r);have F:=bw O K1;have E:(sT r).now.Wf:=qs;have aa:∀W,gF W xb tb T pc ol x kv->gF (W.setRow tb (putAt (dN x.ai).toArray (n*45) (lR (sT r)))) xb tb T pc ol (aD x n (sT r)) kv:=by
   intro W hW;exact hW.UQ (t':=sT r) hu E 0 (lR (sT r)) (by rw[gE E];exact aC _) (by rw[List.take_zero,kT,dA (by rw[gE E,gE (hW.tWf hu)];exact aC _),iz])
  have Xa:=O.JJ;have aj:∀W,gF W xb tb T pc ol x kv->W.heap[tb]? =some (cells (dN x.ai).toArray 173 (0,0)):=λW hW=>hW.uS;have RV:n*45+(lR (sT r)).length<=(dN x.ai).toArray.size:=by rw[Xa,gE E];omega
  have sI:(prog.info? 173).map (·.size)=some (lR (sT r)).length:=by rw[gE E];exact M0
  have sO:=GO (sT r);have EN:=λW=>ag (JO W r);generalize (dN x.ai).toArray=TA at*;generalize lR (sT r)=TL at*;have HP:=c_ aa aj EN;generalize pG r=rq at*;generalize ao:vk r=G at*;go_in;go_upto_region 1 with fail;generalize w.alloc (cells G 79)=w1 at*;go_wp;refine cF Y ?_;go_wp2_with (refine gV I SC DS rI ?_);refine b9 ER ?_;intro X K3;have h3:=F.1.aw K3;have KA:=F.2.trans K3;have oM:=K3.at_ I (λx=>x);have y9:X.cell? _=some (slice (some ⟨tb,0,none⟩) x.ai.length x.ai.length):=h3.cell 9;cases rq with
  |false=>
   have J:=ag (HV.trans (ax dy));have Z:=bw h3 KA;exact qR J (jh.of Z.1 (Z.2.mono gM))
  |true=>?_
  have J:=ag (HV.trans (aq rfl));have KD:Kp bA X X.drew:=(Kp.refl _ _).drewN 1;have D:X.drew.cell? ⟨xb,9,none⟩=some (slice (some ⟨tb,0,none⟩) x.ai.length x.ai.length)/\X.drew.heap[w.heap.size]? =some (cells G 79 (0,0)):=⟨y9,oM⟩
  have EN:=HP.2.2 X.drew;have Z:=bw (h3.aw KD) (KA.trans KD);go_upto_region 7 with fail;refine aY (λw'=>w'.cell? ⟨xb,9,none⟩=some (slice (some ⟨tb,0,none⟩) x.ai.length x.ai.length)/\w'.heap[w.heap.size]? =some (cells G 79 (0,0))) bZ ?_;refine bR 0 23 (pointer (some ⟨xb,0,none⟩)) D ?_;refine bR 1 24 (pointer (some ⟨xb,0,none⟩)) D ?_;refine bR 2 25 (pointer (some ⟨xb,9,none⟩)) D ?_;refine fh 3 26 (slice (some ⟨tb,0,none⟩) x.ai.length x.ai.length) rfl (λw' hS=>by simp[execOp,Act.eval,go_sem,hS.1]) D ?_;refine bR 4 27 (int i64 n) D ?_;refine fh 5 28 (agg G) rfl (λw' hS=>dR 79 (tmp 5) rfl w.heap.size rfl 79 G (0,0) dq hS.2 SC DS rI) D ?_;refine pf 6 ?_;refine er (some 29) rfl 137 #[agg G] wX (agg TL.toArray) _ EN ?_;intro U K5;have h5:=Z.1.aw K5;have KB:=Z.2.trans K5;have Q:U.cell? ⟨xb,9,none⟩=some (slice (some ⟨tb,0,none⟩) x.ai.length x.ai.length)/\U.heap[w.heap.size]? =some (cells G 79 (0,0)):=⟨h5.cell 9,K5.at_ D.2 (λx=>x)⟩
  refine⟨Q,?_⟩;simp only[Act.put,pA,pB,pC];refine fh 7 30 (pointer (some ⟨tb,n*45,none⟩)) rfl (λw' _=>by simp[execOp,Act.eval,go_sem,ab]) Q ?_;have ad:=HP.2.1 U h5;have hF:=HP.1 U h5;have KF:Kp _ _ (U.setRow tb (putAt TA (n*45) TL)):=(KB.mono (S':=Aq xb tb kv) gM).setRow (λ_=>inr (inl rfl)) _;have CO:(U.setRow tb (putAt TA (n*45) TL)).cell? ⟨xb,9,none⟩=some (slice (some ⟨tb,0,none⟩) x.ai.length x.ai.length)/\(U.setRow tb (putAt TA (n*45) TL)).heap[w.heap.size]? =some (cells G 79 (0,0)):=by
   refine⟨?_,by rw[cN _ _ _ _ oQ];exact Q.2⟩;have e:=hF.cell 9;rw[e];simp[vj,aD]
  refine ym 8 bZ rfl rfl (oO 173 (tmp 30) (tmp 29) rfl tb (n*45) TL rfl rfl 173 TA ad sI RV sO ⟨CO,?_⟩);refine bG bZ (bH ?_) _;simp only[Act.put];have HZ:=bw hF KF;exact qR J (jh.of HZ.1 HZ.2)
 have Ev:ub x u=none:=by
  unfold ub;split
  ·rw[List.getElem?_eq_none_iff];omega
  rfl
 have R:(decide (0<=u)&&decide (u<(x.ai.length:Int)))=false:=by
  rw[Bool.eq_false_iff];intro e;apply hc;simpa using e
 rw[R]at Y;have J:=ag (show rK x u r=(x,10)by unfold rK;rw[Ev]);generalize rK x u r=SS at*;have F:=bw O K1;go_in;go_upto_region 1 with fail;generalize w.alloc (cells (vk r) 79)=w1 at*;go_wp;exact cF Y (qR J (jh.of F.1 (F.2.mono gM)))
theorem UT w{xb}{tb}{pc}{ol}{x}{kv}(h:gF w xb tb 138 pc ol x kv)u r:
 Calls prog 60 #[pointer (some ⟨xb,0,none⟩),int i64 u,agg (vk r)] w λy w'=>y=returned (int i64 (rK x u r).2)/\jh w w' xb tb 138 pc ol kv (rK x u r).1:=by
 have⟨dq,SC,DS⟩:=Oz;have Y:=kG w (cells (vk r) 79);have G:=ak w (cells (vk r) 79);have J:=Y.drewN 1;have R:=ag (Rg (w.alloc (cells (vk r) 79)).drew (h.aw J) u r);have Z:=Nc r;have U:=ag J;have I:=ag h.low;generalize rK x u r=O at*;generalize vk r=E at*;go_in;go_upto_region 1 with fail;generalize w.alloc (cells E 79)=w1 at*;have D:w1.drew.heap[w.heap.size]? =_:=G;refine aY (λw'=>w'.heap[w.heap.size]? =some (cells E 79 (0,0))) bZ ?_;refine bR 0 7 (pointer (some ⟨xb,0,none⟩)) D ?_;refine bR 1 8 (pointer (some ⟨xb,0,none⟩)) D ?_;refine bR 2 9 (pointer (some ⟨xb,0,none⟩)) D ?_;refine bR 3 10 (int i64 u) D ?_;refine fh 4 11 (agg E) rfl (λw' hS=>dR 79 (tmp 5) rfl w.heap.size rfl 79 E (0,0) dq hS SC DS Z) D ?_;refine pf 5 ?_;refine er (some 12) rfl 84 #[pointer (some ⟨xb,0,none⟩),int i64 u,agg E] wX (int i64 O.2) _ R ?_;intro w5 Q;have F:=Q.at_ I D;refine⟨F,?_⟩;refine iU 6 6 (int i64 O.2) rfl sr F ?_;refine bG bZ (bH ?_) _;simp only[Act.put,pA,pB,pC];have X:=ag (jh.trans (U.mono gM) (λ_ e=>inl e) Q);exact iN X
theorem Rh w{xb}{tb}{pc}{ol}{x}{kv}(h:gF w xb tb 138 pc ol x kv)(F:x.Bd)(G:ol.Ok)u(Z:∀t,ub x u=some t->StP ol x t):
 Calls prog 38 #[pointer (some ⟨xb,0,none⟩),int i64 u] w λr w'=>r=returned (tuple #[agg (bU (cW ol x u).2.1),bool (cW ol x u).2.2.1,int i64 (cW ol x u).2.2.2])/\jh w w' xb tb 138 pc ol kv (cW ol x u).1:=by
 have⟨dr,hdr,fX⟩:=o0;have D:=h.low;have J:=kG w (cells aU 64);have E:=ak w (cells aU 64);have Y:=h.aw J;have Q:=ag (Na _ Y F G u (λt ht=>Z t ht));generalize cW ol x u=U at*;have⟨X,rp,dn,e⟩:=U;simp only at*;go_in;go_upto_region 1 with fail;generalize w.alloc (cells aU 64)=w1 at*;go_wp;refine b9 Q ?_;intro w3 O;have I:=O.at_ D E;have R:=ag (jh.eV (J.mono gM) O I (bU rp));have lH:=an w3 w.heap.size aU (bU rp) 64 (0,0) I;go_wp2_with (refine bJ (bU rp) I bh rfl (du _) ?_);refine aJ (az rfl _ _ w.heap.size 64 (bU rp) (0,0) dr rfl lH hdr fX bh) rfl ?_;exact⟨rfl,R⟩
theorem DT w{xb}{tb}{pc}{ol}{x}{kv}(h:gF w xb tb 138 pc ol x kv)(hk:x.kept.length<=1000):
 Calls prog 61 #[pointer (some ⟨xb,0,none⟩)] w λr w'=>r=returned (slice (some ⟨w.heap.size,0,none⟩) x.kept.length x.kept.length)/\w'.ownsRow w.heap.size 3 1 (slice (some ⟨w.heap.size,0,none⟩) x.kept.length x.kept.length) x.kept.length (x.kept.map λv=>int i64 v.num)/\Kp bA w w':=by
 have E:=ag (GP w h hk);go_in;go_wp;refine b9 E ?_;rintro I ⟨G,F⟩;have D:=bw G F;exact iN D
namespace Ch
def pH(t:ByteArray)(n:Int):Int:=
 if(read t).1 !=0 then(read t).1 else if n<1\/6<n then 10 else(cR (read t).2.2).2.2
def JP(n:Nat):Sv:=⟨0,[],0,⟨#[]⟩,List.replicate n iC,0,0⟩
theorem ZQ{n}(h:n<=6):(JP n).Bd:=⟨by simp[JP],by simp[JP],by simp[JP],by simp[JP],aA _,aA _,by simp[JP],by simp[JP],by simpa[JP]using h⟩
theorem At{ol}(D:ol.Ok):(cR ol).2.1.size<=10000000000:=by
 have E:=yk D (m:=⟨dL ol.ah,[],[]⟩) (n:=0) ⟨dy,dy⟩ [];have F:=Eb D 30 E;unfold cR finish;split
 ·simp_all
 show(strOfNums _).size<=_;rw[dC];have:=F.2;omega
end Ch
structure Xc(w:World)(tb:Nat)(pc:Pc)ol(x:Sv)kv:Prop where
 row:w.ownsRow 0 261 38 kv x.kept.length (jr x.kept)
 uS:w.heap[tb]? =some (cells (dN x.ai).toArray 173 (0,0))
 wf:∀v∈x.kept,v.now.Wf
 tw:∀t∈x.ai,t.now.Wf
 pl:∃B lt lb,Bw w B ol pc.c pc.d pc.e lt lb
theorem gF.val{w xb tb T pc ol x kv}(h:gF w xb tb T pc ol x kv):Xc w tb pc ol x kv:=⟨h.row,h.uS,h.wf,h.tw,h.pl⟩
theorem Xc.aw{w w' tb pc ol x kv}(h:Xc w tb pc ol x kv)(K:Kp bA w w'):Xc w' tb pc ol x kv:=by
 have⟨B,lt,lb,F⟩:=h.pl;exact⟨K.owns h.row (λ_ _ x=>x),K.at_ h.uS (λx=>x),h.wf,h.tw,B,lt,lb,F.aw K⟩
theorem Xc.cj{w xb tb T pc ol x kv}(h:Xc w tb pc ol x kv)(hb:w.heap[xb]? =some (cells (vj pc x kv tb) T (0,0)))(D:T=136\/T=138):gF w xb tb T pc ol x kv:=
 ⟨hb,h.row,h.uS,h.wf,h.tw,D,h.pl⟩
def UU(w w':World)(t:ByteArray)(n:Int)(A:Array Value):Prop:=
 (pH t n≠0->A=iP)/\(pH t n=0->∃tb pc kv,A=vj pc (sR (Ch.read t).2.2 n.toNat) kv tb/\Xc w' tb pc (Ch.read t).2.2 (sR (Ch.read t).2.2 n.toNat) kv/\w.heap.size<=tb/\(∀k,kv.ownBlock=some k->w.heap.size<=k)/\A.all (λx=>x.oneCell')=true)
def ZR(w w':World)(t:ByteArray)(n:Int)(v:Value):Prop:=
 (pH t n≠0->v= pointer none)/\(pH t n=0->∃xb tb pc kv,v= pointer (some ⟨xb,0,none⟩)/\gF w' xb tb 138 pc (Ch.read t).2.2 (sR (Ch.read t).2.2 n.toNat) kv/\∀k,Aq xb tb kv k->w.heap.size<=k)
theorem pI:(prog.info? 136).map (·.size)=some 12:=bZ
theorem Yd:∃d,prog.underlying 136=some d/\ee d=true:=⟨_,underlying136,rfl⟩
theorem CW:(iP:Array Value).all (λx=>x.oneCell')=true:=bZ
theorem Ye{pc x kv tb}(E:pc.a.oneCell'=true)(F:pc.b.oneCell'=true)(G:pc.c.oneCell'=true)(I:pc.d.oneCell'=true)(J:pc.e.oneCell'=true)(O:kv.oneCell'=true):(vj pc x kv tb).all (λx=>x.oneCell')=true:=by
 apply gH.2;intro y D;simp only[vj,kP,dB,gJ,gK]at D;rcases D with rfl|rfl|rfl|rfl|rfl|rfl|rfl|rfl|rfl|rfl|rfl|rfl<;>first|assumption|rfl
theorem Xd n:madeCells Dq (n*45)=(dN (List.replicate n iC)).toArray:=by
 have I:=JI;rw[<-I];have O:=gE (t:=iC) qs;have D:∀a∈List.replicate n iC,(lR a).length=45:=by
  simp_all
 have G:=tV lR 45 (List.replicate n iC) D;rw[List.length_replicate]at G;apply Array.ext_getElem?;intro i;unfold madeCells dN;have e1:((List.replicate n iC).flatMap lR).toArray[i]? =((List.replicate n iC).flatMap lR)[i]?:=dy;rw[e1];by_cases hi:i<n*45
 ·have E:i/45<n:=oQ;have F:i % 45<45:=oQ;have J:i % 45<(lR iC).length:=oQ;have:=kg lR 45 (List.replicate n iC) (i/45) iC (i % 45) D (by rw[List.getElem?_replicate,aq E]) F;grind
 simp_all
theorem Rj w t n:
 Calls prog 82 #[string t,int i64 n] w λr w'=>∃A,r=returned (tuple #[agg A,int i64 (pH t n)])/\UU w w' t n A/\Kp bA w w':=by
 have⟨dv,hdv,AH⟩:=Yd;have⟨ds,hds,iT⟩:=g7;have⟨dO,hdO,Zz⟩:=XG;have K1:=kG w (cells iP 136);have aj:=ux t;have HN:=ag (show∀w' A,UU w w' t n A=((pH t n≠0->A=iP)/\(pH t n=0->∃tb pc kv,A=vj pc (sR (Ch.read t).2.2 n.toNat) kv tb/\Xc w' tb pc (Ch.read t).2.2 (sR (Ch.read t).2.2 n.toNat) kv/\w.heap.size<=tb/\(∀k,kv.ownBlock=some k->w.heap.size<=k)/\A.all (λx=>x.oneCell')=true))from λ_ _=>rfl);have HU:=ag (show pH t n=if(Ch.read t).1 !=0 then(Ch.read t).1 else if n<1\/6<n then 10 else(cR (Ch.read t).2.2).2.2 from rfl);generalize UU w=NV at*;generalize pH t n=NE at*;have b0:=K1.size;go_in;go_wp;refine hm (ag (vp t (w.alloc (cells iP 136)))) ?_;rintro y w2 ⟨sv,tv,bv,lt,lb,rfl,F2,B2⟩;have K2:=s_ B2;have a2:=K2.at_ (ak w (cells iP 136)) (λx=>x);generalize bt:Ch.read t=rd at*;have⟨re,rf,ol⟩:=rd;simp only at aj F2 HU HN;have Ds:=Hn (e:=re) (f:=rf) (gC F2.ah) (gC F2.dF) (gC F2.fH);have F:=ak w2 (cells Dp 87);have E:=an (w2.alloc (cells Dp 87)) w2.heap.size _ (wj re rf sv tv bv) 87 (0,0) F;have K3:=rQ w2 (cells Dp 87) (wj re rf sv tv bv);have J:=K3.at_ a2 (λx=>x);have KB:=(K1.trans K2).trans K3;have br:=aR a2;have HX:=c_ (F2.aw K3) KB E;go_upto_region 2 with(refine bJ (wj re rf sv tv bv) F xo rfl Ds ?_);generalize (w2.alloc (cells Dp 87)).setRow w2.heap.size (wj re rf sv tv bv)=w3 at*;have z0:w3.cell? ⟨w2.heap.size,0,none⟩=some (int i64 re):=dG E rfl;generalize w2.heap.size=ob at*;cases q1:re !=0 with
 |true=>
  have O:=ag (HU.trans (show _=re by rw[q1];rfl));go_upto_region 3 with fail;have G:w3.drew.heap[ob]? =_:=E;have R:(w3.drew.setRow w.heap.size iP).heap[ob]? =some (cells (wj re rf sv tv bv) 87 (0,0)):=by rw[cN _ _ _ _ oQ];exact E
  refine aY (λw'=>w'.heap[ob]? =some (cells (wj re rf sv tv bv) 87 (0,0))) bZ ?_;refine iU 0 16 (agg iP) rfl (λw' _=>eU 136 #[] rfl iP [] rfl bZ) G ?_;refine iU 1 17 (pointer (some ⟨ob,0,none⟩)) rfl sr G ?_;refine iU 2 18 (int i64 re) rfl (λw' hS=>by(have c:w'.cell? ⟨ob,0,none⟩=some (int i64 re):=(by rw[World.cell?,hS];rfl);simp[execOp,Act.eval,Act.put,go_sem,c])) G ?_;refine cQ 3 bZ rfl rfl 136 (tmp 4) (tmp 16) rfl rfl w.heap.size iP rM rM 136 iP (by exact J) pI rfl CW R ?_;refine iU 4 5 (int i64 re) rfl sr R ?_;refine bG bZ (bH ?_) _;simp only[Act.put,pA,pB,pC];go_wp2;refine kH (an w3.drew _ _ _ _ _ (by exact J)) hdv AH pI ?_;refine⟨iP,by rw[O];rfl,?_,(HX.2.1.drewN 1).setRow (λx=>oQ) _⟩;rw[HN,O];exact⟨λ_=>rfl,λe=>by rw[e]at q1;simp at q1⟩
 |false=>?_
 have bg:re=0:=cX q1;have HV:=ag (HU.trans (show _=if n<1\/6<n then 10 else(cR ol).2.2 by rw[q1];rfl));by_cases q2:n<1\/6<n
 ·have O:=ag (HV.trans (aq q2));have lH:=an w3 w.heap.size iP iP 136 (0,0) J;have HK:=ag (HX.2.1.setRow (λx=>oQ) _:Kp _ _ (w3.setRow w.heap.size iP));have a1:∀A:Array Value,A=iP->NV (w3.setRow w.heap.size iP) t n A:=by
   intro A hA;rw[HN,O];exact⟨λ_=>hA,λe=>by simp at e⟩
  have ao:=ag a1;by_cases q3:n<1
  ·go_wp2_with (refine bJ iP J pI rfl CW ?_);refine kH lH hdv AH pI ?_;exact⟨iP,by rw[O];rfl,ao _ rfl,HK⟩
  have q4:6<n:=oQ;go_wp2_with (refine bJ iP J pI rfl CW ?_);refine kH lH hdv AH pI ?_;exact⟨iP,by rw[O];rfl,ao _ rfl,HK⟩
 have O:=ag (HV.trans (ax q2));have q3:¬n<1:=oQ;have q4:¬ 6<n:=oQ;obtain⟨k,rfl⟩:∃k:Nat,n=(k:Int):=⟨n.toNat,oQ⟩
 have ap:((k:Int)).toNat=k:=oQ;have F9:=Ed ol;have aI:=At aj;have HM:=ag (show sR ol k=lQ (JP k) (cR ol).1 (cR ol).2.1 from rfl);simp only[ap]at HN;have E1:=ag (BN w3 ob 0 ol (Pl.ofRow E HX.1) aj);generalize cR ol=ms at*;have⟨fs,ft,fe⟩:=ms;simp only at F9 O E1 HM aI;have fI:=iD F9.1;have fS:=jc F9.1;have fO:=mK fs;go_wp;refine b9 E1 ?_;intro w4 K4;have KC:=HX.2.1.trans K4;have F:=ak w4 (cells cB 95);have uO:=an (w4.alloc (cells cB 95)) w4.heap.size cB (aN fs).toArray 95 (0,0) F;have K5:=rQ w4 (cells cB 95) (aN fs).toArray;have lM:=K5.at_ (K4.at_ J (λx=>x)) (λx=>x);have tF:=K5.at_ (K4.at_ E (λx=>x)) (λx=>x);have HY:=bw ((HX.1.aw K4).aw K5) (KC.trans K5);generalize Io:(aN fs).toArray=FA at*;go_upto_region 7 with(refine bJ FA F fI (by rw[fS];rfl) fO ?_);generalize (w4.alloc (cells cB 95)).setRow w4.heap.size FA=D at*;generalize w4.heap.size=fb at*;cases q5:fe !=0 with
 |true=>
  have KF:=HY.2.setRow (g:=w.heap.size) (λx=>oQ) iP;have lH:=an D w.heap.size iP iP 136 (0,0) lM;have HK:=ag KF;go_wp2_with (refine bJ iP lM pI rfl CW ?_);refine kH lH hdv AH pI ?_;refine⟨iP,by rw[O];rfl,?_,HK⟩;rw[HN,O];exact⟨λ_=>rfl,λe=>absurd e (cX q5:fe≠0)⟩
 |false=>?_
 have bb:fe=0:=cX q5;subst bb;subst bg;have⟨i0,hi0,hz0,hz1,hz2⟩:=cr ZK;obtain⟨Z,sl,sc,rfl⟩:=gu HY.1.ah;obtain⟨ta,tl,tc,rfl⟩:=gu HY.1.dF;obtain⟨X,bl,Y,rfl⟩:=gu HY.1.fH;have ab:∀W:World,(Instr.makeSlice 134 (int i64 (k:Int)) (int i64 (k:Int))).run prog W= .ok (slice (some ⟨W.heap.size,0,none⟩) k k) (W.alloc (cells (dN (List.replicate k iC)).toArray 173)):=by
  intro W;have:=run_makeSlice (P:=prog) W 134 173 i0 (agg Dq) underlying134 hi0 hz0 i64 i64 (k:Int) (k:Int) oQ (Int.le_refl _) (by rw[hz1];omega) (by rw[hz2];omega) oQ;rw[this,hz1];simp only[ap];rw[<-Xd k];rfl
 have a5:∀tb,vj ⟨int i64 0,int i64 rf,slice Z sl sc,slice ta tl tc,slice X bl Y⟩ (JP k) (slice none 0 0) tb= #[int i64 0,int i64 rf,slice Z sl sc,slice ta tl tc,slice X bl Y,int i64 0,slice none 0 0,int i64 0,string ⟨#[]⟩,slice (some ⟨tb,0,none⟩) k k,int i64 0,int i64 0]:=by
  intro tb;simp[vj,JP]
 have HB:∀tb:Nat,prog.built 136 [(0,agg (wj 0 rf (slice Z sl sc) (slice ta tl tc) (slice X bl Y))),(3,slice (some ⟨tb,0,none⟩) k k)]=some (vj ⟨int i64 0,int i64 rf,slice Z sl sc,slice ta tl tc,slice X bl Y⟩ (JP k) (slice none 0 0) tb):=by
  intro tb;rw[a5];kernel_rfl
 have aS:∀tb,(vj ⟨int i64 0,int i64 rf,slice Z sl sc,slice ta tl tc,slice X bl Y⟩ (JP k) (slice none 0 0) tb).size=12:=λtb=>rfl;have aO:∀tb,(vj ⟨int i64 0,int i64 rf,slice Z sl sc,slice ta tl tc,slice X bl Y⟩ (JP k) (slice none 0 0) tb).all (λx=>x.oneCell')=true:=λtb=>Ye rfl rfl rfl rfl rfl rfl;have oI:_=some (wj 0 rf (slice Z sl sc) (slice ta tl tc) (slice X bl Y)).size:=xo;have bk:=aR lM;generalize a8:(⟨int i64 0,int i64 rf,slice Z sl sc,slice ta tl tc,slice X bl Y⟩:Pc)=pc at*;generalize bm:wj 0 rf (slice Z sl sc) (slice ta tl tc) (slice X bl Y)=OA at*;have HH:=fM ab HB aS aO;generalize a7:(dN (List.replicate k iC)).toArray=Q at*;generalize a9:vj pc (JP k) (slice none 0 0)=SV at*;have aa:=c_ a9 a7 a8;go_upto_region 9 with fail;go_cut [10]from 35 to 38 (λp wx=>∃xb tb,p= pointer (some ⟨xb,0,none⟩)/\wx.heap[xb]? =some (cells (SV tb) 136 (0,0))/\wx.heap[tb]? =some (cells Q 173 (0,0))/\Kp bA D wx/\D.heap.size<=tb/\D.heap.size<=xb)
 case first=>
  have⟨ab,HB,aS,aO⟩:=HH;have G:D.drew.heap[ob]? =_:=tF;have An:Kp bA D D.drew:=(Kp.refl _ _).drewN 1;refine aY (λw'=>w'.heap[ob]? =some (cells OA 87 (0,0))) bZ ?_;refine fh 0 35 (agg OA) rfl (λw' hS=>dR 87 (tmp 6) rfl ob rfl 87 OA (0,0) dO hS hdO Zz oI) G ?_;refine bR 1 36 (int i64 k) G ?_;refine qZ 2 4 bZ rfl rfl rfl rfl ?_ ?_
  ·refine gA (some 37) rfl (slice (some ⟨D.heap.size,0,none⟩) k k) (D.drew.alloc (cells Q 173)) (by simp[execOp,Act.eval,go_sem,ab]) ?_;have K1:=An.alloc (cells Q 173);have R:=K1.at_ tF (λx=>x);have I:=ak (D.drew.alloc (cells Q 173)) (cells iP 136);have K2:=K1.alloc (cells iP 136);have K3:=K2.setRow (g:=D.heap.size+1) (λx=>oQ) (SV D.heap.size);rw[(dy:(D.drew.alloc (cells Q 173)).heap.size=D.heap.size+1)]at I;refine⟨R,?_⟩;refine iU 3 38 (agg (SV D.heap.size)) rfl (λw' _=>eU 136 #[(0,.tmp 35),(3,.tmp 37)] rfl (SV D.heap.size) [(0,agg OA),(3,slice (some ⟨D.heap.size,0,none⟩) k k)] rM (HB _)) R ?_;refine pf 4 ?_;refine gA (some 10) rfl (pointer (some ⟨D.heap.size+1,0,none⟩)) ((D.drew.alloc (cells Q 173)).alloc (cells iP 136)) Fv ?_;refine⟨K2.at_ tF (λx=>x),?_⟩;refine cQ 5 bZ rfl rfl 136 (tmp 10) (tmp 38) rfl rfl (D.heap.size+1) (SV D.heap.size) rM rM 136 iP I (by rw[aS];exact pI) (by rw[aS];rfl) (aO _) (K3.at_ tF (λx=>x)) ?_;refine bG bZ (bH ?_) _;simp only[Act.put,pA,pB,pC];go_wp2;go_meet;refine⟨D.heap.size+1,D.heap.size,rfl,an _ _ _ _ _ _ I,?_,K3,aC _,oQ⟩;rw[cN _ _ _ _ oQ,cE _ _ _ dy];exact ak D.drew (cells Q 173)
  refine gA (some 10) rfl (pointer (some ⟨D.heap.size,0,none⟩)) (D.drew.alloc (cells iP 136)) Fv ?_;have K1:=An.alloc (cells iP 136);have I:=ak (D.drew.alloc (cells iP 136)) (cells Q 173);have K2:=K1.alloc (cells Q 173);have a0:=K2.at_ tF (λx=>x);have K3:=K2.setRow (g:=D.heap.size) (λx=>oQ) (SV (D.heap.size+1));have oM:((D.drew.alloc (cells iP 136)).alloc (cells Q 173)).heap[D.heap.size]? =some (cells iP 136 (0,0)):=by
   rw[cE _ _ _ dy];exact ak D.drew (cells iP 136)
  rw[(dy:(D.drew.alloc (cells iP 136)).heap.size=D.heap.size+1)]at I;refine⟨K1.at_ tF (λx=>x),?_⟩;refine pf 2 ?_;refine gA (some 37) rfl (slice (some ⟨D.heap.size+1,0,none⟩) k k) ((D.drew.alloc (cells iP 136)).alloc (cells Q 173)) (by simp[execOp,Act.eval,Act.put,go_sem,ab]) ?_;refine⟨a0,?_⟩;refine iU 3 38 (agg (SV (D.heap.size+1))) rfl (λw' _=>eU 136 #[(0,.tmp 35),(3,.tmp 37)] rfl (SV (D.heap.size+1)) [(0,agg OA),(3,slice (some ⟨D.heap.size+1,0,none⟩) k k)] rM (HB _)) a0 ?_;refine cQ 5 bZ rfl rfl 136 (tmp 10) (tmp 38) rfl rfl D.heap.size (SV (D.heap.size+1)) rM rM 136 iP oM (by rw[aS];exact pI) (by rw[aS];rfl) (aO _) (K3.at_ tF (λx=>x)) ?_;refine bG bZ (bH ?_) _;simp only[Act.put,pA,pB,pC];go_wp2;go_meet;refine⟨D.heap.size,D.heap.size+1,rfl,an _ _ _ _ _ _ oM,?_,K3,oQ,aC _⟩;rw[cN _ _ _ _ oQ];exact I
 case rest=>
  obtain⟨xb,tb,rfl,a4,a3,KC,bx,b1⟩:=hcut;have F6:=HY.1.aw KC;have KD:=HY.2.trans KC;have pe:=KC.at_ lM (λx=>x);have bo:=aR uO;rw[<-aa.1]at a4;rw[<-aa.2.1]at a3;obtain⟨B6,F6⟩:∃B,Bw wc B ol (slice Z sl sc) (slice ta tl tc) (slice X bl Y) lt lb:=⟨_,F6⟩
  have hS:gF wc xb tb 136 pc ol (JP k) (slice none 0 0):=by
   refine⟨a4,cd _ _ _ _,a3,by simp[JP],?_,inl rfl,B6,lt,lb,?_⟩
   ·intro t ht;rw[List.eq_of_mem_replicate ht];exact qs
   rw[<-aa.2.2];exact F6
  have EP:=ag (vT wc hS (ZQ oQ) fs F9.1 ft aI);rw[(ag Io),<-HM]at EP;generalize sR ol k=XX at*;go_wp2_with (refine gV (KC.at_ uO (λx=>x)) hds iT fI ?_);refine b9 EP ?_;rintro w7 ⟨U,h7,n7,K7⟩;have ZS:w7.heap[w.heap.size]? =some (cells iP 136 (0,0)):=K7.at_ pe (by
   rintro(e|e|e)
   ·omega
   ·omega
   simp[Value.ownBlock]at e)
  have Vw:=h7.cj;have bi:∀k,U.ownBlock=some k->w.heap.size<=k:=by
   intro k e;rcases n7 k e with e|e
   ·simp[Value.ownBlock]at e
   have:=KD.size;omega
  have ad:(vj pc XX U tb).all (λx=>x.oneCell')=true:=by
   refine Ye ?_ ?_ ?_ ?_ ?_ (gC h7.row)<;>rw[<-aa.2.2]<;>rfl
  have am:∀{b:Nat} {c:Array Value} {e:TypeId},w7.heap[b]? =some (cells c e (0,0))->e≠136->b≠w.heap.size:=by
   intro b c e hb be hx;rw[hx,ZS]at hb;simp only[bE,eH]at hb;exact be hb.2.1.symm
  have h8:gF (w7.setRow w.heap.size (vj pc XX U tb)) xb tb 136 pc ol XX U:=by
   refine h7.aB (S:=λk=>k=w.heap.size) ((Kp.refl (λk=>k=w.heap.size) w7).setRow (λ_=>rfl) _) oQ (am h7.uS aV) ?_ ?_
   ·intro k ek;have⟨a6,hc⟩:=bC h7.row ek;exact am hc aV
   intro i a6 e hi he;exact am hi (by intro x;subst x;revert he;unfold Fp;decide)
  have KF:Kp bA w (w7.setRow w.heap.size (vj pc XX U tb)):=by
   refine(KD.trans' K7 ?_).setRow (λx=>oQ) _;rintro i hi (e|e|e)
   ·have:=KD.size;omega
   ·have:=KD.size;omega
   simp[Value.ownBlock]at e
  have lH:=an w7 w.heap.size iP (vj pc XX U tb) 136 (0,0) ZS;have HZ:=fM h8 KF bi ad;have vI:_=some (vj pc XX U tb).size:=pI;have vS:(vj pc XX U tb).size=12:=rfl;generalize tR:vj pc XX U tb=AA at*;have Hd:=ag tR;go_wp2_with (first|refine gV Vw hdv AH vI ?_|refine bJ AA ZS vI (by rw[vS];rfl) ad ?_);refine kH lH hdv AH vI ?_;refine⟨AA,by rw[O];rfl,?_,HZ.2.1⟩;rw[HN];exact⟨λe=>absurd O e,λ_=>⟨tb,pc,U,Hd.symm,HZ.1.val,oQ,HZ.2.2.1,HZ.2.2.2⟩⟩
theorem UW w t n:
 Calls prog 58 #[string t,int i64 n] w λr w'=>∃v,r=returned (tuple #[v,int i64 (pH t n)])/\ZR w w' t n v/\Kp bA w w':=by
 have⟨dv,hdv,AH⟩:=Yd;have E:=ag (Rj w t n);have HN:=ag (show∀w' A,UU w w' t n A=((pH t n≠0->A=iP)/\(pH t n=0->∃tb pc kv,A=vj pc (sR (Ch.read t).2.2 n.toNat) kv tb/\Xc w' tb pc (Ch.read t).2.2 (sR (Ch.read t).2.2 n.toNat) kv/\w.heap.size<=tb/\(∀k,kv.ownBlock=some k->w.heap.size<=k)/\A.all (λx=>x.oneCell')=true))from λ_ _=>rfl);have HQ:=ag (show∀w' v,ZR w w' t n v=((pH t n≠0->v= pointer none)/\(pH t n=0->∃xb tb pc kv,v= pointer (some ⟨xb,0,none⟩)/\gF w' xb tb 138 pc (Ch.read t).2.2 (sR (Ch.read t).2.2 n.toNat) kv/\∀k,Aq xb tb kv k->w.heap.size<=k))from λ_ _=>rfl);generalize UU w=NV at*;generalize ZR w=NQ at*;generalize pH t n=R at*;generalize sR (Ch.read t).2.2 n.toNat=XX at*;generalize (Ch.read t).2.2=ol at*;go_in;go_wp;refine hm E ?_;rintro y O ⟨A,rfl,J,Z⟩;rw[HN]at J;have D:A.all (λx=>x.oneCell')=true:=by
  by_cases q:R=0
  ·have⟨_,_,_,_,_,_,_,h⟩:=J.2 q;exact h
  rw[J.1 q];exact CW
 have iL:A.size=12:=by
  by_cases q:R=0
  ·have⟨_,_,_,h,_⟩:=J.2 q;rw[h];rfl
  rw[J.1 q];rfl
 have vI:(prog.info? 136).map (·.size)=some A.size:=by rw[iL];exact pI
 have I:=ak O (cells iP 136);have aa:=an (O.alloc (cells iP 136)) O.heap.size iP A 136 (0,0) I;have Y:=rQ O (cells iP 136) A;have Q:=c_ J (Z.trans Y) Y;have ab:=Z.size;have ad:=Y.size;clear E J Z Y;go_upto_region 2 with(refine bJ A I vI (by rw[iL];rfl) D ?_);generalize (O.alloc (cells iP 136)).setRow O.heap.size A=w2 at*;generalize O.heap.size=sb at*;clear I;cases q:R !=0 with
 |true=>
  have G:R≠0:=cX q;go_wp2;go_ret2;refine⟨pointer none,rfl,?_,Q.2.1⟩;rw[HQ];exact⟨λ_=>rfl,λe=>absurd e G⟩
 |false=>?_
 have G:R=0:=cX q;subst G;have⟨tb,pc,kv,eA,hV,htl,hkl,D⟩:=Q.1.2 rfl;have U:=hV.aw Q.2.2;have HB:=ag (show prog.built 138 [(0,agg A)]=some A by rw[eA];kernel_rfl);have K3:=Q.2.1.alloc (cells A 138);have F:=ak w2 (cells A 138);rw[eA]at F;have h3:=(U.aw ((Kp.refl _ _).alloc (cells (vj pc XX kv tb) 138))).cj F (inr rfl);rw[<-eA]at h3;have aj:=Q.2.1.size;have X:=fM h3 K3 htl hkl;clear h3 K3 hV U F eA htl hkl D;go_wp2_with (first|refine gV aa hdv AH vI ?_|(refine fJ rfl 138 #[(0,.tmp 17)] rfl A [(0,agg A)] ?_ HB ?_;rfl));go_ret2;refine⟨_,rfl,?_,X.2.1⟩;rw[HQ];refine⟨λe=>absurd rfl e,λ_=>⟨w2.heap.size,tb,pc,kv,rfl,X.1,?_⟩⟩;rintro k (e|e|e)
 ·omega
 ·rw[e];exact X.2.2.1
 exact X.2.2.2 k e
namespace Ch
def jE(n:Nat)(t:Tk):Bool:=decide (t.kind=3)&&decide (1<=t.steps)&&decide (t.pinned=(n:Int))
def fY(l:List Tk)(n:Nat):Nat:=l.countP (jE n)
def ey(made:Nat)(l:List Tk)(n:Nat):Bool:=decide (0<fY l n)||decide (made<=n+4)
def vW(all:List Sd)(l:List Tk)(n:Nat):Vr:=⟨n,all.getD n zX,fY l n⟩
def eB(all:List Sd)(l:List Tk):List Vr:=((List.range all.length).filter (ey all.length l)).map (vW all l)
theorem xL{all l v}:v∈eB all l↔∃n,n<all.length/\ey all.length l n=true/\v=vW all l n:=by
 grind[eB]
theorem GU{all l D}(h:∀n,fY l n=fY D n):eB all l=eB all D:=by
 have e:=funext h;unfold eB ey vW;rw[e]
theorem xM{l u t}(h:l[u]? =some t)t' n:fY (l.set u t') n+(if jE n t then 1 else 0)=fY l n+(if jE n t' then 1 else 0):=by
 grind[fY]
theorem Rk l n:fY l n<=l.length:=sU
theorem Au{all l}s(h:fY l all.length=0):nK (all.length+1) (eB all l++[⟨all.length,s,0⟩])=eB (all++[s]) l:=by
 unfold eB nK;rw[ix,List.length_singleton,lT,gZ,gZ,nZ];congr 1
 ·rw[List.filter_map,List.filter_filter];have e1:∀n∈List.range all.length,(ey (all.length+1) l n)=((xe (all.length+1)∘vW all l) n&&ey all.length l n):=by
   grind[ey,xe,vW,fY]
  rw[qI e1];apply qu;grind[vW]
 have e2:ey (all.length+1) l all.length=true:=by unfold ey;simp
 grind[xe,vW]
theorem zY{all l n}(G:n<all.length)(hk:ey all.length l n=true):
 ∃k,(eB all l)[k]? =some (vW all l n)/\∀(j:Nat) v,(eB all l)[j]? =some v->v.num=n->j=k:=by
 have hm:n∈(List.range all.length).filter (ey all.length l):=fR.2 ⟨by simpa using G,hk⟩;have⟨k,hk2⟩:=List.mem_iff_getElem?.1 hm;refine⟨k,by unfold eB;rw[bD,hk2];rfl,?_⟩;intro j v D I;have F:((List.range all.length).filter (ey all.length l)).Nodup:=qH _ List.nodup_range;unfold eB at D;rw[bD]at D;cases q:((List.range all.length).filter (ey all.length l))[j]? with
 |none=>simp_all
 |some m=>?_
 rw[q]at D;simp at D;subst D;have E:m=n:=I;subst E;have⟨a1,b1⟩:=aM.1 q;have⟨a2,b2⟩:=aM.1 hk2;rcases Nat.lt_trichotomy j k with e|e|e
 ·exact absurd (b1.trans b2.symm) (List.pairwise_iff_getElem.1 F j k a1 a2 e)
 ·omega
 exact absurd (b2.trans b1.symm) (List.pairwise_iff_getElem.1 F k j a2 a1 e)
theorem JQ{all l}(h:0<all.length):fy (eB all l)=all.getD (all.length-1) zX:=by
 unfold fy eB;obtain⟨m,hm⟩:∃m,all.length=m+1:=⟨all.length-1,oQ⟩
 rw[hm,lT,gZ];have e2:ey (m+1) l m=true:=by unfold ey;simp
 rw[List.filter_cons_of_pos e2];simp[vW]
theorem Nd{all l}(h:0<all.length):0<(eB all l).length:=by
 have:vW all l (all.length-1)∈eB all l:=xL.2 ⟨_,oQ,by unfold ey;simp;omega,rfl⟩;grind
theorem Nf{all l u t t'}(hu:l[u]? =some t){n}(G:n<all.length)(hk:ey all.length l n=true)(J:∀m,jE m t=false)(O:∀m,jE m t'=decide (m=n)):
 tY (eB all l) (n:Int)=(eB all (l.set u t'),true):=by
 have⟨k,hk1,hk2⟩:=zY (l:=l) G hk;have E:=JF (n:=(n:Int)) hk1 rfl (λj v hj hv e=>by
  have:=hk2 j v hv (by exact_mod_cast e);omega)
 rw[E];congr 1;have Q:∀m,fY (l.set u t') m=fY l m+(if m=n then 1 else 0):=by
  intro m;have:=xM hu t' m;simp_all
 have D:∀m,ey all.length (l.set u t') m=ey all.length l m:=by
  grind[ey]
 apply f_;intro j;rw[List.getElem?_set];have F:=(aM.1 hk1).1;have I:(List.range all.length).filter _=_:=qI (λm _=>D m);grind[eB,ey,vW]
theorem Ng{all l u t t'}(hu:l[u]? =some t){n}(G:n<all.length)(J:∀m,jE m t=decide (m=n))(O:∀m,jE m t'=false):
 Q9 all.length (eB all l) (n:Int)=eB all (l.set u t')/\Fq (eB all l) (n:Int)=all.getD n zX:=by
 have I:∀m,fY l m=fY (l.set u t') m+(if m=n then 1 else 0):=by
  intro m;have:=xM hu t' m;simp_all
 have hk:ey all.length l n=true:=by unfold ey;rw[I,aq rfl];simp
 have⟨k,hk1,hk2⟩:=zY (l:=l) G hk;have F:=Oy hk1 (λj v hj hv=>hk2 j v hj hv);have D:atK _ (n:Int)=_:=F;refine⟨?_,by unfold Fq;rw[D];rfl⟩;unfold Q9;rw[D];simp only;unfold DP nK;have E:(eB all l).set k {vW all l n with pins:=(vW all l n).pins-1}=((List.range all.length).filter (ey all.length l)).map (vW all (l.set u t')):=by
  apply f_;grind[eB,ey,vW]
 rw[E,List.filter_map,List.filter_filter];unfold eB;congr 1;apply qI;grind[hm,xe,vW,ey,fY]
def yR(l:List Tk):Nat:=l.countP (λt=>decide (t.kind=3)&&decide (1<=t.steps))
theorem UX t:∀(K:List Nat),K.Nodup->(K.map (λk=>if jE k t then 1 else 0)).sum<=(if(decide (t.kind=3)&&decide (1<=t.steps))=true then 1 else 0):=by
 intro K;induction K with
 |nil=>simp_all
 |cons k K E=>?_
 intro h;have⟨h1,h2⟩:=List.nodup_cons.1 h;have F:=E h2;simp only[nY,List.sum_cons];by_cases q:jE k t=true
 ·have D:=q;unfold jE at D;simp only[fQ,lV]at D;have G:(K.map (λk=>if jE k t then 1 else 0)).sum=0:=by
   apply List.sum_eq_zero_iff_forall_eq_nat.2;grind[jE]
  simp_all
 simp_all
theorem UY:∀ l (K:List Nat),K.Nodup->(K.map (fY l)).sum<=yR l:=by
 intro l;induction l with
 |nil=>
  intro K _;have:(K.map (fY [])).sum=0:=by
   apply List.sum_eq_zero_iff_forall_eq_nat.2;intro x E;obtain⟨j,O,rfl⟩:=gY.1 E;rfl
  omega
 |cons t l F=>?_
 intro K D;have I:=F K D;have J:=UX t K D;have e:∀K:List Nat,(K.map (fY (t::l))).sum=(K.map (fY l)).sum+(K.map (λk=>if jE k t then 1 else 0)).sum:=by
  intro K;induction K with
  |nil=>rfl
  |cons k K G=>?_
  grind[fY,jE]
 grind[yR]
theorem Xe f:∀(K:List Nat),(∀k∈K,0<f k)->K.length<=(K.map f).sum:=by
 intro K;induction K with
 |nil=>simp_all
 |cons k K D=>?_
 grind
def uU(n:Nat)(l:List Tk):List Nat:=(List.range n).filter (ey n l)
theorem CX all l:(eB all l).map Vr.num=uU all.length l:=by
 unfold eB uU;rw[List.map_map];conv=>rhs;rw[<-List.map_id ((List.range all.length).filter (ey all.length l))]
 rfl
theorem JR n l:uU n l=(List.range (n-4)).filter (ey n l)++List.range' (n-4) (n-(n-4)):=by
 unfold uU;have e:List.range n=List.range (n-4)++List.range' (n-4) (n-(n-4)):=by
  rw[jm,jm,show n=(n-4)+(n-(n-4))by omega];have:=List.range'_append_1 (s:=0) (m:=n-4) (n:=n-(n-4));simp_all
 rw[e,gZ];congr 1;apply List.filter_eq_self.2;grind[ey]
theorem Rm n l:((List.range (n-4)).filter (ey n l)).length<=yR l:=by
 refine bz (Xe (fY l) _ ?_) (UY l _ (qH _ List.nodup_range));grind[ey]
theorem Nh l:yR l<=l.length:=sU
theorem Rn n l:n-(n-4)<=(uU n l).length/\(uU n l).length<=(n-(n-4))+yR l:=by
 grind[Rm,JR]
theorem CY all l:(eB all l).length<=4+l.length:=by
 grind[Rn,CX,Nh]
def jS(ol:Ol)(s:Sd)(ev:ByteArray):Nat->Option (Sd×ByteArray)
 |0=>some (s,⟨#[]⟩)
 |k+1=>match jS ol s ev k with
  |some r=>if(bY ol r.1 (af ev k)).2.2==0 then some ((bY ol r.1 (af ev k)).1,r.2++(bY ol r.1 (af ev k)).2.1)else none
  |none=>none
def gB(all:List Sd):Sd:=all.getD (all.length-1) zX
structure ZT ol(all:List Sd)turn bj t:Prop where
 idle:t.kind=0->t=iC
 rq:t.kind≠0->pG ⟨t.kind,t.events,t.at_⟩=true
 dr:t.drawn=true->(t.kind=1\/t.kind=2)/\turn<=t.cD/\t.cD<bj
 st:t.steps<=2
 st0:t.kind≠3->t.steps=0
 Xf:t.kind=3->1<=t.steps->0<=t.pinned/\t.pinned<(all.length:Int)/\(0<=t.at_->t.pinned=t.at_)
 GV:t.ay=0->t.out=⟨#[]⟩
 wk:0<t.ay->t.kind=1/\t.drawn=true/\t.cD=turn/\t.ay<t.events.size/\(t.at_<0\/t.at_=(all.length:Int)-1)/\jS ol (gB all) t.events t.ay=some (t.now,t.out)
structure SI ol(x:Sv)(all:List Sd)(log:ByteArray):Prop where
 made:x.made=all.length
 pos:0<all.length
 kept:x.kept=eB all x.ai
 JS:∀s∈all,Good ol s
 joined:x.joined=log.size
 tail:x.tail=log.extract (log.size-24) log.size
 len:x.ai.length<=6
 tk:∀(u:Nat) t,x.ai[u]? =some t->ZT ol all x.turn x.bj t
 GW:∀(i j:Nat) ti tj,x.ai[i]? =some ti->x.ai[j]? =some tj->ti.drawn=true->tj.drawn=true->ti.cD=tj.cD->i=j
 cov:∀k,x.turn<=k->k<x.bj->∃(i:Nat) (t:Tk),x.ai[i]? =some t/\t.drawn=true/\t.cD=k
 le:x.turn<=x.bj
theorem OB ol all a b:ZT ol all a b iC:=
 ⟨λ_=>rfl,λh=>absurd rfl h,λh=>by simp[iC]at h,by simp[iC],λ_=>rfl,λh=>by simp[iC]at h,λ_=>rfl,λh=>by simp[iC]at h⟩
theorem vX m:jE m iC=false:=by simp[jE,iC]
theorem wO{t}(h:t.kind≠3)m:jE m t=false:=by simp[jE,h]
theorem xN{t}(h:t.steps=0)m:jE m t=false:=by simp[jE,h]
theorem jK{l:List Tk}{u}{i}{t'}{a}(h:(l.set u t')[i]? =some a):(i=u/\a=t')\/(i≠u/\l[i]? =some a):=by
 grind
section
variable {ol:Ol} {x:Sv} {all:List Sd} {log:ByteArray}
theorem SI.kp(h:SI ol x all log){u}{t}{t'}(hu:x.ai[u]? =some t)(D:∀m,jE m t'=jE m t):eB all (x.ai.set u t')=x.kept:=by
 rw[h.kept];apply GU;intro n;have:=xM hu t' n;simp_all
theorem SI.set(h:SI ol x all log){u}{t}{t'}(hu:x.ai[u]? =some t)(Z:∀m,jE m t'=jE m t)(Y:ZT ol all x.turn x.bj t')(F:t'.drawn=t.drawn)(Q:t.drawn=true->t'.cD=t.cD):SI ol (aD x u t') all log:=by
 have O:=(aM.1 hu).1;refine⟨h.made,h.pos,(h.kp hu Z).symm,h.JS,h.joined,h.tail,by simpa[aD]using h.len,?_,?_,?_,h.le⟩
 ·intro i a J;rcases jK J with⟨_,rfl⟩|⟨_,J⟩
  ·exact Y
  exact h.tk i a J
 ·intro i j ti tj hi R D I e;rcases jK hi with⟨rfl,rfl⟩|⟨ni,G⟩
  ·rcases jK R with⟨rfl,rfl⟩|⟨nj,E⟩
   ·rfl
   exact h.GW _ _ _ _ hu E (by rw[<-F];exact D) I (by rw[<-Q (by rw[<-F];exact D)];exact e)
  rcases jK R with⟨rfl,rfl⟩|⟨nj,E⟩
  ·exact h.GW _ _ _ _ G hu D (by rw[<-F];exact I) (by rw[<-Q (by rw[<-F];exact I)];exact e)
  exact h.GW _ _ _ _ G E D I e
 intro k U X;have⟨i,a,hi,D,e⟩:=h.cov k U X;by_cases q:i=u
 ·subst q;rw[hu]at hi;simp at hi;subst hi;exact⟨i,t',by simp[aD,O],by rw[F];exact D,by rw[Q D];exact e⟩
 exact⟨i,a,by simp only[aD];rw[jP (λx=>q x.symm)];exact hi,D,e⟩
theorem SI.end_(h:SI ol x all log){u}{t}(hu:x.ai[u]? =some t)(E:∀m,jE m t=false)(D:t.drawn=false):SI ol (aD x u iC) all log:=
 h.set hu (λm=>by rw[vX,E]) (OB _ _ _ _) (by rw[D];rfl) (λe=>by rw[D]at e;cases e)
theorem ZT.cD{a b D t}(h:ZT ol all a b t)(hb:b<=D):ZT ol all a D t:=
 ⟨h.idle,h.rq,λd=>⟨(h.dr d).1,(h.dr d).2.1,Nat.lt_of_lt_of_le (h.dr d).2.2 hb⟩,h.st,h.st0,h.Xf,h.GV,h.wk⟩
theorem SI.draw(h:SI ol x all log){u}{t}(hu:x.ai[u]? =some t)(hk:t.kind=1\/t.kind=2)(hd:t.drawn=false):SI ol (pU x u t) all log:=by
 have Q:=(aM.1 hu).1;have E:=h.tk u t hu;have k3:t.kind≠3:=by rcases hk with e|e<;>omega
 have hf:t.ay=0:=by
  rcases j8 t.ay with e|e
  ·omega
  have:=(E.wk e).2.1;simp_all
 refine⟨h.made,h.pos,?_,h.JS,h.joined,h.tail,by simpa[pU,aD]using h.len,?_,?_,?_,?_⟩
 ·exact(h.kp hu (t':={t with drawn:=true,cD:=x.bj}) (λm=>rfl)).symm
 ·intro i a J;rcases jK J with⟨_,rfl⟩|⟨_,J⟩
  ·refine⟨λe=>?_,E.rq,λ_=>⟨hk,h.le,?_⟩,E.st,E.st0,E.Xf,E.GV,λe=>?_⟩
   ·simp_all
   ·show x.bj<x.bj+1;omega
   simp_all
  exact(h.tk i a J).cD (cT _)
 ·intro i j ti tj hi U G R e;rcases jK hi with⟨rfl,rfl⟩|⟨ni,F⟩
  ·rcases jK U with⟨rfl,rfl⟩|⟨Z,D⟩
   ·rfl
   have:=((h.tk _ _ D).dr R).2.2;simp_all
  rcases jK U with⟨rfl,rfl⟩|⟨Z,D⟩
  ·have:=((h.tk _ _ F).dr G).2.2;simp_all
  exact h.GW _ _ _ _ F D G R e
 ·intro k X Y;by_cases q:k=x.bj
  ·exact⟨u,{t with drawn:=true,cD:=x.bj},by simp[pU,aD,Q],rfl,q.symm⟩
  have I:k<x.bj:=by have:k<x.bj+1:=Y;omega
  have⟨i,a,hi,G,e⟩:=h.cov k X I;have O:i≠u:=by
   grind
  exact⟨i,a,by simp only[pU,aD];rw[jP (λx=>O x.symm)];exact hi,G,e⟩
 show x.turn<=x.bj+1;have:=h.le;omega
def mZ(x:Sv)(u:Nat):Sv:={aD x u iC with turn:=x.turn+1}
theorem SI.done(h:SI ol x all log){u}{t}(hu:x.ai[u]? =some t)(F:t.drawn=true)(Y:t.cD=x.turn):SI ol (mZ x u) all log/\∀(i:Nat) a,(mZ x u).ai[i]? =some a->a.ay=0:=by
 have X:=h.tk u t hu;have k3:t.kind≠3:=by rcases(X.dr F).1 with e|e<;>omega
 have ab:∀(i:Nat) (a:Tk),i≠u->x.ai[i]? =some a->a.ay=0:=by
  intro i a hi D;rcases j8 a.ay with e|e
  ·omega
  have w:=(h.tk i a D).wk e;exact absurd (h.GW i u a t D hu w.2.1 F (by rw[w.2.2.1,Y])) hi
 refine⟨⟨h.made,h.pos,(h.kp hu (t':=iC) (λm=>by rw[vX,wO k3])).symm,h.JS,h.joined,h.tail,by simpa[mZ,aD]using h.len,?_,?_,?_,?_⟩,?_⟩
 ·intro i a D;rcases jK D with⟨_,rfl⟩|⟨Q,D⟩
  ·grind[OB]
  have E:=h.tk i a D;refine⟨E.idle,E.rq,λd=>⟨(E.dr d).1,?_,(E.dr d).2.2⟩,E.st,E.st0,E.Xf,E.GV,λe=>?_⟩
  ·have R:=(E.dr d).2.1;have U:a.cD≠x.turn:=λe=>Q (h.GW i u a t D hu d F (by rw[e,Y]));show x.turn+1<=a.cD;omega
  grind
 ·intro i j ti tj hi hj G Z e;rcases jK hi with⟨rfl,rfl⟩|⟨Q,I⟩
  ·grind[iC]
  rcases jK hj with⟨rfl,rfl⟩|⟨nj,O⟩
  ·grind[iC]
  exact h.GW _ _ _ _ I O G Z e
 ·intro k R U;have aa:x.turn+1<=k:=R;have⟨i,a,hi,G,e⟩:=h.cov k oQ U;have J:i≠u:=by
   grind
  exact⟨i,a,by simp only[mZ,aD];rw[jP (λx=>J x.symm)];exact hi,G,e⟩
 ·have:=(X.dr F).2.2;show x.turn+1<=x.bj;omega
 intro i a D;rcases jK D with⟨_,rfl⟩|⟨Q,D⟩
 ·rfl
 grind
theorem Xg{α:Type}A T(O:List α)(h:24<=T.length):(T++O).drop (T.length+O.length-24)=(A++T++O).drop (A.length+T.length+O.length-24):=by
 have D:A.drop (A.length+T.length+O.length-24)=[]:=dA oQ;rw[jL,List.drop_append (l₁:=A),D,kT];grind
theorem ZU{α:Type}L(O:List α):(L.drop (L.length-24)++O).drop ((L.drop (L.length-24)).length+O.length-24)=(L++O).drop (L.length+O.length-24):=by
 by_cases q:L.length<=24
 ·simp_all
 have E:(L.drop (L.length-24)).length=L.length-(L.length-24):=List.length_drop;have D:(L.take (L.length-24)).length=L.length-24:=by rw[List.length_take];omega
 have:=Xg (L.take (L.length-24)) (L.drop (L.length-24)) O oQ;rw[this,od,E,D];congr 1;omega
theorem GX(b:ByteArray)k:(b.extract k b.size).data.toList=b.data.toList.drop k:=by
 rw[ByteArray.data_extract,Array.toList_extract,List.extract_eq_take_drop];apply sX;simp_all
theorem JT log o:CP (log.extract (log.size-24) log.size) o=(log++o).extract ((log++o).size-24) (log++o).size:=by
 unfold CP;apply lZ;apply Array.toList_inj.1;rw[GX,GX,ByteArray.data_append,Array.toList_append,ByteArray.data_append,Array.toList_append,GX];have e1:log.size=_:=(Array.length_toList).symm;have e2:o.size=_:=(Array.length_toList).symm;have e3:(log.extract (log.size-24) log.size++o).size=(log.data.toList.drop (log.data.toList.length-24)).length+o.data.toList.length:=by
  rw[jN,sZ,List.length_drop,<-e1,<-e2];omega
 rw[e3,jN,e1,e2];exact ZU _ _
theorem UZ(h:SI ol x all log):fY x.ai all.length=0:=by
 unfold fY;apply List.countP_eq_zero.2;intro t E;have⟨i,hi⟩:=List.mem_iff_getElem?.1 E;have D:=h.tk i t hi;intro e;unfold jE at e;simp only[fQ,lV]at e;have:=(D.Xf e.1.1 e.1.2).2.1;omega
theorem SI.pub(h:SI ol x all log)(F:∀(i:Nat) a,x.ai[i]? =some a->a.ay=0){s}(hs:Good ol s)o:SI ol (lQ x s o) (all++[s]) (log++o):=by
 have G:(all++[s]).length=all.length+1:=dy;refine⟨by rw[G];show x.made+1=_;rw[h.made],oQ,?_,?_,?_,?_,h.len,?_,h.GW,h.cov,h.le⟩
 ·show nK (x.made+1) (x.kept++[⟨x.made,s,0⟩])=eB (all++[s]) x.ai;rw[h.made,h.kept];grind[Au,UZ]
 ·intro a E;rcases cS.1 E with E|E
  ·exact h.JS a E
  simp_all
 ·show x.joined+o.size=_;rw[h.joined,jN]
 ·show CP x.tail o=_;rw[h.tail];grind[JT]
 intro i a E;have D:=h.tk i a E;refine⟨D.idle,D.rq,D.dr,D.st,D.st0,λk1 k2=>?_,D.GV,λe=>?_⟩
 ·have:=D.Xf k1 k2;omega
 have:=F i a E;omega
theorem SI.fy(h:SI ol x all log):Ch.fy x.kept=gB all:=by rw[h.kept];exact JQ h.pos
theorem SI.JU(h:SI ol x all log):Good ol (gB all):=by
 apply h.JS;unfold gB;rw[iO,au (by have:=h.pos;omega)];simp_all
end
theorem ZV:∀ n {l},l.length<=n->TL 49 l->∀y∈l,1<=y:=by
 intro n;induction n with
 |zero=>
  simp_all
 |succ n F=>?_
 intro l E h y D;match l,h with
 | [],_=>cases D
 | [a],h=>grind[TL]
 |a::b::l,h=>
  have⟨h1,h2⟩:=h;grind[ez]
theorem Good.ZW{ol s}(g:Good ol s):∀k,k<s.tm.size->1<=af s.tm k:=by
 intro k hk;have hm:af s.tm k∈gW s.tm:=by
  unfold af gW;rw[dif_pos hk];exact gY.2 ⟨s.tm[k],by rw[ByteArray.getElem_eq_getElem_data];exact Array.getElem_mem_toList _,rfl⟩
 exact ZV _ (aC _) g.tl.1 _ hm
theorem Good.wait{t ol}(D:Fj t ol){s}(g:Good ol s):(eP ol 17 (tick s) []).isSome=true:=by
 have⟨e1,e2⟩:=g.lg D;have:=MR e1;rw[e2,D.rd]at this;omega
theorem vY{t ol}(D:Fj t ol){s}(g:Good ol s)ev:∀ k {r},jS ol s ev k=some r->Good ol r.1:=by
 intro k;induction k with
 |zero=>grind[jS]
 |succ k E=>?_
 grind[jS,r0,Fk]
theorem Av{ol}(D:ol.Ok)s ev:∀ k {r},jS ol s ev k=some r->r.2.size<=345600*k:=by
 intro k;induction k with
 |zero=>intro r h;simp[jS]at h;subst h;exact aA _
 |succ k E=>?_
 grind[jS,r0,mq,af]
theorem zZ{r}(h:pG r=true):r.kind=1\/r.kind=2\/r.kind=3\/r.kind=4:=by
 grind[pG]
theorem wP{r}(h:pG r=true)(hk:r.kind=1):1<=r.events.size/\r.events.size<=4/\(∀j,j<r.events.size->ez (af r.events j)=true)/\ -1<=r.at_:=by
 grind[pG,j3]
theorem SI.bd{ol x all log}(h:SI ol x all log)(hm:all.length<=1000000000000)(I:log.size<=5500000000000000000)(J:x.bj<=1000000000000):x.Bd:=by
 have E:=h.len;have F:x.tail.size=log.size-(log.size-24):=by rw[h.tail,sZ];omega
 refine⟨by rw[h.made];omega,?_,?_,by rw[h.joined];omega,oQ,by rw[h.joined];omega,oQ,by have:=h.le;omega,E⟩
 ·rw[h.kept];grind[CY]
 intro v D;rw[h.kept]at D;obtain⟨n,G,_,rfl⟩:=xL.1 D;have:=Rk x.ai n;exact⟨by show n<=_;omega,by show fY x.ai n<=_;omega⟩
theorem SI.Yf{t ol x all log}(h:SI ol x all log)(O:Fj t ol)(J:ol.Ok){u:Nat}{k}(hu:x.ai[u]? =some k):StP ol x k:=by
 have E:=h.tk u k hu;refine⟨λh3=>⟨by have:=E.st;omega,λh2=>?_⟩,λn3 n4 hd=>?_⟩
 ·have⟨p1,p2,_⟩:=E.Xf h3 oQ;obtain⟨n,Q⟩:∃n:Nat,k.pinned=(n:Int):=⟨k.pinned.toNat,oQ⟩
  have I:n<all.length:=oQ;have G:0<fY x.ai n:=by
   grind[fY,jE]
  have hk:ey all.length x.ai n=true:=by unfold ey;rw[gf G];rfl
  have⟨j,hj1,hj2⟩:=zY (l:=x.ai) I hk;refine⟨j,vW all x.ai n,by rw[h.kept];exact hj1,Q,G,?_⟩;intro i v hi R;rw[h.kept]at hi;exact hj2 i v hi R
 have F:=h.JU;have D:=h.fy;refine⟨by rw[h.kept];exact Nd h.pos,by rw[D];exact F.ok,by rw[D];exact F.ZW,by rw[D];exact F.wait O,?_,?_,?_⟩
 ·unfold sq;split
  ·show(Ch.fy x.kept).Ok;rw[D];exact F.ok
  rename_i q;exact(vY O F _ _ (E.wk oQ).2.2.2.2.2).ok
 ·rcases j8 k.ay with e|e
  ·omega
  have w:=E.wk e;have:=wP (E.rq (by rw[w.1];decide)) w.1;grind
 rcases j8 k.ay with e|e
 ·rw[E.GV e];exact aA _
 have w:=E.wk e;have:=wP (E.rq (by rw[w.1];decide)) w.1;have U:k.events.size<=4:=this.2.1;have X:=w.2.2.2.1;have:=Av J _ _ _ w.2.2.2.2.2;grind
theorem CZ{x}{u:Nat}{k}(hu:x.ai[u]? =some k):ub x (u:Int)=some k:=by
 grind[ub]
theorem Ni{ol x}{u:Nat}{k}(hu:x.ai[u]? =some k)(D:k.kind=0):cW ol x (u:Int)=(x,eY,false,13):=by
 grind[cW,CZ]
theorem rL{ol x}{u:Nat}{k}(hu:x.ai[u]? =some k)(D:k.kind≠0):cW ol x (u:Int)=(if(m_ ol x u k).2.2 then aD (m_ ol x u k).1 u iC else(m_ ol x u k).1,(m_ ol x u k).2.1,(m_ ol x u k).2.2,0):=by
 grind[cW,CZ]
section
variable {t:ByteArray} {ol:Ol} {x:Sv} {all:List Sd} {log:ByteArray} {u:Nat} {k:Tk}
theorem C0(hk:k.kind=1\/k.kind=2):m_ ol x u k=pV ol x u k:=by
 grind[m_]
theorem U0(hk:k.kind=4):m_ ol x u k=(x,pR x k.at_,true):=by
 grind[m_]
theorem C2(hk:k.kind=3):m_ ol x u k=pT ol x u k:=by
 unfold m_;rw[aq hk]
theorem Ro(D:k.drawn=false):pV ol x u k=(pU x u k,eY,false):=by
 unfold pV;rw[aq D]
theorem Rr(D:k.drawn=true)(E:k.cD≠x.turn):pV ol x u k=(x,eY,false):=by
 grind[pV]
theorem SI.afJ(h:SI ol x all log)(hu:x.ai[u]? =some k)(hk:k.kind=4):cW ol x (u:Int)=(aD x u iC,pR x k.at_,true,0)/\SI ol (aD x u iC) all log:=by
 refine⟨?_,h.end_ hu (wO (by rw[hk];decide)) ?_⟩
 ·rw[rL hu (by rw[hk];decide),U0 hk];rfl
 cases q:k.drawn with
 |false=>rfl
 |true=>have:=((h.tk u k hu).dr q).1;omega
theorem SI.Yg(h:SI ol x all log)(hu:x.ai[u]? =some k)(hk:k.kind=1\/k.kind=2)(D:k.drawn=false):cW ol x (u:Int)=(pU x u k,eY,false,0)/\SI ol (pU x u k) all log:=by
 refine⟨?_,h.draw hu hk D⟩;rw[rL hu (by rcases hk with e|e<;>rw[e]<;>decide),C0 hk,Ro D];rfl
theorem SI.waits(hu:x.ai[u]? =some k)(hk:k.kind=1\/k.kind=2)(D:k.drawn=true)(E:k.cD≠x.turn):cW ol x (u:Int)=(x,eY,false,0):=by
 rw[rL hu (by rcases hk with e|e<;>rw[e]<;>decide),C0 hk,Rr D E];rfl
theorem yS(hu:x.ai[u]? =some k)(hk:k.kind=1\/k.kind=2)(D:k.drawn=true)(E:k.cD=x.turn):cW ol x (u:Int)=(if(gQ ol x u k).2.2 then aD {(gQ ol x u k).1 with turn:=(gQ ol x u k).1.turn+1} u iC else(gQ ol x u k).1,(gQ ol x u k).2.1,(gQ ol x u k).2.2,0):=by
 rw[rL hu (by rcases hk with e|e<;>rw[e]<;>decide)];have e:m_ ol x u k=({(gQ ol x u k).1 with turn:=if(gQ ol x u k).2.2 then(gQ ol x u k).1.turn+1 else(gQ ol x u k).1.turn},(gQ ol x u k).2):=by
  grind[C0,pV]
 simp_all
theorem SI.acv(h:SI ol x all log)(D:Fj t ol)(hu:x.ai[u]? =some k)(hk:k.kind=2)(E:k.drawn=true)(G:k.cD=x.turn):
 cW ol x (u:Int)=(lQ (mZ x u) (DQ ol (gB all)).1 (DQ ol (gB all)).2,{eY with mY:=(all.length:Int),text:=(DQ ol (gB all)).2},true,0)/\SI ol (lQ (mZ x u) (DQ ol (gB all)).1 (DQ ol (gB all)).2) (all++[(DQ ol (gB all)).1]) (log++(DQ ol (gB all)).2):=by
 have⟨hD,hf⟩:=h.done hu E G;have F:=h.JU;have hw:=Q0 D 17 F.Aj (CU (F.wait D));refine⟨?_,hD.pub hf hw _⟩;rw[yS hu (inr hk) E G];have e:gQ ol x u k=(lQ x (DQ ol (gB all)).1 (DQ ol (gB all)).2,{eY with mY:=(all.length:Int),text:=(DQ ol (gB all)).2},true):=by
  unfold gQ;rw[aq hk];unfold xk;rw[h.fy,h.made]
 rw[e];rfl
theorem SI.xl(h:SI ol x all log)(hu:x.ai[u]? =some k)(hk:k.kind=1)(D:k.drawn=true)(E:k.cD=x.turn)(I:k.ay=0)(F:0<=k.at_)(G:k.at_≠(all.length:Int)-1):
 cW ol x (u:Int)=(mZ x u,{eY with err:=14,mY:=(all.length:Int)-1},true,0)/\SI ol (mZ x u) all log:=by
 refine⟨?_,(h.done hu D E).1⟩;rw[yS hu (inl hk) D E];have e:gQ ol x u k=(x,{eY with err:=14,mY:=(all.length:Int)-1},true):=by
  unfold gQ;rw[ax (by rw[hk];decide)];unfold uT;have:Ch.xl x k=true:=by
   unfold Ch.xl;rw[h.made];simp_all
  rw[aq this];unfold kh;rw[h.made]
 rw[e];rfl
theorem SI.acw(h:SI ol x all log)(Z:Fj t ol)(hu:x.ai[u]? =some k)(hk:k.kind=1)(G:k.drawn=true)(J:k.cD=x.turn)(hv:0<k.ay\/k.at_<0\/k.at_=(all.length:Int)-1):
 ∃s o,jS ol (gB all) k.events k.ay=some (s,o)/\k.ay<k.events.size/\
 ((jS ol (gB all) k.events (k.ay+1)=none/\(bY ol s (af k.events k.ay)).2.2≠0/\cW ol x (u:Int)=(mZ x u,{eY with err:=9,mY:=(all.length:Int)-1,idx:=(k.ay:Int)},true,0)/\SI ol (mZ x u) all log)\/
  (∃s' D,jS ol (gB all) k.events (k.ay+1)=some (s',D)/\k.ay+1<k.events.size/\cW ol x (u:Int)=(aD x u {k with ay:=k.ay+1,now:=s',out:=D},eY,false,0)/\SI ol (aD x u {k with ay:=k.ay+1,now:=s',out:=D}) all log)\/
  (∃s' D,jS ol (gB all) k.events (k.ay+1)=some (s',D)/\k.ay+1=k.events.size/\cW ol x (u:Int)=(lQ (mZ x u) s' D,{eY with mY:=(all.length:Int),idx:=(k.events.size:Int),text:=D},true,0)/\SI ol (lQ (mZ x u) s' D) (all++[s']) (log++D))):=by
 have E:=h.tk u k hu;have hq:=wP (E.rq (by rw[hk];decide)) hk;have iL:1<=k.events.size:=hq.1;have U:k.ay<k.events.size:=by
  rcases j8 k.ay with e|e
  ·omega
  exact(E.wk e).2.2.2.1
 have hg:=h.JU;
 obtain⟨s,o,I,hT⟩:∃s o,jS ol (gB all) k.events k.ay=some (s,o)/\sq x k={k with now:=s,out:=o}:=by
  rcases j8 k.ay with e|e
  ·refine⟨gB all,⟨#[]⟩,by rw[e];rfl,?_⟩;unfold sq;rw[aq e,h.fy,<-E.GV e]
  refine⟨k.now,k.out,(E.wk e).2.2.2.2.2,?_⟩;unfold sq;rw[ax oQ]
 have aa:Ch.xl x k=false:=by
  unfold Ch.xl;rw[h.made];grind
 have R:=vY Z hg _ _ I;have Y:gQ ol x u k=vV ol x u {k with now:=s,out:=o}:=by
  grind[gQ,uT]
 refine⟨s,o,I,U,?_⟩;have hF:gz ol {k with now:=s,out:=o}=if(bY ol s (af k.events k.ay)).2.2 !=0 then({k with now:=s,out:=o},(bY ol s (af k.events k.ay)).2.2)else({k with ay:=k.ay+1,now:=(bY ol s (af k.events k.ay)).1,out:=o++(bY ol s (af k.events k.ay)).2.1},0):=by
  grind[gz]
 have F:jS ol (gB all) k.events (k.ay+1)=if(bY ol s (af k.events k.ay)).2.2==0 then some ((bY ol s (af k.events k.ay)).1,o++(bY ol s (af k.events k.ay)).2.1)else none:=by
  grind[jS]
 by_cases q:(bY ol s (af k.events k.ay)).2.2=0
 ·rw[ax (by simp[q])]at hF;rw[aq (by simp[q])]at F;have Q:=Fk Z R q;generalize (bY ol s (af k.events k.ay)).1=s' at*;generalize o++(bY ol s (af k.events k.ay)).2.1=D at*;right;by_cases c:k.ay+1<k.events.size
  ·left;refine⟨s',D,F,c,?_,?_⟩
   ·grind[vV,aD,eY,yS]
   refine h.set hu (λm=>by rw[wO (by rw[hk];decide),wO (by show k.kind≠3;rw[hk];decide)]) ?_ rfl (λ_=>rfl);refine⟨λe=>absurd (show k.kind=0 from e) (by rw[hk];decide),E.rq,E.dr,E.st,E.st0,E.Xf,λe=>absurd (show k.ay+1=0 from e) oQ,λ_=>⟨hk,G,J,c,?_,F⟩⟩;rcases j8 k.ay with e|e
   ·simp_all
   exact(E.wk e).2.2.2.2.1
  right;have X:k.ay+1=k.events.size:=oQ;have⟨hD,hf⟩:=h.done hu G J;refine⟨s',D,F,X,?_,hD.pub hf Q _⟩;have O:vV ol x u {k with now:=s,out:=o}=(lQ (aD x u {k with ay:=k.ay+1,now:=s',out:=D}) s' D,{eY with mY:=(x.made:Int),idx:=((k.ay+1:Nat):Int),text:=D},true):=by
   grind[vV]
  rw[yS hu (inl hk) G J,Y,O];simp only[aQ];have e1:aD {lQ (aD x u {k with ay:=k.ay+1,now:=s',out:=D}) s' D with turn:=(lQ (aD x u {k with ay:=k.ay+1,now:=s',out:=D}) s' D).turn+1} u iC=lQ (mZ x u) s' D:=by
   simp[lQ,aD,mZ,List.set_set]
  rw[e1,h.made,<-X]
 rw[aq (cX q)]at hF;rw[ax (cX q)]at F;left;have h9:(bY ol s (af k.events k.ay)).2.2=9:=by
  grind[QZ,af]
 refine⟨F,q,?_,(h.done hu G J).1⟩;have O:vV ol x u {k with now:=s,out:=o}=(aD x u {k with now:=s,out:=o},{kh x 9 with idx:=(k.ay:Int)},true):=by
  grind[vV]
 rw[yS hu (inl hk) G J,Y,O];simp only[aQ];have e1:aD {aD x u {k with now:=s,out:=o}with turn:=(aD x u {k with now:=s,out:=o}).turn+1} u iC=mZ x u:=by
  simp[aD,mZ,List.set_set]
 rw[e1];unfold kh;rw[h.made]
end
theorem Rt{r}(h:pG r=true)(hk:r.kind=3): -1<=r.at_:=by
 grind[pG]
section
variable {t:ByteArray} {ol:Ol} {x:Sv} {all:List Sd} {log:ByteArray} {u:Nat} {k:Tk}
theorem SI.Nj(h:SI ol x all log)(hu:x.ai[u]? =some k)(hk:k.kind=3\/k.kind=4):k.drawn=false:=by
 cases q:k.drawn with
 |false=>rfl
 |true=>?_
 have:=((h.tk u k hu).dr q).1;omega
theorem SI.Nk(h:SI ol x all log)(hu:x.ai[u]? =some k)(hk:k.kind≠1):k.ay=0:=by
 rcases j8 k.ay with e|e
 ·omega
 exact absurd ((h.tk u k hu).wk e).1 hk
theorem SI.acx(h:SI ol x all log){k'}(hu:x.ai[u]? =some k)(X:ZT ol all x.turn x.bj k')(Y:k.drawn=false)(R:k'.drawn=false):SI ol {x with kept:=eB all (x.ai.set u k'),ai:=x.ai.set u k'} all log:=by
 refine⟨h.made,h.pos,rfl,h.JS,h.joined,h.tail,by simpa using h.len,?_,?_,?_,h.le⟩
 ·intro i a E;rcases jK E with⟨_,rfl⟩|⟨_,E⟩
  ·omega
  exact h.tk i a E
 ·intro i j ti tj hi U D J e;rcases jK hi with⟨rfl,rfl⟩|⟨Z,F⟩
  ·simp_all
  rcases jK U with⟨rfl,rfl⟩|⟨nj,I⟩
  ·simp_all
  exact h.GW _ _ _ _ F I D J e
 intro m O Q;have⟨i,a,hi,D,e⟩:=h.cov m O Q;have G:i≠u:=by
  grind
 exact⟨i,a,by simp only;rw[jP (λx=>G x.symm)];exact hi,D,e⟩
theorem SI.acy(h:SI ol x all log)(hu:x.ai[u]? =some k)(hk:k.kind=3)(hs:k.steps=0):
 ((all.length:Int)-1<k.at_/\cW ol x (u:Int)=(aD x u iC,{eY with err:=14,mY:=(all.length:Int)-1},true,0)/\SI ol (aD x u iC) all log)\/
 (0<=k.at_/\k.at_<=(all.length:Int)-5/\cW ol x (u:Int)=(aD x u iC,{eY with err:=15,mY:=(all.length:Int)-1},true,0)/\SI ol (aD x u iC) all log/\ey all.length x.ai k.at_.toNat=false)\/
 (∃n,n<all.length/\(0<=k.at_->(n:Int)=k.at_)/\(k.at_<0->(n:Int)=(all.length:Int)-1)/\
  cW ol x (u:Int)=({x with kept:=eB all (x.ai.set u {k with steps:=1,pinned:=(n:Int)}),ai:=x.ai.set u {k with steps:=1,pinned:=(n:Int)}},eY,false,0)/\
  SI ol {x with kept:=eB all (x.ai.set u {k with steps:=1,pinned:=(n:Int)}),ai:=x.ai.set u {k with steps:=1,pinned:=(n:Int)}} all log/\ey all.length x.ai n=true):=by
 have J:=h.tk u k hu;have O:=Rt (J.rq (by rw[hk];decide)) hk;have U: -1<=k.at_:=O;have X:=h.pos;have nP:=h.Nj hu (inl hk);have G:=h.end_ hu (xN hs) nP;have R:pT ol x u k=pS (aD x u (df k)) u (df k):=by unfold pT;rw[aq hs]
 have Z:pS (aD x u (df k)) u (df k)=if((x.made:Int)-1<if k.at_<0 then(x.made:Int)-1 else k.at_)then(aD x u (df k),{eY with err:=14,mY:=(x.made:Int)-1},true)
  else if(tY x.kept (if k.at_<0 then(x.made:Int)-1 else k.at_)).2 then({aD x u (df k)with kept:=(tY x.kept (if k.at_<0 then(x.made:Int)-1 else k.at_)).1,ai:=(x.ai.set u (df k)).set u {df k with pinned:=if k.at_<0 then(x.made:Int)-1 else k.at_}},eY,false)
  else(aD x u (df k),{eY with err:=15,mY:=(x.made:Int)-1},true):=rfl
 have eK:cW ol x (u:Int)=(if(pS (aD x u (df k)) u (df k)).2.2 then aD (pS (aD x u (df k)) u (df k)).1 u iC else(pS (aD x u (df k)) u (df k)).1,(pS (aD x u (df k)) u (df k)).2.1,(pS (aD x u (df k)) u (df k)).2.2,0):=by
  rw[rL hu (by rw[hk];decide),C2 hk,R]
 rw[Z,h.made]at eK;have e2:aD (aD x u (df k)) u iC=_:=nO x u _ _;by_cases Y:(all.length:Int)-1<if k.at_<0 then(all.length:Int)-1 else k.at_
 ·grind
 right;rw[ax Y]at eK;obtain⟨n,E⟩:∃n:Nat,(if k.at_<0 then(all.length:Int)-1 else k.at_)=(n:Int):=⟨(if k.at_<0 then(all.length:Int)-1 else k.at_).toNat,by split<;>omega⟩
 rw[E]at eK Y;have I:n<all.length:=oQ;cases D:ey all.length x.ai n with
 |true=>
  right;have ZM:=Nf (t':={k with steps:=1,pinned:=(n:Int)}) hu I D (xN hs) (λm=>by
   unfold jE;simp only[hk,decide_true,fC,aC];rw[decide_eq_decide];constructor<;>intro e<;>omega)
  rw[h.kept,ZM]at eK;refine⟨n,I,λe=>by rw[ax oQ]at E;exact E.symm,λe=>by rw[aq e]at E;exact E.symm,?_,h.acx hu ?_ nP nP,D⟩
  ·rw[eK];simp only[aQ,bu,bf];have e3:(x.ai.set u (df k)).set u {df k with pinned:=(n:Int)}=x.ai.set u {k with steps:=1,pinned:=(n:Int)}:=by
    rw[List.set_set];grind[df]
   rw[e3];rfl
  refine⟨λe=>absurd (show k.kind=0 from e) (by rw[hk];decide),J.rq,λd=>absurd (show k.drawn=true from d) (by rw[nP];decide),by show 1<=2;omega,λe=>absurd (show k.kind=3 from hk) e,λ_ _=>⟨by show 0<=(n:Int);omega,by show(n:Int)<_;omega,λe=>?_⟩,J.GV,λe=>absurd (show 0<k.ay from e) (by rw[h.Nk hu (by rw[hk];decide)];decide)⟩;grind
 |false=>?_
 left;have aa:¬all.length<=n+4:=by
  intro e;unfold ey at D;rw[gf e,Bool.or_true]at D;cases D
 have Q:0<=k.at_:=by
  rcases Int.lt_or_le k.at_ 0 with e|e
  ·rw[aq e]at E;omega
  exact e
 rw[ax oQ]at E;have F:tY x.kept (n:Int)=(x.kept,false):=Fo (λv hv e=>by
  rw[h.kept]at hv;obtain⟨m,_,h2,rfl⟩:=xL.1 hv;have:m=n:=by have e':((m:Nat):Int)=(n:Int):=e;omega
  subst this;rw[h2]at D;cases D)
 rw[F]at eK;refine⟨Q,oQ,?_,G,by rw[E];exact D⟩;simp only[bu,bf,aQ,e2]at eK;exact eK
theorem SI.acz(h:SI ol x all log)(hu:x.ai[u]? =some k)(hk:k.kind=3)(hs:k.steps=1):cW ol x (u:Int)=(aD x u {k with steps:=2},eY,false,0)/\SI ol (aD x u {k with steps:=2}) all log:=by
 have D:=h.tk u k hu;have nP:=h.Nj hu (inl hk);have he:df k={k with steps:=2}:=by unfold df;rw[hs]
 refine⟨?_,h.set hu (λm=>by unfold jE;simp only[hs];rfl) ?_ rfl (λ_=>rfl)⟩
 ·have E:pT ol x u k=(aD x u {k with steps:=2},eY,false):=by
   grind[pT]
  rw[rL hu (by rw[hk];decide),C2 hk,E];rfl
 exact⟨λe=>absurd (show k.kind=0 from e) (by rw[hk];decide),D.rq,D.dr,by show 2<=2;omega,λe=>absurd (show k.kind=3 from hk) e,λ_ _=>D.Xf hk oQ,D.GV,λe=>absurd (show 0<k.ay from e) (by rw[h.Nk hu (by rw[hk];decide)];decide)⟩
theorem SI.acA(h:SI ol x all log)(hu:x.ai[u]? =some k)(hk:k.kind=3)(hs:k.steps=2):
 ∃n:Nat,k.pinned=(n:Int)/\n<all.length/\cW ol x (u:Int)=({x with kept:=eB all (x.ai.set u iC),ai:=x.ai.set u iC},{eY with mY:=(n:Int),st:=bX ol.ah (all.getD n zX)},true,0)/\
  SI ol {x with kept:=eB all (x.ai.set u iC),ai:=x.ai.set u iC} all log:=by
 have F:=h.tk u k hu;have nP:=h.Nj hu (inl hk);have⟨p1,p2,_⟩:=F.Xf hk oQ;obtain⟨n,E⟩:∃n:Nat,k.pinned=(n:Int):=⟨k.pinned.toNat,oQ⟩
 have D:n<all.length:=oQ;have⟨r1,r2⟩:=Ng (t':=iC) hu D (λm=>by
  unfold jE;simp only[hk,hs,E,decide_true,fC,show(1:Nat)<=2 from by omega];rw[decide_eq_decide];constructor<;>intro e<;>omega) vX
 refine⟨n,E,D,?_,h.acx hu (OB _ _ _ _) nP rfl⟩;have G:pT ol x u k=({aD x u (df k)with kept:=eB all (x.ai.set u iC)},{eY with mY:=(n:Int),st:=bX ol.ah (all.getD n zX)},true):=by
  unfold pT;rw[ax oQ,ax oQ,E,h.made,h.kept,r1,r2]
 simp_all[rL,C2,aD]
end
structure Ln where
 all:List As
 log:ByteArray
 stands:List Bool
 asked:List Rq
 uG:List Int
 steps:List Int
end Ch
def Ru(a:As):List Value:=[string a.act,string a.b_,string a.tm,int i64 a.x,int i64 a.y,int i64 a.z]
theorem Xh a:(Ru a).length=6:=rfl
def GY(l:List As):List Value:=l.flatMap Ru
def rqL(r:Rq):List Value:=[int i64 r.kind,string r.events,int i64 r.at_]
def Xi(l:List Rq):List Value:=l.flatMap rqL
def Xj(l:List Bool):List Value:=l.map Value.bool
structure Lp where
 wb:Nat
 sb:Nat
 qb:Nat
 lb:Nat
 pb:Nat
def lnA(p:Lp)(t:ByteArray)(L:Ln)(av:Value):Array Value:=
 #[string t,av,string L.log,slice (some ⟨p.sb,0,none⟩) L.stands.length L.stands.length,slice (some ⟨p.qb,0,none⟩) L.asked.length L.asked.length,slice (some ⟨p.lb,0,none⟩) L.uG.length L.uG.length,slice (some ⟨p.pb,0,none⟩) L.steps.length L.steps.length]
structure xO(w:World)p t L av:Prop where
 cj:w.heap[p.wb]? =some (cells (lnA p t L av) 71 (0,0))
 row:w.ownsRow 0 26 6 av L.all.length (GY L.all)
 std:w.heap[p.sb]? =some (cells (Xj L.stands).toArray 4 (0,0))
 ask:w.heap[p.qb]? =some (cells (Xi L.asked).toArray 79 (0,0))
 lat:w.heap[p.lb]? =some (cells (bO L.uG).toArray 3 (0,0))
 Yf:w.heap[p.pb]? =some (cells (bO L.steps).toArray 3 (0,0))
 ne:p.lb≠p.pb
def ZX(p:Lp)(av:Value)(k:Nat):Prop:=k=p.wb\/k=p.sb\/k=p.qb\/k=p.lb\/k=p.pb\/av.ownBlock=some k
def VD(w w':World)(p:Lp)(t:ByteArray)(av:Value)(L:Ln):Prop:=
 ∃D,xO w' p t L D/\(∀k,D.ownBlock=some k->av.ownBlock=some k\/w.heap.size<=k)/\Kp (ZX p av) w w'
def lnT(e:TypeId):Prop:=e=71\/e=26\/e=4\/e=79\/e=3
section
variable {w w':World} {p:Lp} {t:ByteArray} {L:Ln} {av:Value}
theorem xO.aB{S}(h:xO w p t L av)(K:Kp S w w')(hs:∀k,ZX p av k->¬S k):xO w' p t L av:=
 ⟨K.at_ h.cj (hs _ (inl rfl)),K.owns h.row (λk e=>hs k (inr (inr (inr (inr (inr e)))))),K.at_ h.std (hs _ (inr (inl rfl))),K.at_ h.ask (hs _ (inr (inr (inl rfl)))),K.at_ h.lat (hs _ (inr (inr (inr (inl rfl))))),K.at_ h.Yf (hs _ (inr (inr (inr (inr (inl rfl)))))),h.ne⟩
theorem xO.aw(h:xO w p t L av)(K:Kp bA w w'):xO w' p t L av:=h.aB K (λ_ _ x=>x)
theorem xO.low(h:xO w p t L av):∀k,ZX p av k->k<w.heap.size:=by
 rintro k (rfl|rfl|rfl|rfl|rfl|e)
 ·exact aR h.cj
 ·exact aR h.std
 ·exact aR h.ask
 ·exact aR h.lat
 ·exact aR h.Yf
 have⟨cur,hc⟩:=bC h.row e;grind
theorem xO.type(h:xO w p t L av){k}(hk:ZX p av k):∃c e,w.heap[k]? =some (cells c e (0,0))/\lnT e:=by
 rcases hk with rfl|rfl|rfl|rfl|rfl|e
 ·exact⟨_,_,h.cj,inl rfl⟩
 ·exact⟨_,_,h.std,inr (inr (inl rfl))⟩
 ·exact⟨_,_,h.ask,inr (inr (inr (inl rfl)))⟩
 ·exact⟨_,_,h.lat,inr (inr (inr (inr rfl)))⟩
 ·exact⟨_,_,h.Yf,inr (inr (inr (inr rfl)))⟩
 have⟨cur,hc⟩:=bC h.row e;exact⟨_,_,hc,inr (inl rfl)⟩
theorem xO.other(h:xO w p t L av){b}{c}{e}(hb:w.heap[b]? =some (cells c e (0,0)))(he:¬lnT e):¬ZX p av b:=by
 intro hk;have⟨c',e',h1,h2⟩:=h.type hk;simp_all
theorem xO.cell(h:xO w p t L av)j:w.cell? ⟨p.wb,j,none⟩=(lnA p t L av)[j]?:=by rw[World.cell?,h.cj];rfl
theorem xO.free(h:xO w p t L av)j:w.frozen? ⟨p.wb,j,none⟩=false:=by simp[World.frozen?,h.cj]
theorem xO.rowAt(h:xO w p t L av)(E:0<L.all.length):∃g D,av= slice (some ⟨g,0,none⟩) L.all.length D:=by
 rcases h.row.2 with⟨_,e2⟩|⟨g,D,_,e1,_⟩
 ·omega
 simp_all
theorem VD.refl(h:xO w p t L av):VD w w p t av L:=⟨av,h,λ_ e=>inl e,Kp.refl _ _⟩
theorem VD.of(h:xO w' p t L av)(K:Kp (ZX p av) w w'):VD w w' p t av L:=⟨av,h,λ_ e=>inl e,K⟩
theorem VD.trans{D L' F}(K:Kp (ZX p av) w w')(hk:∀k,F.ownBlock=some k->av.ownBlock=some k\/w.heap.size<=k)(q:VD w' D p t F L'):VD w D p t av L':=by
 have⟨kv2,h2,G,K2⟩:=q;refine⟨kv2,h2,?_,K.trans' K2 ?_⟩
 ·intro k e;rcases G k e with E|E
  ·simp_all
  exact inr (bz K.size E)
 intro i hi s;rcases s with s|s|s|s|s|s
 ·exact inl s
 ·exact inr (inl s)
 ·exact inr (inr (inl s))
 ·exact inr (inr (inr (inl s)))
 ·exact inr (inr (inr (inr (inl s))))
 rcases hk i s with e|e
 ·exact inr (inr (inr (inr (inr e))))
 omega
theorem VD.aw{D L'}(q:VD w w' p t av L')(K:Kp bA w' D):VD w D p t av L':=by
 have⟨rj,h4,n4,K4⟩:=q;exact⟨rj,h4.aw K,n4,K4.trans' K gM⟩
end
theorem Xk{w xb tb pc ol x kv}(h:gF w xb tb 138 pc ol x kv){k}(hk:Aq xb tb kv k):∃c e,w.heap[k]? =some (cells c e (0,0))/\¬lnT e:=by
 rcases hk with rfl|rfl|e
 ·exact⟨_,_,h.cj,by unfold lnT;decide⟩
 ·exact⟨_,_,h.uS,by unfold lnT;decide⟩
 have⟨cur,hc⟩:=bC h.row e;grind[lnT]
theorem xO.UM{w w' p t L av xb tb pc ol x kv}(l:xO w p t L av)(h:gF w xb tb 138 pc ol x kv)(K:Kp (Aq xb tb kv) w w'):xO w' p t L av:=by
 refine l.aB K ?_;intro k hk hs;have⟨c,e,h1,h2⟩:=Xk h hs;exact l.other h1 h2 hk
theorem U1:(prog.info? 26).map (λi=>(i.zero,i.size,i.bytes))=some (some (agg cG),6,72):=bZ
theorem Rv{P}{o:Oper}{a}{w}{K}{Q}s x t(R:o.op=Op.call {callee:=Callee.builtin Builtin.append,args:=#[s,x],argTypes:=#[t,t]})base e i z size bytes(Z:P.underlying t=some (.slice e))(h2:P.info? e=some i)(h3:i.zero=some z)(h4:i.size=size)(h5:i.bytes=bytes)(h6:z.cells.size=size)(h7:0<size)v n U(hs:a.eval s=v)(G:w.ownsRow base e size v n U)I m c D(hx:a.eval x= slice (some I) m c)(hn:D.length=m*size)(hc:∀j u,D[j]? =some u->w.cell? (I.add j)=some u)(J:∀u∈D,u.oneCell'=true)(O:0<m)(X:n+m<=maxLen)(Y:(n+m)*bytes<=140737488355328)(F:base<=w.heap.size)(hK:∀g E w',w'.ownsRow base e size (slice (some ⟨g,0,none⟩) (n+m) E) (n+m) (U++D)->w.grownBy w' v.ownBlock->(v.ownBlock=some g\/w.heap.size<=g)->K (a.put o.dst (slice (some ⟨g,0,none⟩) (n+m) E)) w'):o.wp P a w K Q:=by
 have⟨g,E,w',hrun,r1,r2,r3⟩:=dJ (P:=P) w base t o.type e i z size bytes Z h2 h3 h4 h5 h6 h7 v n U G I m c D hn hc J O X Y F;unfold Oper.wp;simp[execOp,R,resolve,invoke,builtin,hs,hx,hrun,Result.andThen];exact hK g E w' r1 r2 r3
theorem xO.neW{w p t L av}(h:xO w p t L av):p.sb≠p.wb/\p.qb≠p.wb/\p.lb≠p.wb/\p.pb≠p.wb:=by
 have f:∀{b:Nat} {c:Array Value} {e:TypeId},w.heap[b]? =some (cells c e (0,0))->e≠71->b≠p.wb:=by
  intro b c e hb he x;rw[x,h.cj]at hb;simp_all
 exact⟨f h.std aV,f h.ask aV,f h.lat aV,f h.Yf aV⟩
theorem xO.snoc{w G p t L av D}(h:xO w p t L av){b}(E:Kp (λk=>av.ownBlock=some k) w G)(O:G.ownsRow 0 26 6 D (L.all.length+1) (GY L.all++Ru b)):xO (G.setCell ⟨p.wb,1,none⟩ D) p t {L with all:=L.all++[b]} D:=by
 have J:=E.at_ h.cj (aZ h.row h.cj aV);have F:Kp _ _ (G.setCell ⟨p.wb,1,none⟩ D):=(Kp.refl (λk=>k=p.wb) G).setCell (p:=⟨p.wb,1,none⟩) (λ_=>rfl) _;have I:=aZ O J aV;have⟨n1,n2,n3,n4⟩:=h.neW;refine⟨?_,?_,F.at_ (E.at_ h.std (aZ h.row h.std aV)) n1,F.at_ (E.at_ h.ask (aZ h.row h.ask aV)) n2,F.at_ (E.at_ h.lat (aZ h.row h.lat aV)) n3,F.at_ (E.at_ h.Yf (aZ h.row h.Yf aV)) n4,h.ne⟩
 ·rw[ar _ J];rfl
 have:=F.owns O (λk e x=>I (by rw[<-x];exact e));grind[GY,Ru]
theorem xO.at_{w p t L av}(h:xO w p t L av){g}{D}(e:av= slice (some ⟨g,0,none⟩) L.all.length D){k}{a}(hk:L.all[k]? =some a):∀j u,(Ru a)[j]? =some u->w.cell? ⟨g,k*6+j,none⟩=some u:=by
 intro j u F;have G:=h.row;rw[e]at G;have J:=(aM.1 hk).1;have E:j<6:=(aM.1 F).1;have I:=G.cellAt (k*6+j) oQ;rw[I];exact(kg Ru 6 L.all k a j (λa _=>Xh a) hk E).trans F
namespace Ch
def rdB(L:Ln)(i:Nat):Bool:=L.stands.getD i false&&decide ((L.asked.getD i ⟨0,⟨#[]⟩,0⟩).kind=3)&&decide (0<L.steps.getD i 0)
def rdN(L:Ln):Nat->Nat
 |0=>0
 |i+1=>rdN L i+(if rdB L i then 1 else 0)
structure aho(L:Ln)(N:List Nat):Prop where
 pos:0<L.all.length
 lo:L.all.length-(L.all.length-4)<=N.length
 hi:N.length<=(L.all.length-(L.all.length-4))+rdN L L.stands.length
 lt:∀k∈N,k<L.all.length
 akq:N.Pairwise (· < ·)
 at_:N[N.length-(L.all.length-(L.all.length-4))]? =some (L.all.length-4)
 la:L.asked.length=L.stands.length
 ls:L.steps.length=L.stands.length
 l6:L.stands.length<=6
def Yh(s:As)(o:ByteArray)(n:Nat):Ln:=⟨[s],o,List.replicate n false,List.replicate n ⟨0,⟨#[]⟩,0⟩,List.replicate n 0,List.replicate n 0⟩
