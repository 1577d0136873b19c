import Derived.Test.YtnlbchmfcebeeaaGreatTSd
set_option maxHeartbeats 12800000
set_option maxRecDepth 100000
namespace Go.Proofs.YtnlbchmfcebeeaaGreat
open Go.Proofs.Tryz Ch
open Go.RowKit
open Value(int slice bool pointer string agg tuple)
open IntKind(i64)
open Obj(cells)
open Ending(returned)
open Operand(tmp)
open Or(inl inr)
namespace Ch
def gz(ol:Ol)(t:Tk):Tk×Int:=
 if t.events.size<=t.ay then(t,0)
 else if(bY ol t.now (af t.events t.ay)).2.2 !=0 then(t,(bY ol t.now (af t.events t.ay)).2.2)
 else({t with ay:=t.ay+1,now:=(bY ol t.now (af t.events t.ay)).1,out:=t.out++(bY ol t.now (af t.events t.ay)).2.1},0)
theorem nO x u a b:aD (aD x u a) u b=aD x u b:=by simp[aD,List.set_set]
theorem t_{x u}(h:u<x.ai.length)a:(aD x u a).ai[u]? =some a:=by grind[aD]
theorem Ar{x u t}(h:x.ai[u]? =some t):aD x u t=x:=by
 have⟨h1,e⟩:=aM.1 h;unfold aD;rw[<-e,List.set_getElem_self]
end Ch
theorem gF.Mt{w xb tb T pc ol x kv}(h:gF w xb tb T pc ol x kv){u}{t}{t'}(hu:x.ai[u]? =some t)(hw:t'.now.Wf)j(D:j<45)v(E:lR t'=(lR t).set j v):
 gF (w.setCell ⟨tb,u*45+j,none⟩ v) xb tb T pc ol (aD x u t') kv:=h.UO hu hw j D v E
theorem gF.UQ{w xb tb T pc ol x kv}(h:gF w xb tb T pc ol x kv){u}{t}{t'}(hu:x.ai[u]? =some t)(hw:t'.now.Wf)j l(D:j+l.length<=45)(E:lR t'=(lR t).take j++l++(lR t).drop (j+l.length)):
 gF (w.setRow tb (putAt (dN x.ai).toArray (u*45+j) l)) xb tb T pc ol (aD x u t') kv:=h.acf hu hw j l D E
theorem GR w{xb}{tb}{pc}{ol}{x}{kv}(h:gF w xb tb 138 pc ol x kv)(aS:ol.Ok){u}{t}(hu:x.ai[u]? =some t)(fW:t.now.Ok)(bm:t.ay<=1000)(br:t.out.size<=1000000000):
 Calls prog 260 #[pointer (some ⟨xb,0,none⟩),pointer (some ⟨tb,u*45,none⟩)] w λr w'=>r=returned (int i64 (gz ol t).2)/\gF w' xb tb 138 pc ol (aD x u (gz ol t).1) kv/\Kp (Aq xb tb kv) w w':=by
 have⟨ds,ao,iT⟩:=g7;have am:=fW.1;have c5:w.cell? ⟨tb,u*45+5,none⟩=some _:=h.fG hu oQ;have c1:w.cell? ⟨tb,u*45+1,none⟩=some _:=h.fG hu oQ;have aO:=(aM.1 hu).1;have a9:=Ar hu
 have HU:=ag (show gz ol t=if t.events.size<=t.ay then(t,0)
  else if(bY ol t.now (af t.events t.ay)).2.2 !=0 then(t,(bY ol t.now (af t.events t.ay)).2.2)
  else({t with ay:=t.ay+1,now:=(bY ol t.now (af t.events t.ay)).1,out:=t.out++(bY ol t.now (af t.events t.ay)).2.1},0)from rfl)
 generalize gz ol t=FT at*;have R:=c_ h hu a9;go_in;go_upto_region 1 with fail;by_cases ap:t.events.size<=t.ay
 ·have HF:=ag (HU.out.trans (aq ap));have aI:(t.events.size:Int)<=t.ay:=oQ;go_quiet (fail);rename_i nq;have KD:=(Kp.refl bA w).drewN nq;have HK:=ag KD;go_wp2;go_ret;rw[HF];exact⟨rfl,by rw[R.2.2];exact R.1.aw HK,HK.mono gM⟩
 have aI:¬(t.events.size:Int)<=(t.ay:Int):=oQ;have J:t.ay<t.events.size:=oQ;have bg:(t.ay:Int)<(t.events.size:Int):=oQ;have a8:af t.events t.ay=((t.events[t.ay]'J).toNat:Int):=by simp[af,J]
 have HV:=ag (HU.out.trans (ax ap));rw[a8]at HV;go_quiet (fail);rename_i nq;have h1:=R.out.1.aw ((Kp.refl bA w).drewN nq);have K1:=(Kp.refl bA w).drewN nq;have d5:(w.drewN nq).cell? _=_:=c5;have d1:(w.drewN nq).cell? _=_:=c1;generalize w.drewN nq=E at*;have be:_=some (t.events[t.ay]'J):=getElem?_pos t.events t.ay J;generalize hc:((t.events[t.ay]'J).toNat:Int)=c at*;have O:=rh (ol:=ol) fW c;have a7:=mq aS t.now c;have Pn:(prog.info? 95).map (·.size)=some (aN t.now).length:=by rw[dp am];exact dh
 have E1:=λW h=>ag (zy W xb 0 ol t.now c fW h aS);have ab:∀w':World,w'.heap[tb]? =some (cells (dN x.ai).toArray 173 (0,0))->w'.cell? ⟨tb,u*45+5,none⟩=some (int i64 t.ay):=by
  intro w' hb;rw[ke hb];exact kg lR 45 x.ai u t 5 (λa ha=>gE (h1.tw a ha)) R.out.2.1 oQ
 have aa:∀w':World,w'.heap[tb]? =some (cells (dN x.ai).toArray 173 (0,0))->w'.cell? ⟨tb,u*45+1,none⟩=some (string t.events):=by
  intro w' hb;rw[ke hb];exact kg lR 45 x.ai u t 1 (λa ha=>gE (h1.tw a ha)) R.out.2.1 oQ
 have ad:∀w':World,w'.heap[tb]? =some (cells (dN x.ai).toArray 173 (0,0))->∀j v,(aN t.now)[j]? =some v->w'.cell? ⟨tb,u*45+6+j,none⟩=some v:=by
  intro w' hb j v hj;have hl:=(aM.1 hj).1;rw[dp am]at hl;rw[ke hb,oe];exact(kg lR 45 x.ai u t (6+j) (λa ha=>gE (h1.tw a ha)) R.out.2.1 oQ).trans (Ox j v hj)
 have ba:=h1.uS;have U:=h1.lK;have HX:=xn h1 K1 E1 ab aa ad U;generalize bo:bY ol t.now c=mf at*;have⟨fs,ft,fe⟩:=mf;simp only at O HV HX a7;have fI:=iD O.1;have a2:(prog.info? 95).map (·.size)=some (aN fs).length:=by rw[dp O.1];exact dh
 have fS:=jc O.1;have fL:=dp O.1;have fO:=mK fs;have a3:=tG fs;have Xa:=R.out.1.JJ;generalize a4:aN fs=G at*;generalize a5:(dN x.ai).toArray=X at*;have Ps:=bw a4 a5;go_upto_region 3 with fail;go_cut [5,6,7]from 18 to 38 (λp e f wx=>∃fb,p= pointer (some ⟨fb,0,none⟩)/\e= string ft/\f= int i64 fe/\wx.heap[fb]? =some (cells G.toArray 95 (0,0))/\Kp bA E wx)
 case first=>
  have⟨h1,K1,E1,ab,aa,ad,U⟩:=HX.out;have D:E.drew.heap[tb]? =_:=ba;have An:Kp bA E E.drew:=(Kp.refl _ _).drewN 1;refine aY (λw'=>w'.heap[tb]? =some (cells X 173 (0,0))) bZ ?_;refine bR 0 19 (pointer (some ⟨xb,0,none⟩)) D ?_;refine bR 1 20 (pointer (some ⟨xb,0,none⟩)) D ?_;refine bR 2 21 (pointer (some ⟨xb,0,none⟩)) D ?_;refine bR 3 22 (pointer (some ⟨tb,u*45,none⟩)) D ?_;refine bR 4 23 (pointer (some ⟨tb,u*45,none⟩)) D ?_;refine bR 5 24 (pointer (some ⟨tb,u*45+6,none⟩)) D ?_;refine fh 6 25 (agg (aN t.now).toArray) rfl (λw' hS=>eT 95 (tmp 24) rfl tb (u*45+6) rfl (aN t.now) ds (ad w' hS) ao iT Pn) D ?_;refine bR 7 26 (pointer (some ⟨tb,u*45,none⟩)) D ?_;refine bR 8 27 (pointer (some ⟨tb,u*45,none⟩)) D ?_;refine bR 9 28 (pointer (some ⟨tb,u*45+1,none⟩)) D ?_;refine fh 10 29 (string t.events) rfl (λw' hS=>by simp[execOp,Act.eval,go_sem,aa w' hS]) D ?_;refine bR 11 30 (pointer (some ⟨tb,u*45,none⟩)) D ?_;refine bR 12 31 (pointer (some ⟨tb,u*45,none⟩)) D ?_;refine bR 13 32 (pointer (some ⟨tb,u*45+5,none⟩)) D ?_;refine fh 14 33 (int i64 t.ay) rfl (λw' hS=>by simp[execOp,Act.eval,go_sem,ab w' hS]) D ?_;refine fh 15 34 (int .u8 c) rfl (λw' _=>by simp[execOp,Act.eval,go_sem,J,hc]) D ?_;refine qZ 16 21 bZ rfl rfl rfl rfl ?_ ?_
  ·refine er (some 35) rfl 57 #[pointer (some ⟨xb,0,none⟩),agg (aN t.now).toArray,int .u8 c] wX _ (λw'=>Kp bA E.drew w') (E1 E.drew (U.aB An (λ_ _ _ _ _ x=>x))).out ?_;intro Q Z;have F:=Z.at_ D (λx=>x);have I:=ak Q (cells cB 95);have X_:(Q.alloc (cells cB 95)).heap[tb]? =_:=(cE _ _ _ (aR F)).trans F;have aj:tb≠Q.heap.size:=by have:=aR F;omega
   have Y:((Q.alloc (cells cB 95)).setRow Q.heap.size G.toArray).heap[tb]? =some (cells X 173 (0,0)):=by rw[cN _ _ _ _ aj];exact X_
   refine⟨F,?_⟩;refine iU 17 18 (tuple #[agg G.toArray,string ft,int i64 fe]) rfl sr F ?_;refine iU 18 36 (agg G.toArray) rfl sr F ?_;refine iU 19 37 (string ft) rfl sr F ?_;refine iU 20 38 (int i64 fe) rfl sr F ?_;refine pf 21 ?_;refine gA (some 5) rfl (pointer (some ⟨Q.heap.size,0,none⟩)) (Q.alloc (cells cB 95)) Fv ?_;refine⟨X_,?_⟩;refine cQ 22 bZ rfl rfl 95 (tmp 5) (tmp 36) rfl rfl Q.heap.size G.toArray rM rM 95 cB I fI (by rw[fS];rfl) fO Y ?_;refine iU 23 6 (string ft) rfl sr Y ?_;refine iU 24 7 (int i64 fe) rfl sr Y ?_;refine bG bZ (bH ?_) _;simp only[Act.put,pA,pB,pC];go_wp2;go_meet;exact⟨Q.heap.size,rfl,rfl,rfl,an _ _ _ _ _ _ I,((An.trans Z).alloc _).setRow (λx=>by have:=(An.trans Z).size;omega) _⟩
  refine gA (some 5) rfl (pointer (some ⟨E.heap.size,0,none⟩)) (E.drew.alloc (cells cB 95)) Fv ?_;have I:=ak E.drew (cells cB 95);have Ou:=An.alloc (cells cB 95);have Ya:(E.drew.alloc (cells cB 95)).heap[tb]? =_:=(cE _ _ _ (aR D)).trans D;refine⟨Ya,?_⟩;refine pf 16 ?_;simp only[Act.put,pA,pB,pC];refine er (some 35) rfl 57 #[pointer (some ⟨xb,0,none⟩),agg (aN t.now).toArray,int .u8 c] wX _ (λw'=>Kp bA (E.drew.alloc (cells cB 95)) w') (E1 _ (U.aB Ou (λ_ _ _ _ _ x=>x))).out ?_;intro Q Z;have F:=Z.at_ Ya (λx=>x);have kE:=Z.at_ (k:=E.heap.size) (by exact I) (λx=>x);have aj:tb≠E.heap.size:=by have:=aR D;have e:E.drew.heap.size=E.heap.size:=rfl;omega
  have Y:(Q.setRow E.heap.size G.toArray).heap[tb]? =some (cells X 173 (0,0)):=by rw[cN _ _ _ _ aj];exact F
  refine⟨F,?_⟩;refine iU 17 18 (tuple #[agg G.toArray,string ft,int i64 fe]) rfl sr F ?_;refine iU 18 36 (agg G.toArray) rfl sr F ?_;refine iU 19 37 (string ft) rfl sr F ?_;refine iU 20 38 (int i64 fe) rfl sr F ?_;refine cQ 22 bZ rfl rfl 95 (tmp 5) (tmp 36) rfl rfl E.heap.size G.toArray rM rM 95 cB kE fI (by rw[fS];rfl) fO Y ?_;refine iU 23 6 (string ft) rfl sr Y ?_;refine iU 24 7 (int i64 fe) rfl sr Y ?_;refine bG bZ (bH ?_) _;simp only[Act.put,pA,pB,pC];go_wp2;go_meet;exact⟨E.heap.size,rfl,rfl,rfl,an _ _ _ _ _ _ kE,(Ou.trans Z).setRow (λx=>oQ) _⟩
 case rest=>
  obtain⟨fb,rfl,rfl,rfl,RU,KC⟩:=hcut;have hC:=HX.out.1.aw KC;have KA:=HX.out.2.1.trans KC;cases q1:fe !=0 with
  |true=>
   have HF:=ag (HV.out.trans (show _=(t,fe)by rw[q1];rfl));have HK:=bw hC KA;go_wp2;go_ret;rw[HF.out];exact⟨rfl,by rw[R.out.2.2];exact HK.out.1,HK.out.2.mono gM⟩
  |false=>?_
  have a6:fe=0:=cX q1;subst a6;have HF:=ag (HV.out.trans (show _=({t with ay:=t.ay+1,now:=fs,out:=t.out++ft},(0:Int))by rw[q1];rfl));have bb:wc.heap[tb]? =some (cells X 173 (0,0)):=by have:=hC.uS;rw[Ps.2]at this;exact this
  have RV:u*45+6+G.length<=X.size:=by rw[Xa,fL];omega
  have h6:=hC.UQ (t':={t with now:=fs}) R.2.1 O.1 6 G oQ (by rw[<-Ps.1];exact xK (t':={t with now:=fs}) am O.1 rfl rfl);rw[Ps.out.2]at h6;have K6:Kp _ _ (wc.setRow tb (putAt X (u*45+6) G)):=(KA.mono (S':=Aq xb tb kv) gM).setRow (λ_=>inr (inl rfl)) _;go_upto_region 7 with(first|refine jw rfl 95 (tmp 45) (tmp 43) rfl tb (u*45+6) G rfl rfl 173 X bb a2 RV a3 ?_|refine gV RU ao iT fI ?_);generalize wc.setRow tb (putAt X (u*45+6) G)=w6 at*;have a0:=t_ aO {t with now:=fs};have bi:w6.cell? ⟨tb,u*45+42,none⟩=some (string t.out):=(h6.fG a0 oQ).trans (oZ (t:={t with now:=fs}) O.1 0);have f42:=h6.sn (u*45+42);have bc:=λw'=>my (P:=prog) w' t.out ft oQ;have h7:=h6.Mt (t':={t with now:=fs,out:=t.out++ft}) a0 O.1 42 oQ (string (t.out++ft)) (vQ (t:={t with now:=fs}) (t':={t with now:=fs,out:=t.out++ft}) O.1 rfl rfl 0 _ rfl);rw[nO]at h7;have K7:Kp _ _ (w6.setCell ⟨tb,u*45+42,none⟩ (string (t.out++ft))):=K6.setCell (p:=⟨tb,u*45+42,none⟩) (λ_=>inr (inl rfl)) _;generalize bk:t.out++ft=TO at*;go_upto_region 8 with fail;generalize w6.setCell ⟨tb,u*45+42,none⟩ (string TO)=w7 at*;have a1:=t_ aO {t with now:=fs,out:=TO};have e5:w7.cell? ⟨tb,u*45+5,none⟩=some (int i64 t.ay):=h7.fG a1 oQ;have f5:=h7.sn (u*45+5);have ef:((t.ay+1:Nat):Int)=(t.ay:Int)+1:=oQ;have h8:=h7.Mt (t':={t with ay:=t.ay+1,now:=fs,out:=TO}) a1 O.1 5 oQ (int i64 ((t.ay:Int)+1)) (vR (t:={t with now:=fs,out:=TO}) (t':={t with ay:=t.ay+1,now:=fs,out:=TO}) rfl rfl 5 oQ _ (by rw[<-ef];rfl));rw[nO]at h8;have K8:Kp _ _ (w7.setCell ⟨tb,u*45+5,none⟩ (int i64 ((t.ay:Int)+1))):=K7.setCell (p:=⟨tb,u*45+5,none⟩) (λ_=>inr (inl rfl)) _;have HZ:=bw h8 K8;go_wp2;go_ret;rw[HF];exact⟨rfl,HZ.1,HZ.2⟩
namespace Ch
theorem CT{ol}(D:ol.Ok):∀ n {s} {l} {r},eP ol n s l=some r->r.2.size<=l.length+345600*n:=by
 intro n;induction n with
 |zero=>grind[eP]
 |succ n E=>?_
 intro s l r h;simp only[eP]at h;split at h
 ·grind[yo,mq,cC]
 simp at h;subst h;show(strOfNums l).size<=_;rw[dC];omega
def DQ(ol:Ol)(s:Sd):Sd×ByteArray:=match eP ol 17 (tick s) []with|some r=>r|none=>(s,⟨#[]⟩)
theorem CU{ol s}(h:(eP ol 17 (tick s) []).isSome=true):eP ol 17 (tick s) []=some (DQ ol s):=by
 grind[DQ]
def xk(ol:Ol)(x:Sv):Sv×Rp:=
 (lQ x (DQ ol (fy x.kept)).1 (DQ ol (fy x.kept)).2,{eY with mY:=(x.made:Int),text:=(DQ ol (fy x.kept)).2})
def sq(x:Sv)(t:Tk):Tk:=if t.ay=0 then {t with now:=fy x.kept}else t
def xl(x:Sv)(t:Tk):Bool:=decide (t.ay=0)&&decide (0<=t.at_)&&decide (t.at_≠(x.made:Int)-1)
def vV(ol:Ol)(x:Sv)(u:Nat)(t:Tk):Sv×Rp×Bool:=
 if(gz ol t).2 !=0 then(aD x u (gz ol t).1,{kh x (gz ol t).2 with idx:=((gz ol t).1.ay:Int)},true)
 else if(gz ol t).1.ay<(gz ol t).1.events.size then(aD x u (gz ol t).1,eY,false)
 else(lQ (aD x u (gz ol t).1) (gz ol t).1.now (gz ol t).1.out,{eY with mY:=(x.made:Int),idx:=((gz ol t).1.ay:Int),text:=(gz ol t).1.out},true)
def uT(ol:Ol)(x:Sv)(u:Nat)(t:Tk):Sv×Rp×Bool:=
 if xl x t then(x,kh x 14,true)else vV ol x u (sq x t)
def gQ(ol:Ol)(x:Sv)(u:Nat)(t:Tk):Sv×Rp×Bool:=
 if t.kind=2 then((xk ol x).1,(xk ol x).2,true)else uT ol x u t
def pU(x:Sv)(u:Nat)(t:Tk):Sv:={aD x u {t with drawn:=true,cD:=x.bj}with bj:=x.bj+1}
def pV(ol:Ol)(x:Sv)(u:Nat)(t:Tk):Sv×Rp×Bool:=
 if t.drawn=false then(pU x u t,eY,false)
 else if t.cD≠x.turn then(x,eY,false)
 else({(gQ ol x u t).1 with turn:=if(gQ ol x u t).2.2 then(gQ ol x u t).1.turn+1 else(gQ ol x u t).1.turn},(gQ ol x u t).2)
def m_(ol:Ol)(x:Sv)(u:Nat)(t:Tk):Sv×Rp×Bool:=
 if t.kind=3 then pT ol x u t else if t.kind=4 then(x,pR x t.at_,true)else pV ol x u t
def ub(x:Sv)(u:Int):Option Tk:=if 0<=u then x.ai[u.toNat]? else none
def cW(ol:Ol)(x:Sv)(u:Int):Sv×Rp×Bool×Int:=match ub x u with
 |none=>(x,eY,false,10)
 |some t=>if t.kind=0 then(x,eY,false,13)
  else(if(m_ ol x u.toNat t).2.2 then aD (m_ ol x u.toNat t).1 u.toNat iC else(m_ ol x u.toNat t).1,(m_ ol x u.toNat t).2.1,(m_ ol x u.toNat t).2.2,0)
structure Rq where
 kind:Int
 events:ByteArray
 at_:Int
def j3(e:ByteArray):Bool:=decide (1<=e.size)&&decide (e.size<=4)&&(List.range e.size).all (λj=>ez (af e j))
def pG(r:Rq):Bool:=
 if r.kind=1 then j3 r.events&&decide (-1<=r.at_)
 else if r.kind=2 then decide (r.events.size=0)&&decide (r.at_=0)
 else if r.kind=3 then decide (r.events.size=0)&&decide (-1<=r.at_)
 else if r.kind=4 then decide (r.events.size=0)&&decide (0<=r.at_)
 else false
def sT(r:Rq):Tk:={iC with kind:=r.kind,events:=r.events,at_:=r.at_}
def rK(x:Sv)(u:Int)(r:Rq):Sv×Int:=match ub x u with
 |none=>(x,10)
 |some t=>if t.kind≠0 then(x,11)else if pG r then(aD x u.toNat (sT r),0)else(x,12)
def sR(ol:Ol)(n:Nat):Sv:=lQ ⟨0,[],0,⟨#[]⟩,List.replicate n iC,0,0⟩ (cR ol).1 (cR ol).2.1
end Ch
theorem M8 w{xb}{tb}{pc}{ol}{x}{kv}(h:gF w xb tb 138 pc ol x kv)(R:x.Bd)(am:ol.Ok)(hk:0<x.kept.length)(fW:(fy x.kept).Ok)(a0:∀k,k<(fy x.kept).tm.size->1<=af (fy x.kept).tm k)(hw:(eP ol 17 (Ch.tick (fy x.kept)) []).isSome=true):
 Calls prog 228 #[pointer (some ⟨xb,0,none⟩)] w λr w'=>r=returned (agg (bU (xk ol x).2))/\jh w w' xb tb 138 pc ol kv (xk ol x).1:=by
 have⟨ds,hds,iT⟩:=g7;have⟨dr,hdr,fX⟩:=o0;have ab:=h.low;have K1:=kG w (cells aU 64);have aj:=ak w (cells aU 64);have h1:=h.aw K1;have a1:=R.made;have X:=CU hw;have O:=Jv (yp fW) X;have ap:=CT am 17 X;simp only[kN]at ap;have EL:=ag (CQ _ h1.tZ hk R.JK);have HU:=ag (show xk ol x=(lQ x (DQ ol (fy x.kept)).1 (DQ ol (fy x.kept)).2,{eY with mY:=(x.made:Int),text:=(DQ ol (fy x.kept)).2})from rfl);generalize xk ol x=TS at*;generalize fy x.kept=ls at*;have E1:=λW h=>ag (Ec W xb 0 ol ls 17 (DQ ol ls) X oQ a0 fW h am);generalize DQ ol ls=wr at*;have⟨fs,ft⟩:=wr;simp only at O ap HU E1;have sI:=iD fW.1;have sS:=jc fW.1;have sO:=mK ls;have fI:=iD O.1;have fS:=jc O.1;have fO:=mK fs;have HX:=fM h1 K1 E1 R;generalize Pr:(aN ls).toArray=G at*;generalize Io:(aN fs).toArray=J at*;have Ps:=ag Io;go_in;go_upto_region 1 with fail;generalize w.alloc (cells aU 64)=w1 at*;go_wp;refine b9 EL ?_;intro Y K2;have aO:=K2.at_ aj (λx=>x);have ad:=ak Y (cells cB 95);have K3:=rQ Y (cells cB 95) G;have aI:=an (Y.alloc (cells cB 95)) Y.heap.size cB G 95 (0,0) ad;have h3:=HX.1.aw (K2.trans K3);have KA:=HX.2.1.trans (K2.trans K3);have oM:=K3.at_ aO (λx=>x);have HY:=c_ h3 KA oM;go_upto_region 2 with(refine bJ G ad sI (by rw[sS];rfl) sO ?_);generalize (Y.alloc (cells cB 95)).setRow Y.heap.size G=D at*;generalize Y.heap.size=lb at*;simp only[Act.put];go_cut [4,5]from 10 to 17 (λp e wx=>∃fb,p= pointer (some ⟨fb,0,none⟩)/\e= string ft/\wx.heap[fb]? =some (cells J 95 (0,0))/\Kp bA D wx)
 case first=>
  have ao:=HY.1.lK;have E1:=HX.2.2.1;have E:D.drew.heap[lb]? =_:=aI;have An:Kp bA D D.drew:=(Kp.refl _ _).drewN 1;refine aY (λw'=>w'.heap[lb]? =some (cells G 95 (0,0))) bZ ?_;refine bR 0 11 (pointer (some ⟨xb,0,none⟩)) E ?_;refine bR 1 12 (pointer (some ⟨xb,0,none⟩)) E ?_;refine bR 2 13 (pointer (some ⟨xb,0,none⟩)) E ?_;refine fh 3 14 (agg G) rfl (λw' hS=>dR 95 (tmp 3) rfl lb rfl 95 G (0,0) ds hS hds iT sI) E ?_;refine qZ 4 8 bZ rfl rfl rfl rfl ?_ ?_
  ·refine er (some 15) rfl 77 #[pointer (some ⟨xb,0,none⟩),agg G] wX _ (λw'=>Kp bA D.drew w') (E1 D.drew (ao.aB An (λ_ _ _ _ _ x=>x))).out ?_;intro I Q;have F:=Q.at_ E (λx=>x);have kE:=ak I (cells cB 95);have X_:(I.alloc (cells cB 95)).heap[lb]? =_:=(cE _ _ _ (aR F)).trans F;have U:lb≠I.heap.size:=by have:=aR F;omega
   have Z:((I.alloc (cells cB 95)).setRow I.heap.size J).heap[lb]? =some (cells G 95 (0,0)):=by rw[cN _ _ _ _ U];exact X_
   refine⟨F,?_⟩;refine iU 5 10 (tuple #[agg J,string ft]) rfl sr F ?_;refine iU 6 16 (agg J) rfl sr F ?_;refine iU 7 17 (string ft) rfl sr F ?_;refine pf 8 ?_;refine gA (some 4) rfl (pointer (some ⟨I.heap.size,0,none⟩)) (I.alloc (cells cB 95)) Fv ?_;refine⟨X_,?_⟩;refine cQ 9 bZ rfl rfl 95 (tmp 4) (tmp 16) rfl rfl I.heap.size J rM rM 95 cB kE fI (by rw[fS];rfl) fO Z ?_;refine iU 10 5 (string ft) rfl sr Z ?_;refine bG bZ (bH ?_) _;simp only[Act.put,pA,pB,pC];go_wp2;go_meet;exact⟨I.heap.size,rfl,rfl,an _ _ _ _ _ _ kE,((An.trans Q).alloc _).setRow (λx=>by have:=(An.trans Q).size;omega) _⟩
  refine gA (some 4) rfl (pointer (some ⟨D.heap.size,0,none⟩)) (D.drew.alloc (cells cB 95)) Fv ?_;have ZO:=ak D.drew (cells cB 95);have Ou:=An.alloc (cells cB 95);have Ya:(D.drew.alloc (cells cB 95)).heap[lb]? =_:=(cE _ _ _ (aR E)).trans E;refine⟨Ya,?_⟩;refine pf 4 ?_;simp only[Act.put,pA,pB,pC];refine er (some 15) rfl 77 #[pointer (some ⟨xb,0,none⟩),agg G] wX _ (λw'=>Kp bA (D.drew.alloc (cells cB 95)) w') (E1 _ (ao.aB Ou (λ_ _ _ _ _ x=>x))).out ?_;intro I Q;have F:=Q.at_ Ya (λx=>x);have kE:=Q.at_ (k:=D.heap.size) (by exact ZO) (λx=>x);have U:lb≠D.heap.size:=by have:=aR E;have e:D.drew.heap.size=D.heap.size:=rfl;omega
  have Z:(I.setRow D.heap.size J).heap[lb]? =some (cells G 95 (0,0)):=by rw[cN _ _ _ _ U];exact F
  refine⟨F,?_⟩;refine iU 5 10 (tuple #[agg J,string ft]) rfl sr F ?_;refine iU 6 16 (agg J) rfl sr F ?_;refine iU 7 17 (string ft) rfl sr F ?_;refine cQ 9 bZ rfl rfl 95 (tmp 4) (tmp 16) rfl rfl D.heap.size J rM rM 95 cB kE fI (by rw[fS];rfl) fO Z ?_;refine iU 10 5 (string ft) rfl sr Z ?_;refine bG bZ (bH ?_) _;simp only[Act.put,pA,pB,pC];go_wp2;go_meet;exact⟨D.heap.size,rfl,rfl,an _ _ _ _ _ _ kE,(Ou.trans Q).setRow (λx=>oQ) _⟩
 case rest=>
  obtain⟨fb,rfl,rfl,RU,KC⟩:=hcut;have hC:=HY.1.aw KC;have KA:=HY.2.1.trans KC;have aS:=KC.at_ HY.2.2 (λx=>x);have EP:=ag (vT wc hC HX.2.2.2 fs O.1 ft oQ);rw[Ps]at EP;have HC:=bw hC KA;generalize aa:lQ x fs ft=XX at*;have HM:=ag (show((XX.made:Int)-1)=(x.made:Int)by rw[<-aa];show((x.made+1:Nat):Int)-1=_;omega);have II:XX.made<=1000000000000000:=by rw[<-aa];show x.made+1<=_;omega
  go_wp2_with (refine gV RU hds iT fI ?_);refine b9 EP ?_;intro w6 q6;have vh:=q6.at_ ab aS;have⟨kv6,h6,n6,K6⟩:=q6;have EA:=ag (oB w6 h6.tZ II);have q6:jh _ _ _ _ _ _ _ _ _:=⟨kv6,h6,n6,K6⟩
  generalize ZL:({eY with mY:=(XX.made:Int)-1,text:=ft}:Rp)=RP at*;have HR:=ag ZL;have HQ:=ag (jh.eV (HC.2.mono gM) q6 vh (bU RP));have lH:=an w6 w.heap.size aU (bU RP) 64 (0,0) vh;go_wp21;refine cF EA ?_;go_wp2_with (refine wpList_store_row rfl 64 (tmp 2) (tmp 27) rfl w.heap.size (bU RP) rfl (by rw[<-HR];rfl) 64 aU vh bh rfl (du _) ?_);refine uY lH hdr fX bh ?_;rw[HU,<-HM,HR];exact⟨rfl,HQ⟩
namespace Ch
theorem UR x t:xl x t=(decide (t.ay=0)&&decide (0<=t.at_)&&decide (t.at_≠(x.made:Int)-1)):=rfl
theorem Sv.Bd.ack{x}(h:x.Bd)u t:(aD x u t).Bd:=⟨h.made,h.JK,h.vC,h.joined,h.tail,h.tj,h.tick,h.turn,by unfold aD;simp only[j_];exact h.ai⟩
end Ch
theorem gF.Q_{w xb tb T pc ol x kv}(h:gF w xb tb T pc ol x kv){g}{c}{e}(O:w.heap[g]? =some (cells c e (0,0)))(he:e=64\/e=95)j v:gF (w.setCell ⟨g,j,none⟩ v) xb tb T pc ol x kv:=by
 have I:e≠T:=by rcases he with rfl|rfl<;>rcases h.ty with rfl|rfl<;>decide
 have J:e≠261:=by rcases he with rfl|rfl<;>decide
 have G:e≠173:=by rcases he with rfl|rfl<;>decide
 have ne:∀{b:Nat} {E:Array Value} {D:TypeId},w.heap[b]? =some (cells E D (0,0))->e≠D->b≠g:=by
  grind
 refine h.aB (S:=λk=>k=g) ((Kp.refl (λk=>k=g) w).setCell (p:=⟨g,j,none⟩) (λ_=>rfl) _) (ne h.cj I) (ne h.uS G) ?_ ?_
 ·intro k F;have⟨cur,hc⟩:=bC h.row F;grind
 grind[Fp]
theorem ZP r i:(bU r).setIfInBounds 2 (int i64 i)=bU {r with idx:=i}:=rfl
theorem GS w{xb}{tb}{pc}{ol}{x}{kv}(h:gF w xb tb 138 pc ol x kv)(ad:x.Bd)(a3:ol.Ok)(hk:0<x.kept.length){u}{t}(hu:x.ai[u]? =some t)(fW:(sq x t).now.Ok)(b7:t.ay<=1000)(a4:t.out.size<=1000000000):
 Calls prog 229 #[pointer (some ⟨xb,0,none⟩),pointer (some ⟨tb,u*45,none⟩)] w λr w'=>r=returned (tuple #[agg (bU (uT ol x u t).2.1),bool (uT ol x u t).2.2])/\jh w w' xb tb 138 pc ol kv (uT ol x u t).1:=by
 have⟨ds,hds,iT⟩:=g7;have⟨dr,hdr,fX⟩:=o0;have aa:=h.low;have ci:=aR h.uS;have K1:=kG w (cells aU 64);have U:=ak w (cells aU 64);have h1:=h.aw K1;have bi:=ad.made;have aS:=(aM.1 hu).1;have a5:=h.tWf hu;have c5:(w.alloc (cells aU 64)).cell? ⟨tb,u*45+5,none⟩=some _:=h1.fG hu oQ;have c2:(w.alloc (cells aU 64)).cell? ⟨tb,u*45+2,none⟩=some _:=h1.fG hu oQ;have HU:=ag (show uT ol x u t=if xl x t then(x,kh x 14,true)else vV ol x u (sq x t)from rfl);have HV:=ag (UR x t);have HT:=ag (show sq x t=if t.ay=0 then {t with now:=fy x.kept}else t from rfl);have b6:(sq x t).ay=t.ay:=by unfold sq;split<;>rfl
 have a2:(sq x t).out=t.out:=by unfold sq;split<;>rfl
 generalize uT ol x u t=SS at*;generalize xl x t=sv at*;generalize sq x t=t1 at*;have R:=rP h1 ad hu K1 (Ar hu);have b5:=ad.ack u t1;have ca:(aD x u t1).made=x.made:=rfl;have bt:=t_ aS t1
 have HE:=ag (show vV ol x u t1=if(gz ol t1).2 !=0 then(aD x u (gz ol t1).1,{kh x (gz ol t1).2 with idx:=((gz ol t1).1.ay:Int)},true)
  else if(gz ol t1).1.ay<(gz ol t1).1.events.size then(aD x u (gz ol t1).1,eY,false)
  else(lQ (aD x u (gz ol t1).1) (gz ol t1).1.now (gz ol t1).1.out,{eY with mY:=(x.made:Int),idx:=((gz ol t1).1.ay:Int),text:=(gz ol t1).1.out},true)from rfl)
 go_in;go_upto_region 1 with fail;generalize w.alloc (cells aU 64)=w1 at*;go_upto_if 12 with(fail)
 go_cut [12]from 8 to 37 (λ_ wx=>sv=false/\gF wx xb tb 138 pc ol (aD x u t1) kv/\Kp (Aq xb tb kv) w wx/\wx.heap[w.heap.size]? =some (cells aU 64 (0,0)))
 case first=>
  by_cases q0:t.ay=0
  ·have bx:(t.ay:Int)=0:=oQ;have Z:=ag (HT.trans (aq q0));by_cases q1:0<=t.at_
   ·have E1:=ag (oB w1.drew (R.1.aw ((Kp.refl _ _).drewN 1)).tZ oQ);go_upto_region 2 with fail;go_region_held3 (λw'=>w'.cell? ⟨tb,u*45+2,none⟩=some (int i64 t.at_)) (first|exact c2|exact HS) ((go_at_call 191;refine cF E1 ?_;have HS:=ag c2))
    have I:Kp bA w1 w1.drew:=(Kp.refl _ _).drewN 1;have h2:=R.1.aw I;have a0:=I.at_ U (λx=>x);generalize w1.drew=w2 at*;cases q2:t.at_ !=(x.made:Int)-1 with
    |true=>
     have E:=HV.out;simp only[q0,q1,(cX q2:t.at_≠(x.made:Int)-1),decide_true,fC,ne_eq,not_false_eq_true]at E;subst E;have ER:=ag (o_ w2 h2 oQ 14);have F:=bw h2 (R.2.2.2.1.trans I);have HF:=ag (HU.trans (aq rfl));go_wp;refine b9 ER ?_;intro w4 X;have vU:=X.at_ a0 (λx=>x);have HQ:=ag (jh.eV (F.2.mono gM) ((jh.refl F.1).aw X) vU (bU (kh x 14)));have lH:=an w4 w.heap.size aU (bU (kh x 14)) 64 (0,0) vU;go_wp2_with (refine bJ (bU (kh x 14)) vU bh rfl (du _) ?_);refine aJ (bQ rfl _ _ w.heap.size (kh x 14) rfl lH) rfl ?_;rw[HF];exact⟨rfl,HQ⟩
    |false=>?_
    have E:=HV.out;simp only[(cX q2:¬t.at_≠(x.made:Int)-1),decide_false,Bool.and_false]at E;subst E;have EL:=ag (CQ w2 h2.tZ hk R.2.1.JK);have Xb:(fy x.kept).Wf:=by have:=fW.1;rw[Z]at this;exact this
    have sI:=(by rw[dp Xb];exact dh:(prog.info? 95).map (·.size)=some (aN (fy x.kept)).length)
    have sL:=dp Xb;have sO:=tG (fy x.kept);have Xa:=h2.JJ;have O:∀W,gF W xb tb 138 pc ol x kv->gF (W.setRow tb (putAt (dN x.ai).toArray (u*45+6) (aN (fy x.kept)))) xb tb 138 pc ol (aD x u t1) kv:=by
     intro W hW;rw[Z];exact hW.UQ (t':={t with now:=fy x.kept}) R.2.2.1 Xb 6 (aN (fy x.kept)) oQ (xK (t':={t with now:=fy x.kept}) a5 Xb rfl rfl)
    have hX:=R.2.2.2.1.trans I;have ab:=ag (λW hW=>hW.uS:∀W,gF W xb tb 138 pc ol x kv->W.heap[tb]? =some (cells (dN x.ai).toArray 173 (0,0)));generalize (dN x.ai).toArray=TA at*;generalize a8:aN (fy x.kept)=Y at*;have F:=bw h2 hX;go_wp;refine b9 EL ?_;intro w4 X;have h4:=F.1.aw X;have ap:=ab _ h4;have RV:u*45+6+Y.length<=TA.size:=by rw[Xa,sL];omega
    have hZ:=bw h4 (F.2.trans X);go_wp2_with (refine jw rfl 95 (tmp 37) (tmp 35) rfl tb (u*45+6) Y rfl rfl 173 TA ap sI RV sO ?_);simp only[Act.put];go_meet;refine⟨by first|rfl|trivial,(ag O) _ hZ.1,(hZ.2.mono gM).setRow (λ_=>inr (inl rfl)) _,?_⟩;rw[cN _ _ _ _ oQ];exact X.at_ a0 (λx=>x)
   have E:=HV.out;simp only[q1,decide_false,Bool.and_false,mF]at E;subst E;go_upto_region 2 with fail;go_quiet (fail);rename_i nq;have I:Kp bA w1 _:=(Kp.refl _ _).drewN nq;have h2:=R.1.aw I;generalize w1.drewN nq=w2 at*;have EL:=ag (CQ w2 h2.tZ hk R.2.1.JK);have Xb:(fy x.kept).Wf:=by have:=fW.1;rw[Z]at this;exact this
   have sI:=(by rw[dp Xb];exact dh:(prog.info? 95).map (·.size)=some (aN (fy x.kept)).length)
   have sL:=dp Xb;have sO:=tG (fy x.kept);have Xa:=h2.JJ;have O:∀W,gF W xb tb 138 pc ol x kv->gF (W.setRow tb (putAt (dN x.ai).toArray (u*45+6) (aN (fy x.kept)))) xb tb 138 pc ol (aD x u t1) kv:=by
    intro W hW;rw[Z];exact hW.UQ (t':={t with now:=fy x.kept}) R.2.2.1 Xb 6 (aN (fy x.kept)) oQ (xK (t':={t with now:=fy x.kept}) a5 Xb rfl rfl)
   have hX:=R.2.2.2.1.trans I;have ab:=ag (λW hW=>hW.uS:∀W,gF W xb tb 138 pc ol x kv->W.heap[tb]? =some (cells (dN x.ai).toArray 173 (0,0)));generalize (dN x.ai).toArray=TA at*;generalize a8:aN (fy x.kept)=Y at*;have F:=bw h2 hX;go_wp;refine b9 EL ?_;intro w4 X;have h4:=F.1.aw X;have ap:=ab _ h4;have RV:u*45+6+Y.length<=TA.size:=by rw[Xa,sL];omega
   have vU:=X.at_ (I.at_ U (λx=>x)) (λx=>x);have hZ:=bw h4 (F.2.trans X);go_wp2_with (refine jw rfl 95 (tmp 37) (tmp 35) rfl tb (u*45+6) Y rfl rfl 173 TA ap sI RV sO ?_);simp only[Act.put];go_meet;refine⟨by first|rfl|trivial,(ag O) _ hZ.1,(hZ.2.mono gM).setRow (λ_=>inr (inl rfl)) _,?_⟩;rw[cN _ _ _ _ oQ];exact vU
  have bx:¬(t.ay:Int)=0:=oQ;have E:=HV.out;simp only[q0,decide_false,mF]at E;subst E;have HZ:=ag R;go_wp2;go_meet;refine⟨by first|rfl|trivial,?_,HZ.2.2.2.1.mono gM,U⟩;rw[(ag (HT.trans (ax q0))),HZ.2.2.2.2];exact HZ.1
 case rest=>
  obtain⟨rfl,hC,KC,bk⟩:=hcut;have HF:=ag (HU.trans ((ax dy).trans HE));have EF:=ag (GR wc hC a3 bt fW oQ (by rw[a2];exact a4));have be:(gz ol t1).1.now.Wf/\(gz ol t1).1.out.size<=2000000000/\(gz ol t1).1.ay<=2000:=by
   have b8:=mq a3 t1.now (af t1.events t1.ay);have bc:=(rh (ol:=ol) fW (af t1.events t1.ay)).1;have cc:t1.out.size<=1000000000:=by rw[a2];exact a4
   unfold gz;split
   ·exact⟨fW.1,by simp only;omega,by simp only;omega⟩
   split
   ·exact⟨fW.1,by simp only;omega,by simp only;omega⟩
   refine⟨bc,?_,by simp only;omega⟩;simp only[jN];omega
  have br:=nO x u t1 (gz ol t1).1;rw[br]at EF;have ba:=R.2.1.ack u (gz ol t1).1;have Q:=t_ aS (gz ol t1).1;generalize gz ol t1=ff at*;have⟨t2,fe⟩:=ff;simp only at*;have⟨fw,fo,ffi⟩:=be;have F:=bw hC KC;go_wp;refine b9 EF ?_;rintro w5 ⟨h5,K5⟩;have rW:=K5.at_ bk (λs=>by have:=aa _ s;omega);have KA:=F.2.trans' K5 (λ_ _ s=>s);have b2:w5.cell? ⟨tb,u*45+5,none⟩=some _:=h5.fG Q oQ;have b1:w5.cell? ⟨tb,u*45+1,none⟩=some _:=h5.fG Q oQ;cases q3:fe !=0 with
  |true=>
   have HZ:=ag (HF.trans (aq q3));have ER:=ag (o_ w5 h5 (by exact bz bi oQ) fe);have bo:kh (aD x u t2) fe=kh x fe:=rfl;rw[bo]at ER;have F:=bw h5 KA;go_wp21;refine b9 ER ?_;intro J K6;have h6:=F.1.aw K6;have KB:=F.2.trans' K6 gM;have vh:=K6.at_ rW (λx=>x);generalize kh x fe=RF at*;have a1:=ak J (cells aU 64);have Vw:=an (J.alloc (cells aU 64)) J.heap.size aU (bU RF) 64 (0,0) a1;have K7:=rQ J (cells aU 64) (bU RF);have h7:=h6.aw K7;have aj:=K7.at_ vh (λx=>x);have KC:=KB.trans' K7 gM;have iL:=aR vh;have cg:=KB.size;go_upto_region 8 with(refine bJ (bU RF) a1 bh rfl (du _) ?_);generalize (J.alloc (cells aU 64)).setRow J.heap.size (bU RF)=G at*;generalize J.heap.size=rb at*;have aI:G.cell? ⟨tb,u*45+5,none⟩=some _:=h7.fG Q oQ;have b3:G.frozen? ⟨rb,2,none⟩=false:=by simp[World.frozen?,Vw]
   have ce:G.cell? ⟨rb,2,none⟩=some (int i64 RF.idx):=dG Vw rfl;have BP:(G.setCell ⟨rb,2,none⟩ (int i64 t2.ay)).heap[rb]? =some (cells (bU {RF with idx:=(t2.ay:Int)}) 64 (0,0)):=by rw[ar _ Vw,ZP]
   have am:(G.setCell ⟨rb,2,none⟩ (int i64 t2.ay)).heap[w.heap.size]? =some (cells aU 64 (0,0)):=by
    rw[lS _ _ _ _ (by show w.heap.size≠rb;omega)];exact aj
   have h8:=h7.Q_ Vw (inl rfl) 2 (int i64 t2.ay);have K8:Kp _ _ (G.setCell ⟨rb,2,none⟩ (int i64 t2.ay)):=KC.setCell (p:=⟨rb,2,none⟩) (λx=>by simp only at x;omega) _;have F:=bw h8 K8;go_upto_region 9 with fail;generalize G.setCell ⟨rb,2,none⟩ (int i64 t2.ay)=w8 at*;generalize b4:({RF with idx:=(t2.ay:Int)}:Rp)=RR at*;have HQ:=ag (jh.eV F.2 (jh.refl F.1) am (bU RR));have lH:=an w8 w.heap.size aU (bU RR) 64 (0,0) am;go_wp2_with (first|refine gV BP hdr fX bh ?_|refine bJ (bU RR) am bh rfl (du _) ?_);refine aJ (bQ rfl _ _ w.heap.size RR rfl lH) rfl ?_;rw[HZ];exact⟨rfl,HQ.out⟩
  |false=>?_
  have bb:fe=0:=cX q3;subst bb;have HZ:=ag (HF.out.trans (ax dy));by_cases q4:t2.ay<t2.events.size
  ·have HY:=ag (HZ.out.trans (aq q4));have b0:(t2.ay:Int)<(t2.events.size:Int):=oQ;have F:=bw h5 KA;go_upto_region 10 with fail;go_quiet (fail);rename_i nq;have I:Kp bA w5 _:=(Kp.refl _ _).drewN nq;have DM:=bw (F.out.1.aw I) (F.out.2.trans' I gM);have vh:=I.at_ rW (λx=>x);generalize w5.drewN nq=J at*;have HQ:=ag (jh.eV DM.out.2 (jh.refl DM.out.1) vh aU);have lH:=an J w.heap.size aU aU 64 (0,0) vh;go_wp2_with (refine bJ aU vh bh rfl (du eY) ?_);refine aJ (bQ rfl _ _ w.heap.size eY rfl lH) rfl ?_;rw[HY.out];exact⟨rfl,HQ.out⟩
  have HY:=ag (HZ.out.trans (ax q4));have b0:¬(t2.ay:Int)<(t2.events.size:Int):=oQ;have F:=bw h5 KA;go_upto_region 10 with fail;go_quiet (fail);rename_i nq;have I:Kp bA w5 _:=(Kp.refl _ _).drewN nq;have h6:=F.out.1.aw I;have KB:=F.out.2.trans' I gM;have vh:=I.at_ rW (λx=>x);generalize w5.drewN nq=J at*;have KE:Kp bA J J.drew:=(Kp.refl _ _).drewN 1;have EP:=ag (vT J.drew (h6.aw KE) ba t2.now fw t2.out oQ);have a6:∀w':World,w'.heap[tb]? =some (cells (dN (aD x u t2).ai).toArray 173 (0,0))->w'.cell? ⟨tb,u*45+42,none⟩=some (string t2.out):=by
   intro w' hb;rw[ke hb];exact(kg lR 45 (aD x u t2).ai u t2 42 (λa ha=>gE (h6.tw a ha)) Q oQ).trans (oZ fw 0)
  have bg:∀w':World,w'.heap[tb]? =some (cells (dN (aD x u t2).ai).toArray 173 (0,0))->∀j v,(aN t2.now)[j]? =some v->w'.cell? ⟨tb,u*45+6+j,none⟩=some v:=by
   intro w' hb j v hj;have hl:=(aM.1 hj).1;rw[dp fw]at hl;rw[ke hb,oe];exact(kg lR 45 (aD x u t2).ai u t2 (6+j) (λa ha=>gE (h6.tw a ha)) Q oQ).trans (Ox j v hj)
  have fI:(prog.info? 95).map (·.size)=some (aN t2.now).length:=by rw[dp fw];exact dh
  have D:J.drew.heap[tb]? =_:=h6.uS;have O:(lQ (aD x u t2) t2.now t2.out).ai[u]? =_:=Q;have a9:(dN (lQ (aD x u t2) t2.now t2.out).ai).toArray=(dN (aD x u t2).ai).toArray:=rfl;have aO:(lQ (aD x u t2) t2.now t2.out).made=x.made+1:=rfl;generalize lQ (aD x u t2) t2.now t2.out=XX at*;generalize (dN (aD x u t2).ai).toArray=TA at*;generalize aN t2.now=Y at*;have DM:=bw h6 KB;go_upto_region 12 with fail;have bm:=KE.at_ vh (λx=>x);refine aY (λw'=>w'.heap[tb]? =some (cells TA 173 (0,0))) bZ ?_;refine bR 0 63 (pointer (some ⟨xb,0,none⟩)) D ?_;refine bR 1 64 (pointer (some ⟨tb,u*45,none⟩)) D ?_;refine bR 2 65 (pointer (some ⟨tb,u*45,none⟩)) D ?_;refine bR 3 66 (pointer (some ⟨tb,u*45+6,none⟩)) D ?_;refine fh 4 67 (agg Y.toArray) rfl (λw' hS=>eT 95 (tmp 66) rfl tb (u*45+6) rfl Y ds (bg w' hS) hds iT fI) D ?_;refine bR 5 68 (pointer (some ⟨tb,u*45,none⟩)) D ?_;refine bR 6 69 (pointer (some ⟨tb,u*45,none⟩)) D ?_;refine bR 7 70 (pointer (some ⟨tb,u*45+42,none⟩)) D ?_;refine fh 8 71 (string t2.out) rfl (λw' hS=>by simp[execOp,Act.eval,go_sem,a6 w' hS]) D ?_;refine pf 9 ?_;refine er (some 72) rfl 135 #[pointer (some ⟨xb,0,none⟩),agg Y.toArray,string t2.out] wX (tuple #[]) _ EP.out ?_;intro G q7;have aj:=q7.at_ aa bm;have KF:=(DM.out.2.trans' KE gM)
  have⟨RY,h7,n7,K7⟩:=q7;refine⟨?_,?_⟩
  ·rw[<-a9];exact h7.uS
  refine bG bZ (bH ?_) _;simp only[Act.put,pA,pB,pC];have q7:jh _ _ _ _ _ _ _ _ _:=⟨RY,h7,n7,K7⟩
  have aI:G.cell? ⟨tb,u*45+5,none⟩=some _:=h7.fG O oQ;have a7:G.cell? ⟨tb,u*45+42,none⟩=some _:=(h7.fG O oQ).trans (oZ fw 0);have KG:Kp bA G G.drew:=(Kp.refl _ _).drewN 1;have EA:=ag (oB G.drew (h7.aw KG).tZ (by rw[aO];omega));have HM:=ag (show((XX.made:Int)-1)=(x.made:Int)by rw[aO];omega);generalize ZL:({eY with mY:=(XX.made:Int)-1,idx:=(t2.ay:Int),text:=t2.out}:Rp)=RP at*;have HR:=ag ZL;have ao:=KG.at_ aj (λx=>x);have HQ:=ag (jh.eV KF (q7.aw KG) ao (bU RP));have lH:=an G.drew w.heap.size aU (bU RP) 64 (0,0) ao;go_upto_region 13 with fail;have D:G.drew.cell? ⟨tb,u*45+5,none⟩=some (int i64 t2.ay)/\G.drew.cell? ⟨tb,u*45+42,none⟩=some (string t2.out):=⟨aI,a7⟩
  refine aY (λw'=>w'.cell? ⟨tb,u*45+5,none⟩=some (int i64 t2.ay)/\w'.cell? ⟨tb,u*45+42,none⟩=some (string t2.out)) bZ ?_;refine bR 0 73 (pointer (some ⟨xb,0,none⟩)) D ?_;refine bR 1 74 (pointer (some ⟨xb,0,none⟩)) D ?_;refine bR 2 75 (pointer (some ⟨xb,5,none⟩)) D ?_;refine bR 4 77 (pointer (some ⟨tb,u*45,none⟩)) D ?_;refine bR 5 78 (pointer (some ⟨tb,u*45,none⟩)) D ?_;refine bR 6 79 (pointer (some ⟨tb,u*45+5,none⟩)) D ?_;refine fh 7 80 (int i64 t2.ay) rfl (λw' hS=>by simp[execOp,Act.eval,go_sem,hS.1]) D ?_;refine bR 8 81 (pointer (some ⟨tb,u*45,none⟩)) D ?_;refine bR 9 82 (pointer (some ⟨tb,u*45,none⟩)) D ?_;refine bR 10 83 (pointer (some ⟨tb,u*45+42,none⟩)) D ?_;refine fh 11 84 (string t2.out) rfl (λw' hS=>by simp[execOp,Act.eval,go_sem,hS.2]) D ?_;refine pf 3 ?_;refine er (some 76) rfl 191 #[pointer (some ⟨xb,5,none⟩)] wX (int i64 ((XX.made:Int)-1)) _ EA.out ?_;rintro w9 rfl;refine⟨D,?_⟩;have Kq:(G.drew.setRow w.heap.size (bU RP)).cell? ⟨tb,u*45+5,none⟩=some (int i64 t2.ay)/\(G.drew.setRow w.heap.size (bU RP)).cell? ⟨tb,u*45+42,none⟩=some (string t2.out):=by
   unfold World.cell? at*;simp only at*;rw[cN _ _ _ _ (oQ:tb≠w.heap.size)];exact D
  refine iU 12 85 (agg (bU RP)) rfl (λw' _=>eU 64 #[(1,.tmp 76),(2,.tmp 80),(5,.tmp 84)] rfl (bU RP) [(1,int i64 ((XX.made:Int)-1)),(2,int i64 t2.ay),(5,string t2.out)] rM (by rw[<-HR.out];kernel_rfl)) D ?_;refine cQ 13 bZ rfl rfl 64 (tmp 4) (tmp 85) rfl rfl w.heap.size (bU RP) rM rM 64 aU ao bh rfl (du _) Kq ?_;refine iU 14 5 (bool true) rfl (λw' _=>by rfl) Kq ?_;refine bG bZ (bH ?_) _;simp only[Act.put,pA,pB,pC];go_wp;refine aJ (bQ rfl _ _ w.heap.size RP rfl lH) rfl ?_;rw[HY.out,<-HM.out,HR.out];exact⟨rfl,HQ.out⟩
namespace Ch
structure GoP ol(x:Sv)t:Prop where
 hk:0<x.kept.length
 ok:(fy x.kept).Ok
 nz:∀k,k<(fy x.kept).tm.size->1<=af (fy x.kept).tm k
 wt:(eP ol 17 (tick (fy x.kept)) []).isSome=true
 now:(sq x t).now.Ok
 fi:t.ay<=1000
 ou:t.out.size<=1000000000
theorem M9 ol x u t:(gQ ol x u t).1.turn=x.turn:=by
 unfold gQ;split
 ·rfl
 unfold uT;split
 ·rfl
 unfold vV;split
 ·rfl
 split<;>rfl
theorem Rc ol x u t:(gQ ol x u t).1.ai.length=x.ai.length:=by
 unfold gQ;split
 ·rfl
 grind[uT,vV,aD,lQ]
end Ch
theorem M_ w{xb}{tb}{pc}{ol}{x}{kv}(h:gF w xb tb 138 pc ol x kv)(J:x.Bd)(O:ol.Ok){u}{t}(hu:x.ai[u]? =some t)(F:GoP ol x t):
 Calls prog 192 #[pointer (some ⟨xb,0,none⟩),pointer (some ⟨tb,u*45,none⟩)] w λr w'=>r=returned (tuple #[agg (bU (gQ ol x u t).2.1),bool (gQ ol x u t).2.2])/\jh w w' xb tb 138 pc ol kv (gQ ol x u t).1:=by
 have G:=h.low;have X:=kG w (cells aU 64);have I:=ak w (cells aU 64);have Y:=h.aw X;have c0:(w.alloc (cells aU 64)).cell? ⟨tb,u*45,none⟩=some _:=Y.fG hu (j:=0) oQ;have HU:=ag (show gQ ol x u t=if t.kind=2 then((xk ol x).1,(xk ol x).2,true)else uT ol x u t from rfl);generalize gQ ol x u t=MS at*;by_cases q:t.kind=2
 ·have ET:=ag (M8 _ Y J O F.hk F.ok F.nz F.wt);have R:=ag (HU.trans (aq q));generalize xk ol x=E at*;go_in;go_upto_region 1 with fail;generalize w.alloc (cells aU 64)=w1 at*;go_wp;refine b9 ET ?_;intro w2 Q;have D:=Q.at_ G I;have U:=ag (jh.eV (X.mono gM) Q D (bU E.2));have Z:=an w2 w.heap.size aU (bU E.2) 64 (0,0) D;go_wp2_with (refine bJ (bU E.2) D bh rfl (du _) ?_);refine aJ (bQ rfl _ _ w.heap.size E.2 rfl Z) rfl ?_;rw[R];exact⟨rfl,U⟩
 have ES:=ag (GS _ Y J O F.hk hu F.now F.fi F.ou);have R:=ag (HU.trans (ax q));generalize uT ol x u t=E at*;go_in;go_upto_region 1 with fail;generalize w.alloc (cells aU 64)=w1 at*;go_wp;refine b9 ES ?_;intro w2 Q;have D:=Q.at_ G I;have U:=ag (jh.eV (X.mono gM) Q D (bU E.2.1));have Z:=an w2 w.heap.size aU (bU E.2.1) 64 (0,0) D;go_wp2_with (refine bJ (bU E.2.1) D bh rfl (du _) ?_);refine aJ (bQ rfl _ _ w.heap.size E.2.1 rfl Z) rfl ?_;rw[R];exact⟨rfl,U⟩
theorem CV w{xb}{tb}{pc}{ol}{x}{kv}(h:gF w xb tb 138 pc ol x kv)(F:x.Bd)(aI:ol.Ok){u}{t}(hu:x.ai[u]? =some t)(hg:t.drawn=true->GoP ol x t):
 Calls prog 141 #[pointer (some ⟨xb,0,none⟩),pointer (some ⟨tb,u*45,none⟩)] w λr w'=>r=returned (tuple #[agg (bU (pV ol x u t).2.1),bool (pV ol x u t).2.2])/\jh w w' xb tb 138 pc ol kv (pV ol x u t).1:=by
 have⟨dr,hdr,fX⟩:=o0;have ad:=h.low;have a7:=aR h.uS;have a8:=aR h.cj;have K1:=kG w (cells aU 64);have D:=ak w (cells aU 64);have J:=h.aw K1;have ap:=(aM.1 hu).1;have am:=h.tWf hu;have a5:=F.tick;have a6:=F.turn;have c3:(w.alloc (cells aU 64)).cell? ⟨tb,u*45+3,none⟩=some _:=J.fG hu oQ
 have HU:=ag (show pV ol x u t=if t.drawn=false then(pU x u t,eY,false)
  else if t.cD≠x.turn then(x,eY,false)
  else({(gQ ol x u t).1 with turn:=if(gQ ol x u t).2.2 then(gQ ol x u t).1.turn+1 else(gQ ol x u t).1.turn},(gQ ol x u t).2)from rfl)
 generalize pV ol x u t=TT at*;cases qd:t.drawn with
 |false=>
  rw[qd]at c3;have HF:=ag (HU.trans (aq qd));have aO:=hu;have f3:=J.sn (u*45+3);have I:=J.Mt (t':={t with drawn:=true}) hu am 3 oQ (bool true) (vR (t':={t with drawn:=true}) rfl rfl 3 oQ _ rfl);have Z:Kp _ _ ((w.alloc (cells aU 64)).setCell ⟨tb,u*45+3,none⟩ (bool true)):=(K1.mono (S':=Aq xb tb kv) gM).setCell (p:=⟨tb,u*45+3,none⟩) (λ_=>inr (inl rfl)) _;have E:((w.alloc (cells aU 64)).setCell ⟨tb,u*45+3,none⟩ (bool true)).heap[w.heap.size]? =some (cells aU 64 (0,0)):=by
   rw[lS _ _ _ _ (by show w.heap.size≠tb;omega)];exact D
  clear HU h J hu aO hg F K1 D;go_in;go_upto_region 1 with fail;generalize w.alloc (cells aU 64)=w1 at*;go_upto_region 3 with fail;generalize w1.setCell ⟨tb,u*45+3,none⟩ (bool true)=Y at*;have aS:Y.cell? _=some (int i64 x.bj):=I.cell 10;have ab:=t_ ap {t with drawn:=true};have c4:Y.cell? ⟨tb,u*45+4,none⟩=some (int i64 t.cD):=I.fG ab oQ;have f4:=I.sn (u*45+4);have h3:=I.Mt (t':={t with drawn:=true,cD:=x.bj}) ab am 4 oQ (int i64 x.bj) (vR (t:={t with drawn:=true}) (t':={t with drawn:=true,cD:=x.bj}) rfl rfl 4 oQ _ rfl);rw[nO]at h3;have K3:Kp _ _ (Y.setCell ⟨tb,u*45+4,none⟩ (int i64 x.bj)):=Z.setCell (p:=⟨tb,u*45+4,none⟩) (λ_=>inr (inl rfl)) _;have oM:(Y.setCell ⟨tb,u*45+4,none⟩ (int i64 x.bj)).heap[w.heap.size]? =some (cells aU 64 (0,0)):=by
   rw[lS _ _ _ _ (by show w.heap.size≠tb;omega)];exact E
  clear I Z E ab c3 f3;go_upto_region 4 with fail;generalize Y.setCell ⟨tb,u*45+4,none⟩ (int i64 x.bj)=G at*;have a1:G.cell? _=some (int i64 x.bj):=h3.cell 10;have fx:=h3.free 10;have ef:((x.bj+1:Nat):Int)=(x.bj:Int)+1:=oQ;have Q:=h3.CS (x':=pU x u t) rfl rfl 10 (int i64 ((x.bj:Int)+1)) (by rw[<-ef];rfl);have K4:Kp _ _ (G.setCell ⟨xb,10,none⟩ (int i64 ((x.bj:Int)+1))):=K3.setCell (p:=⟨xb,10,none⟩) (λ_=>inl rfl) _;have U:(G.setCell ⟨xb,10,none⟩ (int i64 ((x.bj:Int)+1))).heap[w.heap.size]? =some (cells aU 64 (0,0)):=by
   rw[lS _ _ _ _ (by show w.heap.size≠xb;omega)];exact oM
  clear h3 K3 oM aS c4 f4 ef;go_upto_region 5 with fail;generalize G.setCell ⟨xb,10,none⟩ (int i64 ((x.bj:Int)+1))=w4 at*;have HQ:=ag (jh.eV K4 (jh.refl Q) U aU);have lH:=an w4 w.heap.size aU aU 64 (0,0) U;clear Q K4 a1 fx;go_wp2_with (refine bJ aU U bh rfl (du eY) ?_);refine aJ (bQ rfl _ _ w.heap.size eY rfl lH) rfl ?_;rw[HF];exact⟨rfl,HQ⟩
 |true=>?_
 rw[qd]at c3;have YJ:=hg qd;have HV:=ag (HU.trans (ax (by rw[qd];simp)));have c4:(w.alloc (cells aU 64)).cell? ⟨tb,u*45+4,none⟩=some _:=J.fG hu oQ;have a0:(w.alloc (cells aU 64)).cell? _=some (int i64 x.turn):=J.cell 11;by_cases qt:t.cD=x.turn
 ·have HF:=ag (HV.trans (ax (by simp[qt])));have HE:=ag (λW hW=>M_ W (x:=x) (xb:=xb) (tb:=tb) (pc:=pc) (kv:=kv) hW F aI hu YJ);have aj:=M9 ol x u t;have hq:(t.cD:Int)=x.turn:=oQ;have HH:=bw J K1;generalize gQ ol x u t=MS at*;clear HU HV h J hu hg F K1 YJ qd;go_in;go_upto_region 1 with fail;generalize w.alloc (cells aU 64)=w1 at*;go_upto_region 6 with fail;go_quiet (fail);rename_i nq;have O:Kp bA w1 _:=(Kp.refl _ _).drewN nq;have I:=HH.1.aw O;have Z:=HH.2.trans O;have E:=O.at_ D (λx=>x);generalize w1.drewN nq=Y at*;have EM:=ag (HE Y I);have HK:=ag Z;clear HE I Z O D c3 c4 a0 HH hq qt;go_wp;refine b9 EM ?_;intro G q3;have oM:=q3.at_ ad E;have R:=ak G (cells aU 64);have aa:=an (G.alloc (cells aU 64)) G.heap.size aU (bU MS.2.1) 64 (0,0) R;have K4:=rQ G (cells aU 64) (bU MS.2.1);have q4:=q3.aw K4;have U:=K4.at_ oM (λx=>x);have a3:xb<G.heap.size:=by have:=aR oM;omega
  have a4:=aR oM;clear EM q3 K4 oM E;go_upto_region 9 with(refine bJ (bU MS.2.1) R bh rfl (du _) ?_);generalize (G.alloc (cells aU 64)).setRow G.heap.size (bU MS.2.1)=w4 at*;generalize G.heap.size=rb at*;have⟨X,rp,dn⟩:=MS;simp only at*;have⟨kv4,Q,n4,KX⟩:=q4;cases dn with
  |true=>
   have a2:w4.cell? _=some (int i64 X.turn):=Q.cell 11;have fx:=Q.free 11;have ef:((X.turn+1:Nat):Int)=(X.turn:Int)+1:=oQ;have h5:=Q.CS (x':={X with turn:=X.turn+1}) rfl rfl 11 (int i64 ((X.turn:Int)+1)) (by rw[<-ef];rfl);have q5:jh _ _ _ _ _ _ _ _ _:=⟨kv4,h5,n4,KX.setCell (p:=⟨xb,11,none⟩) (λ_=>inl rfl) _⟩
   have rW:(w4.setCell ⟨xb,11,none⟩ (int i64 ((X.turn:Int)+1))).heap[w.heap.size]? =some (cells aU 64 (0,0)):=by
    rw[lS _ _ _ _ (by show w.heap.size≠xb;omega)];exact U
   have ao:(w4.setCell ⟨xb,11,none⟩ (int i64 ((X.turn:Int)+1))).heap[rb]? =some (cells (bU rp) 64 (0,0)):=by
    rw[lS _ _ _ _ (by show rb≠xb;omega)];exact aa
   have hX:X.turn<=1000000000000000:=oQ;clear Q n4 KX h5 R U aa ef aj;go_upto_region 11 with fail;generalize w4.setCell ⟨xb,11,none⟩ (int i64 ((X.turn:Int)+1))=w5 at*;have HQ:=ag (jh.eV (HK.mono gM) q5 rW (bU rp));have lH:=an w5 w.heap.size aU (bU rp) 64 (0,0) rW;clear q5 a2 fx;go_wp2_with (first|refine gV ao hdr fX bh ?_|refine bJ (bU rp) rW bh rfl (du _) ?_);refine aJ (bQ rfl _ _ w.heap.size rp rfl lH) rfl ?_;rw[HF];exact⟨rfl,HQ⟩
  |false=>?_
  have q4:jh _ _ _ _ _ _ _ _ _:=⟨kv4,Q,n4,KX⟩
  have HQ:=ag (jh.eV (HK.mono gM) q4 U (bU rp));have lH:=an w4 w.heap.size aU (bU rp) 64 (0,0) U;clear Q n4 KX q4 R aj;go_wp2_with (first|refine gV aa hdr fX bh ?_|refine bJ (bU rp) U bh rfl (du _) ?_);refine aJ (bQ rfl _ _ w.heap.size rp rfl lH) rfl ?_;rw[HF];exact⟨rfl,HQ⟩
 have HF:=ag (HV.trans (aq qt));have hq:¬(t.cD:Int)=x.turn:=oQ;have HH:=bw J K1;clear HU HV h J hu hg F K1 YJ qd;go_in;go_upto_region 1 with fail;generalize w.alloc (cells aU 64)=w1 at*;go_upto_region 6 with fail;go_quiet (fail);rename_i nq;have O:Kp bA w1 _:=(Kp.refl _ _).drewN nq;have I:=HH.1.aw O;have Z:=HH.2.trans O;have E:=O.at_ D (λx=>x);generalize w1.drewN nq=Y at*;have HQ:=ag (jh.eV (Z.mono gM) (jh.refl I) E aU);have lH:=an Y w.heap.size aU aU 64 (0,0) E;clear I Z O D HH;go_wp2_with (refine bJ aU E bh rfl (du eY) ?_);refine aJ (bQ rfl _ _ w.heap.size eY rfl lH) rfl ?_;rw[HF];exact⟨rfl,HQ⟩
namespace Ch
structure StP ol(x:Sv)(t:Tk):Prop where
 rd:t.kind=3->t.steps<=1000/\(2<=t.steps->∃(k:Nat) (v:Vr),x.kept[k]? =some v/\t.pinned=(v.num:Int)/\0<v.pins/\∀ j u,x.kept[j]? =some u->u.num=v.num->j=k)
 go:t.kind≠3->t.kind≠4->t.drawn=true->GoP ol x t
theorem Re ol x u t:(pV ol x u t).1.ai.length=x.ai.length:=by
 grind[pV,pU,aD,Rc]
theorem US ol x u t:(m_ ol x u t).1.ai.length=x.ai.length:=by
 grind[m_,pT,pS,aD,Re]
end Ch
theorem JL w{xb}{tb}{pc}{ol}{x}{kv}(h:gF w xb tb 138 pc ol x kv)(I:x.Bd)(R:ol.Ok){u}{t}(hu:x.ai[u]? =some t)(hg:StP ol x t):
 Calls prog 91 #[pointer (some ⟨xb,0,none⟩),pointer (some ⟨tb,u*45,none⟩)] w λr w'=>r=returned (tuple #[agg (bU (m_ ol x u t).2.1),bool (m_ ol x u t).2.2])/\jh w w' xb tb 138 pc ol kv (m_ ol x u t).1:=by
 have G:=h.low;have Z:=kG w (cells aU 64);have F:=ak w (cells aU 64);have J:=h.aw Z;have c0:(w.alloc (cells aU 64)).cell? ⟨tb,u*45,none⟩=some _:=J.fG hu (j:=0) oQ;have c2:(w.alloc (cells aU 64)).cell? ⟨tb,u*45+2,none⟩=some _:=J.fG hu oQ;have HU:=ag (show m_ ol x u t=if t.kind=3 then pT ol x u t else if t.kind=4 then(x,pR x t.at_,true)else pV ol x u t from rfl);generalize m_ ol x u t=MS at*;by_cases q:t.kind=3
 ·have ET:=ag (GQ _ J I R hu (hg.rd q).1 (hg.rd q).2);have O:=ag (HU.trans (aq q));generalize pT ol x u t=E at*;go_in;go_upto_region 1 with fail;generalize w.alloc (cells aU 64)=w1 at*;go_wp;refine b9 ET ?_;intro Y X;have D:=X.at_ G F;have Q:=ag (jh.eV (Z.mono gM) X D (bU E.2.1));have U:=an Y w.heap.size aU (bU E.2.1) 64 (0,0) D;go_wp2_with (refine bJ (bU E.2.1) D bh rfl (du _) ?_);refine aJ (bQ rfl _ _ w.heap.size E.2.1 rfl U) rfl ?_;rw[O];exact⟨rfl,Q⟩
 by_cases q':t.kind=4
 ·have EP:=ag (UP _ J I t.at_);have O:=ag (HU.trans ((ax q).trans (aq q')));generalize pR x t.at_=E at*;have HH:=bw J Z;go_in;go_upto_region 1 with fail;generalize w.alloc (cells aU 64)=w1 at*;go_wp;refine b9 EP ?_;intro Y K2;have D:=K2.at_ F (λx=>x);have Q:=ag (jh.eV (HH.2.mono gM) ((jh.refl HH.1).aw K2) D (bU E));have U:=an Y w.heap.size aU (bU E) 64 (0,0) D;go_wp2_with (refine bJ (bU E) D bh rfl (du _) ?_);refine aJ (bQ rfl _ _ w.heap.size E rfl U) rfl ?_;rw[O];exact⟨rfl,Q⟩
 have ES:=ag (CV _ J I R hu (hg.go q q'));have O:=ag (HU.trans ((ax q).trans (ax q')));generalize pV ol x u t=E at*;go_in;go_upto_region 1 with fail;generalize w.alloc (cells aU 64)=w1 at*;go_wp;refine b9 ES ?_;intro Y X;have D:=X.at_ G F;have Q:=ag (jh.eV (Z.mono gM) X D (bU E.2.1));have U:=an Y w.heap.size aU (bU E.2.1) 64 (0,0) D;go_wp2_with (refine bJ (bU E.2.1) D bh rfl (du _) ?_);refine aJ (bQ rfl _ _ w.heap.size E.2.1 rfl U) rfl ?_;rw[O];exact⟨rfl,Q⟩
theorem Na w{xb}{tb}{pc}{ol}{x}{kv}(h:gF w xb tb 138 pc ol x kv)(aj:x.Bd)(ao:ol.Ok)u(hg:∀t,ub x u=some t->StP ol x t):
 Calls prog 63 #[pointer (some ⟨xb,0,none⟩),int i64 u] w λr w'=>r=returned (tuple #[agg (bU (cW ol x u).2.1),bool (cW ol x u).2.2.1,int i64 (cW ol x u).2.2.2])/\jh w w' xb tb 138 pc ol kv (cW ol x u).1:=by
 have⟨dr,hdr,fX⟩:=o0;have Z:=h.low;have a0:=aR h.uS;have a1:=aR h.cj;have R:=kG w (cells aU 64);have D:=ak w (cells aU 64);have J:=h.aw R;have O:=ag (yP _ J u);by_cases hc:0<=u/\u<(x.ai.length:Int)
 ·obtain⟨n,rfl⟩:∃n:Nat,u=(n:Int):=⟨u.toNat,oQ⟩
  have hn:n<x.ai.length:=oQ;obtain⟨t,hu⟩:∃t,x.ai[n]? =some t:=⟨_,au hn⟩
  have Ev:ub x (n:Int)=some t:=by unfold ub;rw[aq oQ];exact hu
  have eK:=hg t Ev;have F:(decide (0<=(n:Int))&&decide ((n:Int)<(x.ai.length:Int)))=true:=il;rw[F]at O;have x9:(w.alloc (cells aU 64)).cell? _=some (slice (some ⟨tb,0,none⟩) x.ai.length x.ai.length):=J.cell 9;have c0:(w.alloc (cells aU 64)).cell? ⟨tb,n*45,none⟩=some _:=J.fG hu (j:=0) oQ
  have HU:=ag (show cW ol x (n:Int)=if t.kind=0 then(x,eY,false,13)
   else(if(m_ ol x n t).2.2 then aD (m_ ol x n t).1 n iC else(m_ ol x n t).1,(m_ ol x n t).2.1,(m_ ol x n t).2.2,0)by unfold cW;rw[Ev];rfl)
  have aO:(n:Int)<x.ai.length:=oQ;generalize cW ol x (n:Int)=SS at*;by_cases q:t.kind=0
  ·have HF:=ag (HU.trans (aq q));have Q:=bw J R;go_in;go_upto_region 1 with fail;generalize w.alloc (cells aU 64)=w1 at*;have E:=ag (jh.eV (Q.2.mono gM) (jh.refl Q.1) D aU);have G:=an w1 w.heap.size aU aU 64 (0,0) D;go_wp;refine cF O ?_;go_wp2_with (refine bJ aU D bh rfl (du eY) ?_);refine aJ (az rfl _ _ w.heap.size 64 aU (0,0) dr rfl G hdr fX bh) rfl ?_;rw[HF];exact⟨rfl,E⟩
  have HV:=ag (HU.trans (ax q));have EM:=ag (JL _ J aj ao hu eK);have aI:=US ol x n t;generalize m_ ol x n t=U at*;go_in;go_upto_region 1 with fail;generalize w.alloc (cells aU 64)=w1 at*;go_wp;refine cF O ?_;go_wp21;refine b9 EM ?_;intro I q3;have oM:=q3.at_ Z D;have aa:=ak I (cells aU 64);have Y:=an (I.alloc (cells aU 64)) I.heap.size aU (bU U.2.1) 64 (0,0) aa;have K4:=rQ I (cells aU 64) (bU U.2.1);have q4:=q3.aw K4;have vU:=K4.at_ oM (λx=>x);have aS:=aR oM;go_upto_region 7 with(refine bJ (bU U.2.1) aa bh rfl (du _) ?_);generalize (I.alloc (cells aU 64)).setRow I.heap.size (bU U.2.1)=w4 at*;generalize I.heap.size=rb at*;have⟨X,rp,dn⟩:=U;simp only at*;have⟨kv4,h4,n4,KX⟩:=q4;cases dn with
  |true=>
   have am:n<X.ai.length:=oQ;obtain⟨t4,ab⟩:∃t,X.ai[n]? =some t:=⟨_,au am⟩
   have Xa:=h4.JJ;have ap:=h4.uS;have h5:=h4.UQ (t':=iC) ab qs 0 (lR iC) (by rw[gE (t:=iC) qs];exact aC _) (by rw[List.take_zero,kT,dA (by rw[gE (t:=iC) qs,gE (h4.tWf ab)];exact aC _),iz]);have q5:jh _ (w4.setRow tb (putAt (dN X.ai).toArray (n*45) (lR iC))) _ _ _ _ _ _ _:=⟨kv4,h5,n4,KX.setRow (λ_=>inr (inl rfl)) _⟩
   have rW:(w4.setRow tb (putAt (dN X.ai).toArray (n*45) (lR iC))).heap[w.heap.size]? =some (cells aU 64 (0,0)):=by
    rw[cN _ _ _ _ oQ];exact vU
   have ad:(w4.setRow tb (putAt (dN X.ai).toArray (n*45) (lR iC))).heap[rb]? =some (cells (bU rp) 64 (0,0)):=by
    rw[cN _ _ _ _ oQ];exact Y
   have RV:n*45+(lR iC).length<=(dN X.ai).toArray.size:=by rw[Xa,gE (t:=iC) qs];omega
   have sI:(prog.info? 173).map (·.size)=some (lR iC).length:=by rw[gE (t:=iC) qs];exact M0
   have sO:=GO iC;have sA:=JI;generalize (dN X.ai).toArray=TA at*;generalize lR iC=TL at*;have Vm:=ag sA;go_upto_region 9 with(refine jw rfl 173 (tmp 36) (tmp 35) rfl tb (n*45) TL rfl (by rw[Vm];rfl) 173 TA ap sI RV sO ?_);generalize w4.setRow tb (putAt TA (n*45) TL)=w5 at*;have E:=ag (jh.eV (R.mono gM) q5 rW (bU rp));have G:=an w5 w.heap.size aU (bU rp) 64 (0,0) rW;go_wp2_with (first|refine gV ad hdr fX bh ?_|refine bJ (bU rp) rW bh rfl (du _) ?_);refine aJ (az rfl _ _ w.heap.size 64 (bU rp) (0,0) dr rfl G hdr fX bh) rfl ?_;rw[HV];exact⟨rfl,E⟩
  |false=>?_
  have q4:jh _ _ _ _ _ _ _ _ _:=⟨kv4,h4,n4,KX⟩
  have E:=ag (jh.eV (R.mono gM) q4 vU (bU rp));have G:=an w4 w.heap.size aU (bU rp) 64 (0,0) vU;go_wp2_with (first|refine gV Y hdr fX bh ?_|refine bJ (bU rp) vU bh rfl (du _) ?_);refine aJ (az rfl _ _ w.heap.size 64 (bU rp) (0,0) dr rfl G hdr fX bh) rfl ?_;rw[HV];exact⟨rfl,E⟩
 have Ev:ub x u=none:=by
  unfold ub;split
  ·rw[List.getElem?_eq_none_iff];omega
  rfl
 have F:(decide (0<=u)&&decide (u<(x.ai.length:Int)))=false:=by
  rw[Bool.eq_false_iff];intro e;apply hc;simpa using e
 rw[F]at O;have HF:=ag (show cW ol x u=(x,eY,false,10)by unfold cW;rw[Ev]);generalize cW ol x u=SS at*;have Q:=bw J R;go_in;go_upto_region 1 with fail;generalize w.alloc (cells aU 64)=w1 at*;have E:=ag (jh.eV (Q.2.mono gM) (jh.refl Q.1) D aU);have G:=an w1 w.heap.size aU aU 64 (0,0) D;go_wp;refine cF O ?_;go_wp2_with (refine bJ aU D bh rfl (du eY) ?_);refine aJ (az rfl _ _ w.heap.size 64 aU (0,0) dr rfl G hdr fX bh) rfl ?_;rw[HF];exact⟨rfl,E⟩
namespace Ch
theorem yQ{e}(h:e.size<1\/4<e.size):j3 e=false:=by
 grind[j3]
theorem Fs{e i}(h:i<e.size)(hb:ez (af e i)=false):j3 e=false:=by
 grind[j3,ez,af]
theorem JM{e}(D:¬e.size<1)(E:¬ 4<e.size)(h:∀j,j<e.size->ez (af e j)=true):j3 e=true:=by
 grind[j3,ez,af]
end Ch
theorem wN{e:ByteArray}(h:¬e=⟨#[]⟩):e.toList.isEmpty=false:=by rw[<-decide_eq_emptyBytes];exact fB h
def vk(r:Rq):Array Value:=#[int i64 r.kind,string r.events,int i64 r.at_]
theorem JN w e:
 Calls prog 186 #[string e] w λr w'=>r=returned (bool (j3 e))/\w'=w:=by
 by_cases Z:e.size<1
 ·have F:=ag (yQ (Or.inl Z));have J:(e.size:Int)<1:=oQ;go_in;exact iN F
 have J:¬(e.size:Int)<1:=oQ;by_cases h2:4<e.size
 ·have F:=ag (yQ (Or.inr h2));have O:(4:Int)<e.size:=oQ;go_in;exact iN F
 have O:¬(4:Int)<e.size:=oQ;have Y:=bw Z h2;go_in;go_wp;go_loopw [3] (λiv wr=>∃i:Nat,iv= int i64 i/\i<=e.size/\wr=w/\Hid (∀j,j<i->ez (af e j)=true)) (λiv _=>e.size-(intOf iv).toNat)
 case atStart=>exact⟨0,rfl,aA _,rfl,ag (λj hj=>oQ)⟩
 case round=>
  obtain⟨i,rfl,ab,rfl,X⟩:=hrel;by_cases E:i<e.size
  ·have G:(i:Int)<e.size:=oQ;have D:af e i=((e[i]'E).toNat:Int):=by simp[af,E]
   have aa:_=some (e[i]'E):=getElem?_pos e i E;have I:=ag (kW (af e i) wr);have R:=ag (λq=>Fs E q);have Q:Hid (ez (af e i)=true->∀j,j<i+1->ez (af e j)=true):=ag (λq j hj=>by
    by_cases e1:j=i
    ·subst e1;exact q
    exact X j oQ)
   rw[D]at I;generalize U:ez (af e i)=ev at*;rw[<-D,U]at I;rw[D]at I;have HP:=ag D;generalize hc:((e[i]'E).toNat:Int)=c at*;go_wp;refine cF I ?_;cases ev with
   |true=>
    go_wp2;exact⟨⟨i+1,eb,oQ,by first|rfl|trivial,ag (Q (by first|rfl|trivial))⟩,ew⟩
   |false=>?_
   go_wp2;go_ret;exact⟨by rw[R (by first|rfl|trivial)];rfl,rfl⟩
  have G:¬(i:Int)<e.size:=oQ;obtain rfl:i=e.size:=oQ;have F:=ag (JM Y.1 Y.2 X);exact iN F
theorem DR w r:
 Calls prog 136 #[agg (vk r)] w λx w'=>x=returned (bool (pG r))/\Kp bA w w':=by
 have⟨kd,ev,a⟩:=r;have Z:=kG w (cells #[int i64 kd,string ev,int i64 a] 79);have Y:=ag (JN (w.alloc (cells #[int i64 kd,string ev,int i64 a] 79)) ev)
 have O:=ag (show pG ⟨kd,ev,a⟩=if kd=1 then j3 ev&&decide (-1<=a)
  else if kd=2 then decide (ev.size=0)&&decide (a=0)
  else if kd=3 then decide (ev.size=0)&&decide (-1<=a)
  else if kd=4 then decide (ev.size=0)&&decide (0<=a)
  else false from rfl)
 generalize pG ⟨kd,ev,a⟩=RQ at*;generalize j3 ev=bt at*;have G:=ag Z;unfold vk;by_cases I:kd=1
 ·have D:=ag (O.trans (aq I));subst I;go_in;go_wp;refine cF Y ?_;cases bt with
  |true=>
   exact qR D G
  |false=>?_
  exact qR D G
 by_cases R:kd=2
 ·have D:=ag (O.trans ((ax I).trans (aq R)));subst R;by_cases F:ev=⟨#[]⟩
  ·subst F;go_in;exact qR D G
  have Q:=wN F;have E:¬ev.size=0:=λz=>F (by apply lZ;exact v7 z);have J:=ag E;go_in;go_wp2;go_ret;exact⟨by rw[D,fB J];rfl,G⟩
 by_cases U:kd=3
 ·have D:=ag (O.trans ((ax I).trans ((ax R).trans (aq U))));subst U;by_cases F:ev=⟨#[]⟩
  ·subst F;go_in;exact qR D G
  have Q:=wN F;have E:¬ev.size=0:=λz=>F (by apply lZ;exact v7 z);have J:=ag E;go_in;go_wp2;go_ret;exact⟨by rw[D,fB J];rfl,G⟩
 by_cases X:kd=4
 ·have D:=ag (O.trans ((ax I).trans ((ax R).trans ((ax U).trans (aq X)))));subst X;by_cases F:ev=⟨#[]⟩
  ·subst F;go_in;exact qR D G
  have Q:=wN F;have E:¬ev.size=0:=λz=>F (by apply lZ;exact v7 z);have J:=ag E;go_in;go_wp2;go_ret;exact⟨by rw[D,fB J];rfl,G⟩
 have D:=ag (O.trans ((ax I).trans ((ax R).trans ((ax U).trans (ax X)))));go_in;exact qR D G
theorem JO w r:
 Calls prog 137 #[agg (vk r)] w λx w'=>x=returned (agg (lR (sT r)).toArray)/\Kp bA w w':=by
 have⟨kd,ev,a⟩:=r;have⟨dt,hdt,afG⟩:=ab_;have I:(sT ⟨kd,ev,a⟩).now.Wf:=qs;have R:(prog.info? 173).map (·.size)=some (lR (sT ⟨kd,ev,a⟩)).toArray.size:=by
  rw[show(lR (sT ⟨kd,ev,a⟩)).toArray.size=45 by simp[gE I]];exact M0
 have sS:(lR (sT ⟨kd,ev,a⟩)).toArray.size=Dq.size:=by rw[show(lR (sT ⟨kd,ev,a⟩)).toArray.size=45 by simp[gE I]];rfl
 have sO:(lR (sT ⟨kd,ev,a⟩)).toArray.all (λx=>x.oneCell')=true:=by
  apply gH.2;intro x hx;exact GO _ x (cX hx)
 have U:=ag (show prog.built 173 [(0,int i64 kd),(1,string ev),(2,int i64 a)]=some (lR (sT ⟨kd,ev,a⟩)).toArray by kernel_rfl);have X:Kp bA w ((w.alloc (cells #[int i64 kd,string ev,int i64 a] 79)).alloc (cells Dq 173)):=((Kp.refl _ _).alloc _).alloc _;have E:((w.alloc (cells #[int i64 kd,string ev,int i64 a] 79)).alloc (cells Dq 173)).heap[w.heap.size]? =some (cells #[int i64 kd,string ev,int i64 a] 79):=by
  rw[cE _ _ _ dy];exact ak _ _
 have O:((w.alloc (cells #[int i64 kd,string ev,int i64 a] 79)).alloc (cells Dq 173)).heap[w.heap.size+1]? =_:=jM w _ _;generalize (lR (sT ⟨kd,ev,a⟩)).toArray=J at*;unfold vk;go_in;go_upto_region 1 with fail;generalize (w.alloc (cells #[int i64 kd,string ev,int i64 a] 79)).alloc (cells Dq 173)=D at*;have x1:D.cell? ⟨w.heap.size,1,none⟩=some (string ev):=dG E rfl;have ab:=Lib.run_convert_string_bytes (P:=prog) D 9 47 5 ev underlying9 underlying47 underlying5;have aa:=Fm D ev (grownCap D ev.size 0 5);have KB:=CM D 5 ev;have F:=KB.at_ E (λx=>x);have G:=KB.at_ O (λx=>x);have Y:=X.trans KB;generalize grownCap D ev.size 0 5=cp at*;generalize Lib.bytesWorld D 5 ev=Q at*;have y0:Q.cell? ⟨w.heap.size,0,none⟩=some (int i64 kd):=dG F rfl;have y2:Q.cell? ⟨w.heap.size,2,none⟩=some (int i64 a):=dG F rfl;have Z:=Y.setRow (g:=w.heap.size+1) (λx=>oQ) J;have lH:=an Q (w.heap.size+1) Dq J 173 (0,0) G;go_wp2_with (first|(refine fJ rfl 173 #[(0,.tmp 9),(1,.tmp 10),(2,.tmp 12)] rfl J [(0,int i64 kd),(1,string ev),(2,int i64 a)] ?_ U ?_;rfl)|refine bJ J G R sS.symm sO ?_);refine uY lH hdt afG R ?_;exact⟨rfl,Z⟩
