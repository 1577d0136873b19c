import Derived.Test.YtnlbchmfcebeeaaGreatTSd
set_option maxHeartbeats 12800000
set_option maxRecDepth 100000
namespace Go.Proofs.YtnlbchmfcebeeaaGreat
open Go.Proofs.Tryz Ch
open Go.RowKit
namespace Ch
def eT(ol:Ol)(t:Tk):Tk×Int:=
 if t.events.size<=t.aw then(t,0)
 else if(b_ ol t.now (ag t.events t.aw)).2.2 !=0 then(t,(b_ ol t.now (ag t.events t.aw)).2.2)
 else({t with aw:=t.aw+1,now:=(b_ ol t.now (ag t.events t.aw)).1,out:=t.out++(b_ ol t.now (ag t.events t.aw)).2.1},0)
theorem lB(x:Sv)(u:Nat)(a b:Tk):aA (aA x u a) u b=aA x u b:=by simp[aA,List.set_set]
theorem qJ{x:Sv}{u:Nat}(h:u<x.ah.length)(a:Tk):(aA x u a).ah[u]? =some a:=by grind[aA]
theorem xp{x:Sv}{u:Nat}{t:Tk}(h:x.ah[u]? =some t):aA x u t=x:=by
 obtain⟨D,e⟩:=aJ.1 h;unfold aA;rw[<-e,List.set_getElem_self]
end Ch
section
variable {w:World} {xb tb:Nat} {T:TypeId} {pc:Pc} {ol:Ol} {x:Sv} {kv:Value}
theorem eX.H_(h:eX w xb tb T pc ol x kv){u:Nat}{t t':Tk}(hu:x.ah[u]? =some t)(hw:t'.now.Wf)(j:Nat)(D:j<45)(v:Value)(E:kn t'=(kn t).set j v):
 eX (w.setCell ⟨tb,u*45+j,none⟩ v) xb tb T pc ol (aA x u t') kv:=h.P1 hu hw j D v E
theorem eX.P5(h:eX w xb tb T pc ol x kv){u:Nat}{t t':Tk}(hu:x.ah[u]? =some t)(hw:t'.now.Wf)(j:Nat)(l:List Value)(D:j+l.length<=45)(E:kn t'=(kn t).take j++l++(kn t).drop (j+l.length)):
 eX (w.setRow tb (putAt (cU x.ah).toArray (u*45+j) l)) xb tb T pc ol (aA x u t') kv:=h.Yj hu hw j l D E
end
section
variable (w:World) {xb tb:Nat} {pc:Pc} {ol:Ol} {x:Sv} {kv:Value}
theorem C5(h:eX w xb tb 138 pc ol x kv)(a3:ol.Ok){u:Nat}{t:Tk}(hu:x.ah[u]? =some t)(eD:t.now.Ok)(bm:t.aw<=1000)(bo:t.out.size<=1000000000):
 Calls prog 260 #[.pointer (some ⟨xb,0,none⟩),.pointer (some ⟨tb,u*45,none⟩)] w λr w'=>r= .returned (.int .i64 (eT ol t).2)/\eX w' xb tb 138 pc ol (aA x u (eT ol t).1) kv/\Kp (xo xb tb kv) w w':=by
 obtain⟨ds,aS,kJ⟩:=iM;have ao:=eD.1;have c5:w.cell? ⟨tb,u*45+5,none⟩=some _:=h.ew hu (by omega);have c1:w.cell? ⟨tb,u*45+1,none⟩=some _:=h.ew hu (by omega);have a2:=(aJ.1 hu).1;have a4:=xp hu
 have HU:=af (show eT ol t=if t.events.size<=t.aw then(t,0)
  else if(b_ ol t.now (ag t.events t.aw)).2.2 !=0 then(t,(b_ ol t.now (ag t.events t.aw)).2.2)
  else({t with aw:=t.aw+1,now:=(b_ ol t.now (ag t.events t.aw)).1,out:=t.out++(b_ ol t.now (ag t.events t.aw)).2.1},0)from rfl)
 generalize eT ol t=FT at*;have HH:=af (ae h (ae hu a4));clear h hu a4
 go_enter func260,ntmps260
 go_upto_region 1 with(fail)
 by_cases a0:t.events.size<=t.aw
 ·have HF:=af (HU.out.trans (aq a0))
  have a1:(t.events.size:Int)<=(t.aw:Int):=by omega
  clear HU
  go_quiet (fail)
  rename_i nq;have KD:=(Kp.refl (λ_=>False) w).drewN nq;have HK:=af KD;clear KD;go_wp2;go_ret;rw[HF.out];exact⟨rfl,by rw[HH.out.2.2];exact HH.out.1.au HK.out,HK.out.mono (λ_ _ x=>x.elim)⟩
 have a1:¬(t.events.size:Int)<=(t.aw:Int):=by omega
 have U:t.aw<t.events.size:=by omega
 have bi:(t.aw:Int)<(t.events.size:Int):=by omega
 have bc:ag t.events t.aw=((t.events[t.aw]'U).toNat:Int):=by simp[ag,U]
 have HV:=af (HU.out.trans (ay a0));rw[bc]at HV;clear HU
 go_quiet (fail)
 rename_i nq;have h1:=HH.out.1.au ((Kp.refl (λ_=>False) w).drewN nq);have K1:=(Kp.refl (λ_=>False) w).drewN nq;have d5:(w.drewN nq).cell? _=_:=c5;have d1:(w.drewN nq).cell? _=_:=c1;generalize w.drewN nq=E at*;have be:_=some (t.events[t.aw]'U):=getElem?_pos t.events t.aw U;generalize hc:((t.events[t.aw]'U).toNat:Int)=c at*;have Y:=qw (ol:=ol) eD c;have bb:=kL a3 t.now c
 have Nr:(prog.info? 95).map (·.size)=some (aY t.now).length:=by rw[cP ao];exact fR
 have E1:=λW h=>af (Bg W xb 0 ol t.now c eD h a3)
 have ad:∀w':World,w'.heap[tb]? =some (.cells (cU x.ah).toArray 173 (0,0))->w'.cell? ⟨tb,u*45+5,none⟩=some (.int .i64 t.aw):=by
  intro w' hb;rw[jf hb];exact jh kn 45 x.ah u t 5 (λa ha=>eW (h1.tw a ha)) HH.out.2.1 (by omega)
 have aa:∀w':World,w'.heap[tb]? =some (.cells (cU x.ah).toArray 173 (0,0))->w'.cell? ⟨tb,u*45+1,none⟩=some (.string t.events):=by
  intro w' hb;rw[jf hb];exact jh kn 45 x.ah u t 1 (λa ha=>eW (h1.tw a ha)) HH.out.2.1 (by omega)
 have VQ:∀w':World,w'.heap[tb]? =some (.cells (cU x.ah).toArray 173 (0,0))->∀j v,(aY t.now)[j]? =some v->w'.cell? ⟨tb,u*45+6+j,none⟩=some v:=by
  intro w' hb j v hj;have hl:=(aJ.1 hj).1;rw[cP ao]at hl;rw[jf hb,Nat.add_assoc];exact(jh kn 45 x.ah u t (6+j) (λa ha=>eW (h1.tw a ha)) HH.out.2.1 (by omega)).trans (JQ j v hj)
 have a5:=h1.rN;have X:=h1.kb;have HX:=af (ae h1 (ae K1 (ae E1 (ae ad (ae aa (ae VQ X))))));clear h1 K1 E1 ad aa VQ X;generalize ZN:b_ ol t.now c=mf at*;obtain⟨F,J,fe⟩:=mf;clear ZN;simp only at Y HV HX bb;have fI:=iT Y.1
 have a8:(prog.info? 95).map (·.size)=some (aY F).length:=by rw[cP Y.1];exact fR
 have fS:=jQ Y.1;have fL:=cP Y.1;have fO:=oh F;have a9:=qx F;have P6:=HH.out.1.Fw;generalize ap:aY F=I at*;generalize aI:(cU x.ah).toArray=TA at*;have Ro:=af (ae ap aI);clear ap aI
 go_upto_region 3 with(fail)
 go_cut [5,6,7]from 18 to 38 (λp e f wx=>∃fb,p= .pointer (some ⟨fb,0,none⟩)/\e= .string J/\f= .int .i64 fe/\wx.heap[fb]? =some (.cells I.toArray 95 (0,0))/\Kp (λ_=>False) E wx)
 case first=>
  obtain⟨h1,K1,E1,ad,aa,VQ,X⟩:=HX.out;have D:E.drew.heap[tb]? =_:=a5;have AI:Kp (λ_=>False) E E.drew:=(Kp.refl _ _).drewN 1;refine bf (λw'=>w'.heap[tb]? =some (.cells TA 173 (0,0))) (by kernel_rfl) ?_;refine bM 0 19 (.pointer (some ⟨xb,0,none⟩)) D ?_;refine bM 1 20 (.pointer (some ⟨xb,0,none⟩)) D ?_;refine bM 2 21 (.pointer (some ⟨xb,0,none⟩)) D ?_;refine bM 3 22 (.pointer (some ⟨tb,u*45,none⟩)) D ?_;refine bM 4 23 (.pointer (some ⟨tb,u*45,none⟩)) D ?_;refine bM 5 24 (.pointer (some ⟨tb,u*45+6,none⟩)) D ?_;refine eG 6 25 (.agg (aY t.now).toArray) rfl (λw' hS=>eo 95 (.tmp 24) rfl tb (u*45+6) rfl (aY t.now) ds (VQ w' hS) aS kJ Nr) D ?_;refine bM 7 26 (.pointer (some ⟨tb,u*45,none⟩)) D ?_;refine bM 8 27 (.pointer (some ⟨tb,u*45,none⟩)) D ?_;refine bM 9 28 (.pointer (some ⟨tb,u*45+1,none⟩)) D ?_;refine eG 10 29 (.string t.events) rfl (λw' hS=>by simp[execOp,Act.eval,go_sem,aa w' hS]) D ?_;refine bM 11 30 (.pointer (some ⟨tb,u*45,none⟩)) D ?_;refine bM 12 31 (.pointer (some ⟨tb,u*45,none⟩)) D ?_;refine bM 13 32 (.pointer (some ⟨tb,u*45+5,none⟩)) D ?_;refine eG 14 33 (.int .i64 t.aw) rfl (λw' hS=>by simp[execOp,Act.eval,go_sem,ad w' hS]) D ?_;refine eG 15 34 (.int .u8 c) rfl (λw' _=>by simp[execOp,Act.eval,go_sem,U,hc]) D ?_;refine rh 16 21 (by kernel_rfl) rfl rfl rfl rfl ?_ ?_
  ·refine dW (some 35) rfl 57 #[.pointer (some ⟨xb,0,none⟩),.agg (aY t.now).toArray,.int .u8 c] (by simp[execOp,Act.eval,go_sem]) _ (λw'=>Kp (λ_=>False) E.drew w') (E1 E.drew (X.az AI (λ_ _ _ _ _ x=>x))).out ?_
   intro Z K5;have G:=K5.at_ D (λx=>x);have O:=an Z (.cells cO 95);have Yn:(Z.alloc (.cells cO 95)).heap[tb]? =_:=(cQ _ _ _ (aR G)).trans G
   have aj:tb≠Z.heap.size:=by have:=aR G;omega
   have MT:((Z.alloc (.cells cO 95)).setRow Z.heap.size I.toArray).heap[tb]? =some (.cells TA 173 (0,0)):=by rw[cG _ _ _ _ aj];exact Yn
   refine⟨G,?_⟩;refine kE 17 18 (.tuple #[.agg I.toArray,.string J,.int .i64 fe]) rfl (λw' _=>by simp[execOp,Act.eval,Act.put,go_sem]) G ?_;refine kE 18 36 (.agg I.toArray) rfl (λw' _=>by simp[execOp,Act.eval,Act.put,go_sem]) G ?_;refine kE 19 37 (.string J) rfl (λw' _=>by simp[execOp,Act.eval,Act.put,go_sem]) G ?_;refine kE 20 38 (.int .i64 fe) rfl (λw' _=>by simp[execOp,Act.eval,Act.put,go_sem]) G ?_;refine oX 21 ?_;refine gI (some 5) rfl (.pointer (some ⟨Z.heap.size,0,none⟩)) (Z.alloc (.cells cO 95)) (by simp[execOp,go_sem]) ?_;refine⟨Yn,?_⟩;refine cK 22 (by kernel_rfl) rfl rfl 95 (.tmp 5) (.tmp 36) rfl rfl Z.heap.size I.toArray (by simp[Act.eval,Act.put]) (by simp[Act.eval,Act.put]) 95 cO O fI (by rw[fS];rfl) fO MT ?_;refine kE 23 6 (.string J) rfl (λw' _=>by simp[execOp,Act.eval,Act.put,go_sem]) MT ?_;refine kE 24 7 (.int .i64 fe) rfl (λw' _=>by simp[execOp,Act.eval,Act.put,go_sem]) MT ?_;refine bF (by kernel_rfl) (bG ?_) _;simp only[Act.put,pA,pB,pC];go_wp2
   go_meet
   exact⟨Z.heap.size,rfl,rfl,rfl,ax _ _ _ _ _ _ O,((AI.trans K5).alloc _).setRow (λx=>by have:=(AI.trans K5).size;omega) _⟩
  refine gI (some 5) rfl (.pointer (some ⟨E.heap.size,0,none⟩)) (E.drew.alloc (.cells cO 95)) (by simp[execOp,go_sem]) ?_;have O:=an E.drew (.cells cO 95);have P4:=AI.alloc (.cells cO 95);have Yo:(E.drew.alloc (.cells cO 95)).heap[tb]? =_:=(cQ _ _ _ (aR D)).trans D;refine⟨Yo,?_⟩;refine oX 16 ?_;simp only[Act.put,pA,pB,pC];refine dW (some 35) rfl 57 #[.pointer (some ⟨xb,0,none⟩),.agg (aY t.now).toArray,.int .u8 c] (by simp[execOp,Act.eval,go_sem]) _ (λw'=>Kp (λ_=>False) (E.drew.alloc (.cells cO 95)) w') (E1 _ (X.az P4 (λ_ _ _ _ _ x=>x))).out ?_;intro Z K5;have G:=K5.at_ Yo (λx=>x);have lH:=K5.at_ (k:=E.heap.size) (by exact O) (λx=>x)
  have aj:tb≠E.heap.size:=by have:=aR D;have e:E.drew.heap.size=E.heap.size:=rfl;omega
  have MT:(Z.setRow E.heap.size I.toArray).heap[tb]? =some (.cells TA 173 (0,0)):=by rw[cG _ _ _ _ aj];exact G
  refine⟨G,?_⟩;refine kE 17 18 (.tuple #[.agg I.toArray,.string J,.int .i64 fe]) rfl (λw' _=>by simp[execOp,Act.eval,Act.put,go_sem]) G ?_;refine kE 18 36 (.agg I.toArray) rfl (λw' _=>by simp[execOp,Act.eval,Act.put,go_sem]) G ?_;refine kE 19 37 (.string J) rfl (λw' _=>by simp[execOp,Act.eval,Act.put,go_sem]) G ?_;refine kE 20 38 (.int .i64 fe) rfl (λw' _=>by simp[execOp,Act.eval,Act.put,go_sem]) G ?_;refine cK 22 (by kernel_rfl) rfl rfl 95 (.tmp 5) (.tmp 36) rfl rfl E.heap.size I.toArray (by simp[Act.eval,Act.put]) (by simp[Act.eval,Act.put]) 95 cO lH fI (by rw[fS];rfl) fO MT ?_;refine kE 23 6 (.string J) rfl (λw' _=>by simp[execOp,Act.eval,Act.put,go_sem]) MT ?_;refine kE 24 7 (.int .i64 fe) rfl (λw' _=>by simp[execOp,Act.eval,Act.put,go_sem]) MT ?_;refine bF (by kernel_rfl) (bG ?_) _;simp only[Act.put,pA,pB,pC];go_wp2
  go_meet
  exact⟨E.heap.size,rfl,rfl,rfl,ax _ _ _ _ _ _ lH,(P4.trans K5).setRow (λx=>by omega) _⟩
 case rest=>
  obtain⟨fb,rfl,rfl,rfl,Gf,KC⟩:=hcut;have hC:=HX.out.1.au KC;have KA:=HX.out.2.1.trans KC;clear KC a5 d5 d1
  cases q1:fe !=0 with
  |true=>
   have HF:=af (HV.out.trans (show _=(t,fe)by rw[q1];rfl));have HK:=af (ae hC KA);clear HV hC KA HX;go_wp2;go_ret;rw[HF.out];exact⟨rfl,by rw[HH.out.2.2];exact HK.out.1,HK.out.2.mono (λ_ _ x=>x.elim)⟩
  |false=>?_
  have ba:fe=0:=by simpa using q1
  subst ba;have HF:=af (HV.out.trans (show _=({t with aw:=t.aw+1,now:=F,out:=t.out++J},(0:Int))by rw[q1];rfl))
  have a6:wc.heap[tb]? =some (.cells TA 173 (0,0)):=by have:=hC.rN;rw[Ro.out.2]at this;exact this
  have Lw:u*45+6+I.length<=TA.size:=by rw[P6,fL];omega
  have h6:=hC.P5 (t':={t with now:=F}) HH.out.2.1 Y.1 6 I (by omega) (by rw[<-Ro.out.1];exact uN (t':={t with now:=F}) ao Y.1 rfl rfl);rw[Ro.out.2]at h6;have K6:Kp _ _ (wc.setRow tb (putAt TA (u*45+6) I)):=(KA.mono (S':=xo xb tb kv) (λ_ _ x=>x.elim)).setRow (λ_=>.inr (.inl rfl)) _;clear HV hC KA HX
  go_upto_region 7 with(first|refine iu rfl 95 (.tmp 45) (.tmp 43) rfl tb (u*45+6) I rfl rfl 173 TA a6 a8 Lw a9 ?_|refine jO Gf aS kJ fI ?_)
  generalize wc.setRow tb (putAt TA (u*45+6) I)=w6 at*;have am:=qJ a2 {t with now:=F};have a7:w6.cell? ⟨tb,u*45+42,none⟩=some (.string t.out):=(h6.ew am (by omega)).trans (my (t:={t with now:=F}) Y.1 0);have f42:=h6.pf (u*45+42)
  have aO:=λw'=>lf (P:=prog) w' t.out J (by omega)
  have h7:=h6.H_ (t':={t with now:=F,out:=t.out++J}) am Y.1 42 (by omega) (.string (t.out++J)) (s7 (t:={t with now:=F}) (t':={t with now:=F,out:=t.out++J}) Y.1 rfl rfl 0 _ rfl);rw[lB]at h7;have K7:Kp _ _ (w6.setCell ⟨tb,u*45+42,none⟩ (.string (t.out++J))):=K6.setCell (p:=⟨tb,u*45+42,none⟩) (λ_=>.inr (.inl rfl)) _;clear h6 K6 am Gf a6 Lw;generalize bk:t.out++J=TO at*
  go_upto_region 8 with(fail)
  generalize w6.setCell ⟨tb,u*45+42,none⟩ (.string TO)=w7 at*;have Vs:=qJ a2 {t with now:=F,out:=TO};have e5:w7.cell? ⟨tb,u*45+5,none⟩=some (.int .i64 t.aw):=h7.ew Vs (by omega);have f5:=h7.pf (u*45+5)
  have ef:((t.aw+1:Nat):Int)=(t.aw:Int)+1:=by omega
  have h8:=h7.H_ (t':={t with aw:=t.aw+1,now:=F,out:=TO}) Vs Y.1 5 (by omega) (.int .i64 ((t.aw:Int)+1)) (s8 (t:={t with now:=F,out:=TO}) (t':={t with aw:=t.aw+1,now:=F,out:=TO}) rfl rfl 5 (by omega) _ (by rw[<-ef];rfl));rw[lB]at h8;have K8:Kp _ _ (w7.setCell ⟨tb,u*45+5,none⟩ (.int .i64 ((t.aw:Int)+1))):=K7.setCell (p:=⟨tb,u*45+5,none⟩) (λ_=>.inr (.inl rfl)) _;have HZ:=af (ae h8 K8);clear h7 K7 Vs h8 K8 a7 f42 aO;go_wp2;go_ret;rw[HF.out];exact⟨rfl,HZ.out.1,HZ.out.2⟩
end
namespace Ch
theorem zF{ol:Ol}(D:ol.Ok):∀(n:Nat) {s:Sd} {l:List Int} {r:Sd×ByteArray},eb ol n s l=some r->r.2.size<=l.length+117000000*n:=by
 intro n
 induction n with
 |zero=>grind[eb]
 |succ n E=>?_
 intro s l r h;simp only[eb]at h
 split at h
 ·grind[vo,kL,bQ]
 simp at h;subst h;show(strOfNums l).size<=_;rw[cC];omega
def AJ(ol:Ol)(s:Sd):Sd×ByteArray:=match eb ol 17 (tick s) []with|some r=>r|none=>(s,⟨#[]⟩)
theorem zG{ol:Ol}{s:Sd}(h:(eb ol 17 (tick s) []).isSome=true):eb ol 17 (tick s) []=some (AJ ol s):=by
 grind[AJ]
def uk(ol:Ol)(x:Sv):Sv×Rp:=
 (kj x (AJ ol (ee x.kept)).1 (AJ ol (ee x.kept)).2,{dT with kZ:=(x.made:Int),text:=(AJ ol (ee x.kept)).2})
def ph(x:Sv)(t:Tk):Tk:=if t.aw=0 then {t with now:=ee x.kept}else t
def um(x:Sv)(t:Tk):Bool:=decide (t.aw=0)&&decide (0<=t.at_)&&decide (t.at_≠(x.made:Int)-1)
def s_(ol:Ol)(x:Sv)(u:Nat)(t:Tk):Sv×Rp×Bool:=
 if(eT ol t).2 !=0 then(aA x u (eT ol t).1,{ji x (eT ol t).2 with idx:=((eT ol t).1.aw:Int)},true)
 else if(eT ol t).1.aw<(eT ol t).1.events.size then(aA x u (eT ol t).1,dT,false)
 else(kj (aA x u (eT ol t).1) (eT ol t).1.now (eT ol t).1.out,{dT with kZ:=(x.made:Int),idx:=((eT ol t).1.aw:Int),text:=(eT ol t).1.out},true)
def rO(ol:Ol)(x:Sv)(u:Nat)(t:Tk):Sv×Rp×Bool:=
 if um x t then(x,ji x 14,true)else s_ ol x u (ph x t)
def fu(ol:Ol)(x:Sv)(u:Nat)(t:Tk):Sv×Rp×Bool:=
 if t.kind=2 then((uk ol x).1,(uk ol x).2,true)else rO ol x u t
def nh(x:Sv)(u:Nat)(t:Tk):Sv:={aA x u {t with drawn:=true,bR:=x.aU}with aU:=x.aU+1}
def nk(ol:Ol)(x:Sv)(u:Nat)(t:Tk):Sv×Rp×Bool:=
 if t.drawn=false then(nh x u t,dT,false)
 else if t.bR≠x.turn then(x,dT,false)
 else({(fu ol x u t).1 with turn:=if(fu ol x u t).2.2 then(fu ol x u t).1.turn+1 else(fu ol x u t).1.turn},(fu ol x u t).2)
def k7(ol:Ol)(x:Sv)(u:Nat)(t:Tk):Sv×Rp×Bool:=
 if t.kind=3 then m_ ol x u t else if t.kind=4 then(x,mY x t.at_,true)else nk ol x u t
def qK(x:Sv)(u:Int):Option Tk:=if 0<=u then x.ah[u.toNat]? else none
def b8(ol:Ol)(x:Sv)(u:Int):Sv×Rp×Bool×Int:=match qK x u with
 |none=>(x,dT,false,10)
 |some t=>if t.kind=0 then(x,dT,false,13)
  else(if(k7 ol x u.toNat t).2.2 then aA (k7 ol x u.toNat t).1 u.toNat gC else(k7 ol x u.toNat t).1,(k7 ol x u.toNat t).2.1,(k7 ol x u.toNat t).2.2,0)
structure Rq where
 kind:Int
 events:ByteArray
 at_:Int
def iV(e:ByteArray):Bool:=decide (1<=e.size)&&decide (e.size<=4)&&(List.range e.size).all (λj=>ez (ag e j))
def mJ(r:Rq):Bool:=
 if r.kind=1 then iV r.events&&decide (-1<=r.at_)
 else if r.kind=2 then decide (r.events.size=0)&&decide (r.at_=0)
 else if r.kind=3 then decide (r.events.size=0)&&decide (-1<=r.at_)
 else if r.kind=4 then decide (r.events.size=0)&&decide (0<=r.at_)
 else false
def pQ(r:Rq):Tk:={gC with kind:=r.kind,events:=r.events,at_:=r.at_}
def oP(x:Sv)(u:Int)(r:Rq):Sv×Int:=match qK x u with
 |none=>(x,10)
 |some t=>if t.kind≠0 then(x,11)else if mJ r then(aA x u.toNat (pQ r),0)else(x,12)
def pN(ol:Ol)(n:Nat):Sv:=kj ⟨0,[],0,⟨#[]⟩,List.replicate n gC,0,0⟩ (df ol).1 (df ol).2.1
end Ch
section
variable (w:World) {xb tb:Nat} {pc:Pc} {ol:Ol} {x:Sv} {kv:Value}
theorem IC(h:eX w xb tb 138 pc ol x kv)(ad:x.Bd)(a1:ol.Ok)(hk:0<x.kept.length)(eD:(ee x.kept).Ok)(a0:∀k,k<(ee x.kept).tm.size->1<=ag (ee x.kept).tm k)(hw:(eb ol 17 (Ch.tick (ee x.kept)) []).isSome=true):
 Calls prog 228 #[.pointer (some ⟨xb,0,none⟩)] w λr w'=>r= .returned (.agg (bJ (uk ol x).2))/\g_ w w' xb tb 138 pc ol kv (uk ol x).1:=by
 obtain⟨ds,ap,kJ⟩:=iM;obtain⟨dr,a4,eJ⟩:=mz;have aI:=h.low;have K1:Kp (λ_=>False) w (w.alloc (.cells aH 64)):=(Kp.refl _ _).alloc _;have aS:=an w (.cells aH 64);have h1:=h.au K1;have a6:=ad.made;have X:=zG hw;have U:=PJ (xP eD) X;have a3:=zF a1 17 X;simp only[jB]at a3;have EL:=af (zC _ h1.qI hk ad.Fx);have HU:=af (show uk ol x=(kj x (AJ ol (ee x.kept)).1 (AJ ol (ee x.kept)).2,{dT with kZ:=(x.made:Int),text:=(AJ ol (ee x.kept)).2})from rfl);generalize uk ol x=TS at*;generalize ee x.kept=ls at*
 have E1:=λW h=>af (Lc W xb 0 ol ls 17 (AJ ol ls) X (by omega) a0 eD h a1)
 generalize AJ ol ls=wr at*;obtain⟨fs,J⟩:=wr;simp only at U a3 HU E1;have sI:=iT eD.1;have sS:=jQ eD.1;have sO:=oh ls;have fI:=iT U.1;have fS:=jQ U.1;have fO:=oh fs;have HX:=af (ae h1 (ae K1 (ae E1 ad)));clear h h1 K1 hw X a0 E1 eD;generalize Ao:(aY ls).toArray=G at*;generalize DL:(aY fs).toArray=O at*;have Ro:=af DL;clear Ao DL
 go_enter func228,ntmps228
 go_upto_region 1 with(fail)
 generalize w.alloc (.cells aH 64)=w1 at*
 go_wp2_with fail
 refine hm EL ?_;rintro r Y ⟨rfl,K2⟩;have aO:=K2.at_ aS (λx=>x);have aj:=an Y (.cells cO 95);have K3:Kp (λ_=>False) Y ((Y.alloc (.cells cO 95)).setRow Y.heap.size G):=((Kp.refl _ _).alloc _).setRow (λx=>by omega) _;have ao:=ax (Y.alloc (.cells cO 95)) Y.heap.size cO G 95 (0,0) aj;have h3:=HX.out.1.au (K2.trans K3);have KA:=HX.out.2.1.trans (K2.trans K3);have lC:=K3.at_ aO (λx=>x);have HY:=af (ae h3 (ae KA lC));clear EL K2 K3 h3 KA lC aO
 go_upto_region 2 with(refine cj G aj sI (by rw[sS];rfl) sO ?_)
 generalize (Y.alloc (.cells cO 95)).setRow Y.heap.size G=D at*;generalize Y.heap.size=lb at*;simp only[Act.put]
 go_cut [4,5]from 10 to 17 (λp e wx=>∃fb,p= .pointer (some ⟨fb,0,none⟩)/\e= .string J/\wx.heap[fb]? =some (.cells O 95 (0,0))/\Kp (λ_=>False) D wx)
 case first=>
  have a2:=HY.out.1.kb;have E1:=HX.out.2.2.1;have E:D.drew.heap[lb]? =_:=ao;have AI:Kp (λ_=>False) D D.drew:=(Kp.refl _ _).drewN 1;refine bf (λw'=>w'.heap[lb]? =some (.cells G 95 (0,0))) (by kernel_rfl) ?_;refine bM 0 11 (.pointer (some ⟨xb,0,none⟩)) E ?_;refine bM 1 12 (.pointer (some ⟨xb,0,none⟩)) E ?_;refine bM 2 13 (.pointer (some ⟨xb,0,none⟩)) E ?_;refine eG 3 14 (.agg G) rfl (λw' hS=>du 95 (.tmp 3) rfl lb rfl 95 G (0,0) ds hS ap kJ sI) E ?_;refine rh 4 8 (by kernel_rfl) rfl rfl rfl rfl ?_ ?_
  ·refine dW (some 15) rfl 77 #[.pointer (some ⟨xb,0,none⟩),.agg G] (by simp[execOp,Act.eval,go_sem]) _ (λw'=>Kp (λ_=>False) D.drew w') (E1 D.drew (a2.az AI (λ_ _ _ _ _ x=>x))).out ?_
   intro I Z;have F:=Z.at_ E (λx=>x);have lH:=an I (.cells cO 95);have Yn:(I.alloc (.cells cO 95)).heap[lb]? =_:=(cQ _ _ _ (aR F)).trans F
   have am:lb≠I.heap.size:=by have:=aR F;omega
   have MT:((I.alloc (.cells cO 95)).setRow I.heap.size O).heap[lb]? =some (.cells G 95 (0,0)):=by rw[cG _ _ _ _ am];exact Yn
   refine⟨F,?_⟩;refine kE 5 10 (.tuple #[.agg O,.string J]) rfl (λw' _=>by simp[execOp,Act.eval,Act.put,go_sem]) F ?_;refine kE 6 16 (.agg O) rfl (λw' _=>by simp[execOp,Act.eval,Act.put,go_sem]) F ?_;refine kE 7 17 (.string J) rfl (λw' _=>by simp[execOp,Act.eval,Act.put,go_sem]) F ?_;refine oX 8 ?_;refine gI (some 4) rfl (.pointer (some ⟨I.heap.size,0,none⟩)) (I.alloc (.cells cO 95)) (by simp[execOp,go_sem]) ?_;refine⟨Yn,?_⟩;refine cK 9 (by kernel_rfl) rfl rfl 95 (.tmp 4) (.tmp 16) rfl rfl I.heap.size O (by simp[Act.eval,Act.put]) (by simp[Act.eval,Act.put]) 95 cO lH fI (by rw[fS];rfl) fO MT ?_;refine kE 10 5 (.string J) rfl (λw' _=>by simp[execOp,Act.eval,Act.put,go_sem]) MT ?_;refine bF (by kernel_rfl) (bG ?_) _;simp only[Act.put,pA,pB,pC];go_wp2
   go_meet
   exact⟨I.heap.size,rfl,rfl,ax _ _ _ _ _ _ lH,((AI.trans Z).alloc _).setRow (λx=>by have:=(AI.trans Z).size;omega) _⟩
  refine gI (some 4) rfl (.pointer (some ⟨D.heap.size,0,none⟩)) (D.drew.alloc (.cells cO 95)) (by simp[execOp,go_sem]) ?_;have VR:=an D.drew (.cells cO 95);have P4:=AI.alloc (.cells cO 95);have Yo:(D.drew.alloc (.cells cO 95)).heap[lb]? =_:=(cQ _ _ _ (aR E)).trans E;refine⟨Yo,?_⟩;refine oX 4 ?_;simp only[Act.put,pA,pB,pC];refine dW (some 15) rfl 77 #[.pointer (some ⟨xb,0,none⟩),.agg G] (by simp[execOp,Act.eval,go_sem]) _ (λw'=>Kp (λ_=>False) (D.drew.alloc (.cells cO 95)) w') (E1 _ (a2.az P4 (λ_ _ _ _ _ x=>x))).out ?_;intro I Z;have F:=Z.at_ Yo (λx=>x);have lH:=Z.at_ (k:=D.heap.size) (by exact VR) (λx=>x)
  have am:lb≠D.heap.size:=by have:=aR E;have e:D.drew.heap.size=D.heap.size:=rfl;omega
  have MT:(I.setRow D.heap.size O).heap[lb]? =some (.cells G 95 (0,0)):=by rw[cG _ _ _ _ am];exact F
  refine⟨F,?_⟩;refine kE 5 10 (.tuple #[.agg O,.string J]) rfl (λw' _=>by simp[execOp,Act.eval,Act.put,go_sem]) F ?_;refine kE 6 16 (.agg O) rfl (λw' _=>by simp[execOp,Act.eval,Act.put,go_sem]) F ?_;refine kE 7 17 (.string J) rfl (λw' _=>by simp[execOp,Act.eval,Act.put,go_sem]) F ?_;refine cK 9 (by kernel_rfl) rfl rfl 95 (.tmp 4) (.tmp 16) rfl rfl D.heap.size O (by simp[Act.eval,Act.put]) (by simp[Act.eval,Act.put]) 95 cO lH fI (by rw[fS];rfl) fO MT ?_;refine kE 10 5 (.string J) rfl (λw' _=>by simp[execOp,Act.eval,Act.put,go_sem]) MT ?_;refine bF (by kernel_rfl) (bG ?_) _;simp only[Act.put,pA,pB,pC];go_wp2
  go_meet
  exact⟨D.heap.size,rfl,rfl,ax _ _ _ _ _ _ lH,(P4.trans Z).setRow (λx=>by omega) _⟩
 case rest=>
  obtain⟨fb,rfl,rfl,Gf,KC⟩:=hcut;have hC:=HY.out.1.au KC;have KA:=HY.out.2.1.trans KC;have VP:=KC.at_ HY.out.2.2 (λx=>x);have EP:=af (s9 wc hC HX.out.2.2.2 fs U.1 J (by omega));rw[Ro.out]at EP;have HC:=af (ae hC KA);clear KC hC KA ao aj;generalize aa:kj x fs J=XX at*;have HM:=af (show((XX.made:Int)-1)=(x.made:Int)by rw[<-aa];show((x.made+1:Nat):Int)-1=_;omega)
  have Hi:XX.made<=1000000000000000:=by rw[<-aa];show x.made+1<=_;omega
  clear aa
  go_wp2_with (refine jO Gf ap kJ fI ?_)
  refine hm EP ?_;rintro r w6 ⟨rfl,q6⟩;have pP:=q6.at_ aI VP;obtain⟨a5,h6,n6,K6⟩:=q6;have EA:=af (lS w6 h6.qI Hi)
  have q6:g_ _ _ _ _ _ _ _ _ _:=⟨a5,h6,n6,K6⟩
  generalize P3:({dT with kZ:=(XX.made:Int)-1,text:=J}:Rp)=RP at*;have HR:=af P3;have HQ:=af (g_.dR (HC.out.2.mono (λ_ _ x=>x.elim)) q6 pP (bJ RP));have j7:=ax w6 w.heap.size aH (bJ RP) 64 (0,0) pP;clear EP q6 h6 n6 K6 P3 VP Gf
  go_wp2_with fail
  refine hm EA ?_;rintro r w7 ⟨rfl,rfl⟩;clear EA
  go_wp2_with (refine wpList_store_row rfl 64 (.tmp 2) (.tmp 27) rfl w.heap.size (bJ RP) rfl (by rw[<-HR.out];rfl) 64 aH pP aQ rfl (cE _) ?_)
  refine uu j7 a4 eJ aQ ?_;rw[HU.out,<-HM.out,HR.out];exact⟨rfl,HQ.out⟩
end
namespace Ch
theorem P7(x:Sv)(t:Tk):um x t=(decide (t.aw=0)&&decide (0<=t.at_)&&decide (t.at_≠(x.made:Int)-1)):=rfl
theorem Sv.Bd.Yp{x:Sv}(h:x.Bd)(u:Nat)(t:Tk):(aA x u t).Bd:=⟨h.made,h.Fx,h.sK,h.joined,h.tail,h.tj,h.tick,h.turn,by unfold aA;simp only[jb];exact h.ah⟩
end Ch
section
variable {w:World} {xb tb:Nat} {T:TypeId} {pc:Pc} {ol:Ol} {x:Sv} {kv:Value}
theorem eX.MU(h:eX w xb tb T pc ol x kv){g:Nat}{c:Array Value}{e:TypeId}(X:w.heap[g]? =some (.cells c e (0,0)))(he:e=64\/e=95)(j:Nat)(v:Value):eX (w.setCell ⟨g,j,none⟩ v) xb tb T pc ol x kv:=by
 have J:e≠T:=by rcases he with rfl|rfl<;>rcases h.ty with rfl|rfl<;>decide
 have O:e≠261:=by rcases he with rfl|rfl<;>decide
 have I:e≠173:=by rcases he with rfl|rfl<;>decide
 have ne:∀{b:Nat} {E:Array Value} {D:TypeId},w.heap[b]? =some (.cells E D (0,0))->e≠D->b≠g:=by
  grind
 refine h.az (S:=λk=>k=g) ((Kp.refl (λk=>k=g) w).setCell (p:=⟨g,j,none⟩) (λ_=>rfl) _) (ne h.bO J) (ne h.rN I) ?_ ?_
 ·intro k G
  obtain⟨F,U⟩:=bz h.row G;grind
 grind[C2]
end
theorem VS(r:Rp)(i:Int):(bJ r).setIfInBounds 2 (.int .i64 i)=bJ {r with idx:=i}:=rfl
section
variable (w:World) {xb tb:Nat} {pc:Pc} {ol:Ol} {x:Sv} {kv:Value}
theorem C6(h:eX w xb tb 138 pc ol x kv)(aj:x.Bd)(a7:ol.Ok)(hk:0<x.kept.length){u:Nat}{t:Tk}(hu:x.ah[u]? =some t)(eD:(ph x t).now.Ok)(ce:t.aw<=1000)(a8:t.out.size<=1000000000):
 Calls prog 229 #[.pointer (some ⟨xb,0,none⟩),.pointer (some ⟨tb,u*45,none⟩)] w λr w'=>r= .returned (.tuple #[.agg (bJ (rO ol x u t).2.1),.bool (rO ol x u t).2.2])/\g_ w w' xb tb 138 pc ol kv (rO ol x u t).1:=by
 obtain⟨ds,bx,kJ⟩:=iM;obtain⟨dr,bt,eJ⟩:=mz;have am:=h.low;have cm:=aR h.rN;have K1:Kp (λ_=>False) w (w.alloc (.cells aH 64)):=(Kp.refl _ _).alloc _;have F:=an w (.cells aH 64);have h1:=h.au K1;have b4:=aj.made;have a5:=(aJ.1 hu).1;have bc:=h.Wu hu;have c5:(w.alloc (.cells aH 64)).cell? ⟨tb,u*45+5,none⟩=some _:=h1.ew hu (by omega);have c2:(w.alloc (.cells aH 64)).cell? ⟨tb,u*45+2,none⟩=some _:=h1.ew hu (by omega);have HU:=af (show rO ol x u t=if um x t then(x,ji x 14,true)else s_ ol x u (ph x t)from rfl);have HV:=af (P7 x t);have HT:=af (show ph x t=if t.aw=0 then {t with now:=ee x.kept}else t from rfl)
 have b0:(ph x t).aw=t.aw:=by unfold ph;split<;>rfl
 have a0:(ph x t).out=t.out:=by unfold ph;split<;>rfl
 generalize rO ol x u t=SS at*;generalize um x t=sv at*;generalize ph x t=t1 at*;have Y:=af (ae h1 (ae aj (ae hu (ae K1 (xp hu)))));have br:=aj.Yp u t1;have b5:(aA x u t1).made=x.made:=rfl;have bb:=qJ a5 t1
 have HE:=af (show s_ ol x u t1=if(eT ol t1).2 !=0 then(aA x u (eT ol t1).1,{ji x (eT ol t1).2 with idx:=((eT ol t1).1.aw:Int)},true)
  else if(eT ol t1).1.aw<(eT ol t1).1.events.size then(aA x u (eT ol t1).1,dT,false)
  else(kj (aA x u (eT ol t1).1) (eT ol t1).1.now (eT ol t1).1.out,{dT with kZ:=(x.made:Int),idx:=((eT ol t1).1.aw:Int),text:=(eT ol t1).1.out},true)from rfl)
 clear h h1 K1 aj hu
 go_enter func229,ntmps229
 go_upto_region 1 with(fail)
 generalize w.alloc (.cells aH 64)=w1 at*
 go_upto_if 12 with(fail)
 go_cut [12]from 8 to 37 (λ_ wx=>sv=false/\eX wx xb tb 138 pc ol (aA x u t1) kv/\Kp (xo xb tb kv) w wx/\wx.heap[w.heap.size]? =some (.cells aH 64 (0,0)))
 case first=>
  by_cases q0:t.aw=0
  ·have ca:(t.aw:Int)=0:=by omega
   have Wv:=af (HT.out.trans (aq q0))
   by_cases q1:0<=t.at_
   ·have E1:=af (lS w1.drew (Y.out.1.au ((Kp.refl _ _).drewN 1)).qI (by omega))
    go_upto_region 2 with(fail)
    go_region_held3 (λw'=>w'.cell? ⟨tb,u*45+2,none⟩=some (.int .i64 t.at_)) (first|exact c2|exact HS.out) ((go_at_call 191;refine hm E1 ?_;rintro y w5 ⟨rfl,rfl⟩;have HS:=af c2;clear E1))
    clear HS;have I:Kp (λ_=>False) w1 w1.drew:=(Kp.refl _ _).drewN 1;have h2:=Y.out.1.au I;have X:=I.at_ F (λx=>x);generalize w1.drew=w2 at*
    cases q2:t.at_ !=(x.made:Int)-1 with
    |true=>
     have G:=HV.out
     have ad:t.at_≠(x.made:Int)-1:=by simpa using q2
     simp only[q0,q1,ad,decide_true,gA,ne_eq,not_false_eq_true]at G;subst G;have ER:=af (mA w2 h2 (by omega) 14);have E:=af (ae h2 (Y.out.2.2.2.1.trans I));have HF:=af (HU.out.trans (aq rfl));clear h2 I HU HV HE HT c2 c5 ad F
     go_wp2_with fail
     refine hm ER ?_;rintro r w4 ⟨rfl,Z⟩;have qO:=Z.at_ X (λx=>x);have HQ:=af (g_.dR (E.out.2.mono (λ_ _ x=>x.elim)) ((g_.refl E.out.1).au Z) qO (bJ (ji x 14)));have j7:=ax w4 w.heap.size aH (bJ (ji x 14)) 64 (0,0) qO;clear ER Z X E
     go_wp2_with (refine cj (bJ (ji x 14)) qO aQ rfl (cE _) ?_)
     refine bg (bE rfl _ _ w.heap.size (ji x 14) rfl j7) rfl ?_;rw[HF.out];exact⟨rfl,HQ.out⟩
    |false=>?_
    have G:=HV.out
    have ad:¬t.at_≠(x.made:Int)-1:=by simpa using q2
    simp only[ad,decide_false,Bool.and_false]at G;subst G;clear ad;have EL:=af (zC w2 h2.qI hk Y.out.2.1.Fx)
    have S2:(ee x.kept).Wf:=by have:=eD.1;rw[Wv.out]at this;exact this
    have sI:=(by rw[cP S2];exact fR:(prog.info? 95).map (·.size)=some (aY (ee x.kept)).length)
    have sL:=cP S2;have sO:=qx (ee x.kept);have P6:=h2.Fw
    have O:∀W,eX W xb tb 138 pc ol x kv->eX (W.setRow tb (putAt (cU x.ah).toArray (u*45+6) (aY (ee x.kept)))) xb tb 138 pc ol (aA x u t1) kv:=by
     intro W hW;rw[Wv.out];exact hW.P5 (t':={t with now:=ee x.kept}) Y.out.2.2.1 S2 6 (aY (ee x.kept)) (by omega) (uN (t':={t with now:=ee x.kept}) bc S2 rfl rfl)
    have HP:=af O;have hX:=Y.out.2.2.2.1.trans I
    have aa:∀W,eX W xb tb 138 pc ol x kv->W.heap[tb]? =some (.cells (cU x.ah).toArray 173 (0,0)):=λW hW=>hW.rN
    have ao:=af aa;generalize (cU x.ah).toArray=TA at*;generalize VT:aY (ee x.kept)=FL at*;have E:=af (ae h2 hX);clear h2 I hX O VT aa HU HE c2 c5 F
    go_wp2_with fail
    refine hm EL ?_;rintro r w4 ⟨rfl,Z⟩;have h4:=E.out.1.au Z;have Yq:=E.out.2.trans Z;have a1:=ao.out _ h4
    have Lw:u*45+6+FL.length<=TA.size:=by rw[P6,sL];omega
    have qO:=Z.at_ X (λx=>x);have hZ:=af (ae h4 Yq);clear EL E Z h4 Yq X
    go_wp2_with (refine iu rfl 95 (.tmp 37) (.tmp 35) rfl tb (u*45+6) FL rfl rfl 173 TA a1 sI Lw sO ?_)
    simp only[Act.put]
    go_meet
    refine⟨by first|rfl|trivial,HP.out _ hZ.out.1,(hZ.out.2.mono (λ_ _ x=>x.elim)).setRow (λ_=>.inr (.inl rfl)) _,?_⟩;rw[cG _ _ _ _ (by omega)];exact qO
   have G:=HV.out;simp only[q1,decide_false,Bool.and_false,Bool.false_and]at G;subst G
   go_upto_region 2 with(fail)
   go_quiet (fail)
   rename_i nq;have I:Kp (λ_=>False) w1 _:=(Kp.refl _ _).drewN nq;have h2:=Y.out.1.au I;have X:=I.at_ F (λx=>x);generalize w1.drewN nq=w2 at*;have EL:=af (zC w2 h2.qI hk Y.out.2.1.Fx)
   have S2:(ee x.kept).Wf:=by have:=eD.1;rw[Wv.out]at this;exact this
   have sI:=(by rw[cP S2];exact fR:(prog.info? 95).map (·.size)=some (aY (ee x.kept)).length)
   have sL:=cP S2;have sO:=qx (ee x.kept);have P6:=h2.Fw
   have O:∀W,eX W xb tb 138 pc ol x kv->eX (W.setRow tb (putAt (cU x.ah).toArray (u*45+6) (aY (ee x.kept)))) xb tb 138 pc ol (aA x u t1) kv:=by
    intro W hW;rw[Wv.out];exact hW.P5 (t':={t with now:=ee x.kept}) Y.out.2.2.1 S2 6 (aY (ee x.kept)) (by omega) (uN (t':={t with now:=ee x.kept}) bc S2 rfl rfl)
   have HP:=af O;have hX:=Y.out.2.2.2.1.trans I
   have aa:∀W,eX W xb tb 138 pc ol x kv->W.heap[tb]? =some (.cells (cU x.ah).toArray 173 (0,0)):=λW hW=>hW.rN
   have ao:=af aa;generalize (cU x.ah).toArray=TA at*;generalize VT:aY (ee x.kept)=FL at*;have E:=af (ae h2 hX);clear h2 I hX O VT aa HU HE c2 c5 F
   go_wp2_with fail
   refine hm EL ?_;rintro r w4 ⟨rfl,Z⟩;have h4:=E.out.1.au Z;have Yq:=E.out.2.trans Z;have a1:=ao.out _ h4
   have Lw:u*45+6+FL.length<=TA.size:=by rw[P6,sL];omega
   have qO:=Z.at_ X (λx=>x);have hZ:=af (ae h4 Yq);clear EL E Z h4 Yq X
   go_wp2_with (refine iu rfl 95 (.tmp 37) (.tmp 35) rfl tb (u*45+6) FL rfl rfl 173 TA a1 sI Lw sO ?_)
   simp only[Act.put]
   go_meet
   refine⟨by first|rfl|trivial,HP.out _ hZ.out.1,(hZ.out.2.mono (λ_ _ x=>x.elim)).setRow (λ_=>.inr (.inl rfl)) _,?_⟩;rw[cG _ _ _ _ (by omega)];exact qO
  have ca:¬(t.aw:Int)=0:=by omega
  have Wv:=af (HT.out.trans (ay q0));have G:=HV.out;simp only[q0,decide_false,Bool.false_and]at G;subst G;have HZ:=af Y.out;clear Y;go_wp2
  go_meet
  refine⟨by first|rfl|trivial,?_,HZ.out.2.2.2.1.mono (λ_ _ x=>x.elim),F⟩;rw[Wv.out,HZ.out.2.2.2.2];exact HZ.out.1
 case rest=>
  obtain⟨rfl,hC,KC,VP⟩:=hcut;have HF:=af (HU.out.trans ((ay (by simp)).trans HE.out));have EF:=af (C5 wc hC a7 bb eD (by omega) (by rw[a0];exact a8))
  have b3:(eT ol t1).1.now.Wf/\(eT ol t1).1.out.size<=2000000000/\(eT ol t1).1.aw<=2000:=by
   have cg:=kL a7 t1.now (ag t1.events t1.aw);have b2:=(qw (ol:=ol) eD (ag t1.events t1.aw)).1
   have ci:t1.out.size<=1000000000:=by rw[a0];exact a8
   unfold eT
   split
   ·exact⟨eD.1,by simp only;omega,by simp only;omega⟩
   split
   ·exact⟨eD.1,by simp only;omega,by simp only;omega⟩
   refine⟨b2,?_,by simp only;omega⟩;simp only[iJ];omega
  have ba:=lB x u t1 (eT ol t1).1;rw[ba]at EF;have bo:=Y.out.2.1.Yp u (eT ol t1).1;have Ww:=qJ a5 (eT ol t1).1;generalize eT ol t1=ff at*;obtain⟨t2,fe⟩:=ff;simp only at*;obtain⟨fw,fo,cc⟩:=b3;have E:=af (ae hC KC);clear hC HU HE HV HT bb eD br b5 ba b0 a0 c5 c2 F KC
  go_wp2_with fail
  refine hm EF ?_;rintro r w5 ⟨rfl,h5,K5⟩;have rX:=K5.at_ VP (λs=>by have:=am _ s;omega);have KA:=E.out.2.trans' K5 (λ_ _ s=>s);have a3:w5.cell? ⟨tb,u*45+5,none⟩=some _:=h5.ew Ww (by omega);have a2:w5.cell? ⟨tb,u*45+1,none⟩=some _:=h5.ew Ww (by omega);clear EF E K5 VP
  cases q3:fe !=0 with
  |true=>
   have HZ:=af (HF.out.trans (aq q3));have ER:=af (mA w5 h5 (by exact bA b4 (by omega)) fe);have a9:ji (aA x u t2) fe=ji x fe:=rfl;rw[a9]at ER;have E:=af (ae h5 KA);clear HF a9 h5 KA
   go_wp2_with fail
   refine hm ER ?_;rintro r U ⟨rfl,K6⟩;have h6:=E.out.1.au K6;have KB:=E.out.2.trans' K6 (λ_ _ x=>x.elim);have pP:=K6.at_ rX (λx=>x);generalize ji x fe=RF at*;have aS:=an U (.cells aH 64);have Pz:=ax (U.alloc (.cells aH 64)) U.heap.size aH (bJ RF) 64 (0,0) aS;have K7:Kp (λ_=>False) U ((U.alloc (.cells aH 64)).setRow U.heap.size (bJ RF)):=((Kp.refl _ _).alloc _).setRow (λx=>by omega) _;have h7:=h6.au K7;have Ui:=K7.at_ pP (λx=>x);have KC:=KB.trans' K7 (λ_ _ x=>x.elim);have iG:=aR pP;have ck:=KB.size;clear ER K6 h6 pP E a3 a2 KB K7
   go_upto_region 8 with(refine cj (bJ RF) aS aQ rfl (cE _) ?_)
   generalize (U.alloc (.cells aH 64)).setRow U.heap.size (bJ RF)=J at*;generalize U.heap.size=rb at*;have ap:J.cell? ⟨tb,u*45+5,none⟩=some _:=h7.ew Ww (by omega)
   have bi:J.frozen? ⟨rb,2,none⟩=false:=by simp[World.frozen?,Pz]
   have b7:J.cell? ⟨rb,2,none⟩=some (.int .i64 RF.idx):=by rw[World.cell?,Pz];rfl
   have xR:(J.setCell ⟨rb,2,none⟩ (.int .i64 t2.aw)).heap[rb]? =some (.cells (bJ {RF with idx:=(t2.aw:Int)}) 64 (0,0)):=by rw[ak _ Pz,VS]
   have aI:(J.setCell ⟨rb,2,none⟩ (.int .i64 t2.aw)).heap[w.heap.size]? =some (.cells aH 64 (0,0)):=by
    rw[kq _ _ _ _ (by show w.heap.size≠rb;omega)];exact Ui
   have h8:=h7.MU Pz (.inl rfl) 2 (.int .i64 t2.aw);have K8:Kp _ _ (J.setCell ⟨rb,2,none⟩ (.int .i64 t2.aw)):=KC.setCell (p:=⟨rb,2,none⟩) (λx=>by simp only at x;omega) _;have E:=af (ae h8 K8);clear h7 aS KC h8 K8
   go_upto_region 9 with(fail)
   generalize J.setCell ⟨rb,2,none⟩ (.int .i64 t2.aw)=w8 at*;generalize bk:({RF with idx:=(t2.aw:Int)}:Rp)=RR at*;have HQ:=af (g_.dR E.out.2 (g_.refl E.out.1) aI (bJ RR));have j7:=ax w8 w.heap.size aH (bJ RR) 64 (0,0) aI;clear bk E Ui Pz ap bi b7
   go_wp2_with (first|refine jO xR bt eJ aQ ?_|refine cj (bJ RR) aI aQ rfl (cE _) ?_)
   refine bg (bE rfl _ _ w.heap.size RR rfl j7) rfl ?_;rw[HZ.out];exact⟨rfl,HQ.out⟩
  |false=>?_
  have b1:fe=0:=by simpa using q3
  subst b1;have HZ:=af (HF.out.trans (ay (by simp)));clear HF q3
  by_cases q4:t2.aw<t2.events.size
  ·have HY:=af (HZ.out.trans (aq q4))
   have Zt:(t2.aw:Int)<(t2.events.size:Int):=by omega
   have E:=af (ae h5 KA);clear HZ h5 KA
   go_upto_region 10 with(fail)
   go_quiet (fail)
   rename_i nq;have I:Kp (λ_=>False) w5 _:=(Kp.refl _ _).drewN nq;have uq:=af (ae (E.out.1.au I) (E.out.2.trans' I (λ_ _ x=>x.elim)));have pP:=I.at_ rX (λx=>x);generalize w5.drewN nq=U at*;have HQ:=af (g_.dR uq.out.2 (g_.refl uq.out.1) pP aH);have j7:=ax U w.heap.size aH aH 64 (0,0) pP;clear E uq I rX
   go_wp2_with (refine cj aH pP aQ rfl (cE dT) ?_)
   refine bg (bE rfl _ _ w.heap.size dT rfl j7) rfl ?_;rw[HY.out];exact⟨rfl,HQ.out⟩
  have HY:=af (HZ.out.trans (ay q4))
  have Zt:¬(t2.aw:Int)<(t2.events.size:Int):=by omega
  have E:=af (ae h5 KA);clear HZ h5 KA
  go_upto_region 10 with(fail)
  go_quiet (fail)
  rename_i nq;have I:Kp (λ_=>False) w5 _:=(Kp.refl _ _).drewN nq;have h6:=E.out.1.au I;have KB:=E.out.2.trans' I (λ_ _ x=>x.elim);have pP:=I.at_ rX (λx=>x);generalize w5.drewN nq=U at*;have KE:Kp (λ_=>False) U U.drew:=(Kp.refl _ _).drewN 1;have EP:=af (s9 U.drew (h6.au KE) bo t2.now fw t2.out (by omega))
  have Yr:∀w':World,w'.heap[tb]? =some (.cells (cU (aA x u t2).ah).toArray 173 (0,0))->w'.cell? ⟨tb,u*45+42,none⟩=some (.string t2.out):=by
   intro w' hb;rw[jf hb];exact(jh kn 45 (aA x u t2).ah u t2 42 (λa ha=>eW (h6.tw a ha)) Ww (by omega)).trans (my fw 0)
  have VQ:∀w':World,w'.heap[tb]? =some (.cells (cU (aA x u t2).ah).toArray 173 (0,0))->∀j v,(aY t2.now)[j]? =some v->w'.cell? ⟨tb,u*45+6+j,none⟩=some v:=by
   intro w' hb j v hj;have hl:=(aJ.1 hj).1;rw[cP fw]at hl;rw[jf hb,Nat.add_assoc];exact(jh kn 45 (aA x u t2).ah u t2 (6+j) (λa ha=>eW (h6.tw a ha)) Ww (by omega)).trans (JQ j v hj)
  have fI:(prog.info? 95).map (·.size)=some (aY t2.now).length:=by rw[cP fw];exact fR
  have D:U.drew.heap[tb]? =_:=h6.rN;have O:(kj (aA x u t2) t2.now t2.out).ah[u]? =_:=Ww;have bm:(cU (kj (aA x u t2) t2.now t2.out).ah).toArray=(cU (aA x u t2).ah).toArray:=rfl;have a4:(kj (aA x u t2) t2.now t2.out).made=x.made+1:=rfl;generalize kj (aA x u t2) t2.now t2.out=XX at*;generalize (cU (aA x u t2).ah).toArray=TA at*;generalize aY t2.now=FL at*;have uq:=af (ae h6 KB);clear E h6 KB I rX a3 a2 q4 Zt
  go_upto_region 12 with(fail)
  have a6:=KE.at_ pP (λx=>x);refine bf (λw'=>w'.heap[tb]? =some (.cells TA 173 (0,0))) (by kernel_rfl) ?_;refine bM 0 63 (.pointer (some ⟨xb,0,none⟩)) D ?_;refine bM 1 64 (.pointer (some ⟨tb,u*45,none⟩)) D ?_;refine bM 2 65 (.pointer (some ⟨tb,u*45,none⟩)) D ?_;refine bM 3 66 (.pointer (some ⟨tb,u*45+6,none⟩)) D ?_;refine eG 4 67 (.agg FL.toArray) rfl (λw' hS=>eo 95 (.tmp 66) rfl tb (u*45+6) rfl FL ds (VQ w' hS) bx kJ fI) D ?_;refine bM 5 68 (.pointer (some ⟨tb,u*45,none⟩)) D ?_;refine bM 6 69 (.pointer (some ⟨tb,u*45,none⟩)) D ?_;refine bM 7 70 (.pointer (some ⟨tb,u*45+42,none⟩)) D ?_;refine eG 8 71 (.string t2.out) rfl (λw' hS=>by simp[execOp,Act.eval,go_sem,Yr w' hS]) D ?_;refine oX 9 ?_;refine dW (some 72) rfl 135 #[.pointer (some ⟨xb,0,none⟩),.agg FL.toArray,.string t2.out] (by simp[execOp,Act.eval,go_sem]) (.tuple #[]) _ EP.out ?_;intro J q7;have Ui:=q7.at_ am a6
  have KF:=(uq.out.2.trans' KE (λ_ _ x=>x.elim))
  obtain⟨NA,h7,n7,K7⟩:=q7;refine⟨?_,?_⟩
  ·rw[<-bm];exact h7.rN
  refine bF (by kernel_rfl) (bG ?_) _;simp only[Act.put,pA,pB,pC]
  have q7:g_ _ _ _ _ _ _ _ _ _:=⟨NA,h7,n7,K7⟩
  have ap:J.cell? ⟨tb,u*45+5,none⟩=some _:=h7.ew O (by omega);have be:J.cell? ⟨tb,u*45+42,none⟩=some _:=(h7.ew O (by omega)).trans (my fw 0);have KG:Kp (λ_=>False) J J.drew:=(Kp.refl _ _).drewN 1;have EA:=af (lS J.drew (h7.au KG).qI (by rw[a4];omega));have HM:=af (show((XX.made:Int)-1)=(x.made:Int)by rw[a4];omega);generalize P3:({dT with kZ:=(XX.made:Int)-1,idx:=(t2.aw:Int),text:=t2.out}:Rp)=RP at*;have HR:=af P3;have aO:=KG.at_ Ui (λx=>x);have HQ:=af (g_.dR KF (q7.au KG) aO (bJ RP));have j7:=ax J.drew w.heap.size aH (bJ RP) 64 (0,0) aO;clear EP h7 n7 K7 q7 KF uq VQ Yr D pP a6 Ui P3 KE
  go_upto_region 13 with(fail)
  have D:J.drew.cell? ⟨tb,u*45+5,none⟩=some (.int .i64 t2.aw)/\J.drew.cell? ⟨tb,u*45+42,none⟩=some (.string t2.out):=⟨ap,be⟩
  refine bf (λw'=>w'.cell? ⟨tb,u*45+5,none⟩=some (.int .i64 t2.aw)/\w'.cell? ⟨tb,u*45+42,none⟩=some (.string t2.out)) (by kernel_rfl) ?_;refine bM 0 73 (.pointer (some ⟨xb,0,none⟩)) D ?_;refine bM 1 74 (.pointer (some ⟨xb,0,none⟩)) D ?_;refine bM 2 75 (.pointer (some ⟨xb,5,none⟩)) D ?_;refine bM 4 77 (.pointer (some ⟨tb,u*45,none⟩)) D ?_;refine bM 5 78 (.pointer (some ⟨tb,u*45,none⟩)) D ?_;refine bM 6 79 (.pointer (some ⟨tb,u*45+5,none⟩)) D ?_;refine eG 7 80 (.int .i64 t2.aw) rfl (λw' hS=>by simp[execOp,Act.eval,go_sem,hS.1]) D ?_;refine bM 8 81 (.pointer (some ⟨tb,u*45,none⟩)) D ?_;refine bM 9 82 (.pointer (some ⟨tb,u*45,none⟩)) D ?_;refine bM 10 83 (.pointer (some ⟨tb,u*45+42,none⟩)) D ?_;refine eG 11 84 (.string t2.out) rfl (λw' hS=>by simp[execOp,Act.eval,go_sem,hS.2]) D ?_;refine oX 3 ?_;refine dW (some 76) rfl 191 #[.pointer (some ⟨xb,5,none⟩)] (by simp[execOp,Act.eval,go_sem]) (.int .i64 ((XX.made:Int)-1)) _ EA.out ?_;rintro w9 rfl;refine⟨D,?_⟩
  have G0:(J.drew.setRow w.heap.size (bJ RP)).cell? ⟨tb,u*45+5,none⟩=some (.int .i64 t2.aw)/\(J.drew.setRow w.heap.size (bJ RP)).cell? ⟨tb,u*45+42,none⟩=some (.string t2.out):=by
   have b6:tb≠w.heap.size:=by omega
   unfold World.cell? at*;simp only at*;rw[cG _ _ _ _ b6];exact D
  refine kE 12 85 (.agg (bJ RP)) rfl (λw' _=>fA 64 #[(1,.tmp 76),(2,.tmp 80),(5,.tmp 84)] rfl (bJ RP) [(1,.int .i64 ((XX.made:Int)-1)),(2,.int .i64 t2.aw),(5,.string t2.out)] (by simp[Act.eval,Act.put]) (by rw[<-HR.out];kernel_rfl)) D ?_;refine cK 13 (by kernel_rfl) rfl rfl 64 (.tmp 4) (.tmp 85) rfl rfl w.heap.size (bJ RP) (by simp[Act.eval,Act.put]) (by simp[Act.eval,Act.put]) 64 aH aO aQ rfl (cE _) G0 ?_;refine kE 14 5 (.bool true) rfl (λw' _=>by rfl) G0 ?_;refine bF (by kernel_rfl) (bG ?_) _;simp only[Act.put,pA,pB,pC];clear D G0
  go_wp2_with fail
  refine bg (bE rfl _ _ w.heap.size RP rfl j7) rfl ?_;rw[HY.out,<-HM.out,HR.out];exact⟨rfl,HQ.out⟩
end
namespace Ch
structure GoP(ol:Ol)(x:Sv)(t:Tk):Prop where
 hk:0<x.kept.length
 ok:(ee x.kept).Ok
 nz:∀k,k<(ee x.kept).tm.size->1<=ag (ee x.kept).tm k
 wt:(eb ol 17 (tick (ee x.kept)) []).isSome=true
 now:(ph x t).now.Ok
 fi:t.aw<=1000
 ou:t.out.size<=1000000000
theorem ID(ol:Ol)(x:Sv)(u:Nat)(t:Tk):(fu ol x u t).1.turn=x.turn:=by
 unfold fu
 split
 ·rfl
 unfold rO
 split
 ·rfl
 unfold s_
 split
 ·rfl
 split<;>rfl
theorem MV(ol:Ol)(x:Sv)(u:Nat)(t:Tk):(fu ol x u t).1.ah.length=x.ah.length:=by
 unfold fu
 split
 ·rfl
 grind[rO,s_,aA,kj]
end Ch
section
variable (w:World) {xb tb:Nat} {pc:Pc} {ol:Ol} {x:Sv} {kv:Value}
theorem IE(h:eX w xb tb 138 pc ol x kv)(I:x.Bd)(X:ol.Ok){u:Nat}{t:Tk}(hu:x.ah[u]? =some t)(F:GoP ol x t):
 Calls prog 192 #[.pointer (some ⟨xb,0,none⟩),.pointer (some ⟨tb,u*45,none⟩)] w λr w'=>r= .returned (.tuple #[.agg (bJ (fu ol x u t).2.1),.bool (fu ol x u t).2.2])/\g_ w w' xb tb 138 pc ol kv (fu ol x u t).1:=by
 have J:=h.low;have K1:Kp (λ_=>False) w (w.alloc (.cells aH 64)):=(Kp.refl _ _).alloc _;have E:=an w (.cells aH 64);have U:=h.au K1;have c0:(w.alloc (.cells aH 64)).cell? ⟨tb,u*45,none⟩=some _:=U.ew hu (j:=0) (by omega);have Y:=af (show fu ol x u t=if t.kind=2 then((uk ol x).1,(uk ol x).2,true)else rO ol x u t from rfl);generalize fu ol x u t=MS at*
 by_cases q:t.kind=2
 ·have ET:=af (IC _ U I X F.hk F.ok F.nz F.wt)
  have Z:=af (Y.out.trans (aq q));generalize uk ol x=G at*;clear Y h U hu F I
  go_enter func192,ntmps192
  go_upto_region 1 with(fail)
  generalize w.alloc (.cells aH 64)=w1 at*
  go_wp2_with fail
  refine hm ET ?_;rintro r w2 ⟨rfl,O⟩;have D:=O.at_ J E;have HQ:=af (g_.dR (K1.mono (λ_ _ x=>x.elim)) O D (bJ G.2));have j7:=ax w2 w.heap.size aH (bJ G.2) 64 (0,0) D;clear ET O E
  go_wp2_with (refine cj (bJ G.2) D aQ rfl (cE _) ?_)
  refine bg (bE rfl _ _ w.heap.size G.2 rfl j7) rfl ?_;rw[Z.out];exact⟨rfl,HQ.out⟩
 have ES:=af (C6 _ U I X F.hk hu F.now F.fi F.ou);have Z:=af (Y.out.trans (ay q));generalize rO ol x u t=G at*;clear Y h U hu F I
 go_enter func192,ntmps192
 go_upto_region 1 with(fail)
 generalize w.alloc (.cells aH 64)=w1 at*
 go_wp2_with fail
 refine hm ES ?_;rintro r w2 ⟨rfl,O⟩;have D:=O.at_ J E;have HQ:=af (g_.dR (K1.mono (λ_ _ x=>x.elim)) O D (bJ G.2.1));have j7:=ax w2 w.heap.size aH (bJ G.2.1) 64 (0,0) D;clear ES O E
 go_wp2_with (refine cj (bJ G.2.1) D aQ rfl (cE _) ?_)
 refine bg (bE rfl _ _ w.heap.size G.2.1 rfl j7) rfl ?_;rw[Z.out];exact⟨rfl,HQ.out⟩
theorem zH(h:eX w xb tb 138 pc ol x kv)(G:x.Bd)(aS:ol.Ok){u:Nat}{t:Tk}(hu:x.ah[u]? =some t)(hg:t.drawn=true->GoP ol x t):
 Calls prog 141 #[.pointer (some ⟨xb,0,none⟩),.pointer (some ⟨tb,u*45,none⟩)] w λr w'=>r= .returned (.tuple #[.agg (bJ (nk ol x u t).2.1),.bool (nk ol x u t).2.2])/\g_ w w' xb tb 138 pc ol kv (nk ol x u t).1:=by
 obtain⟨dr,aj,eJ⟩:=mz;have am:=h.low;have a9:=aR h.rN;have ba:=aR h.bO;have K1:Kp (λ_=>False) w (w.alloc (.cells aH 64)):=(Kp.refl _ _).alloc _;have D:=an w (.cells aH 64);have J:=h.au K1;have aO:=(aJ.1 hu).1;have ap:=h.Wu hu;have a7:=G.tick;have a8:=G.turn;have c3:(w.alloc (.cells aH 64)).cell? ⟨tb,u*45+3,none⟩=some _:=J.ew hu (by omega)
 have HU:=af (show nk ol x u t=if t.drawn=false then(nh x u t,dT,false)
  else if t.bR≠x.turn then(x,dT,false)
  else({(fu ol x u t).1 with turn:=if(fu ol x u t).2.2 then(fu ol x u t).1.turn+1 else(fu ol x u t).1.turn},(fu ol x u t).2)from rfl)
 generalize nk ol x u t=TT at*
 cases qd:t.drawn with
 |false=>
  rw[qd]at c3;have HF:=af (HU.out.trans (aq qd));have a0:=hu;have f3:=J.pf (u*45+3);have I:=J.H_ (t':={t with drawn:=true}) hu ap 3 (by omega) (.bool true) (s8 (t':={t with drawn:=true}) rfl rfl 3 (by omega) _ rfl);have K2:Kp _ _ ((w.alloc (.cells aH 64)).setCell ⟨tb,u*45+3,none⟩ (.bool true)):=(K1.mono (S':=xo xb tb kv) (λ_ _ x=>x.elim)).setCell (p:=⟨tb,u*45+3,none⟩) (λ_=>.inr (.inl rfl)) _
  have E:((w.alloc (.cells aH 64)).setCell ⟨tb,u*45+3,none⟩ (.bool true)).heap[w.heap.size]? =some (.cells aH 64 (0,0)):=by
   rw[kq _ _ _ _ (by show w.heap.size≠tb;omega)];exact D
  clear HU h J hu a0 hg G K1 D
  go_enter func141,ntmps141
  go_upto_region 1 with(fail)
  generalize w.alloc (.cells aH 64)=w1 at*
  go_upto_region 3 with(fail)
  generalize w1.setCell ⟨tb,u*45+3,none⟩ (.bool true)=w2 at*;have a1:w2.cell? _=some (.int .i64 x.aU):=I.cell 10;have ad:=qJ aO {t with drawn:=true};have c4:w2.cell? ⟨tb,u*45+4,none⟩=some (.int .i64 t.bR):=I.ew ad (by omega);have f4:=I.pf (u*45+4);have h3:=I.H_ (t':={t with drawn:=true,bR:=x.aU}) ad ap 4 (by omega) (.int .i64 x.aU) (s8 (t:={t with drawn:=true}) (t':={t with drawn:=true,bR:=x.aU}) rfl rfl 4 (by omega) _ rfl);rw[lB]at h3;have K3:Kp _ _ (w2.setCell ⟨tb,u*45+4,none⟩ (.int .i64 x.aU)):=K2.setCell (p:=⟨tb,u*45+4,none⟩) (λ_=>.inr (.inl rfl)) _
  have lC:(w2.setCell ⟨tb,u*45+4,none⟩ (.int .i64 x.aU)).heap[w.heap.size]? =some (.cells aH 64 (0,0)):=by
   rw[kq _ _ _ _ (by show w.heap.size≠tb;omega)];exact E
  clear I K2 E ad c3 f3
  go_upto_region 4 with(fail)
  generalize w2.setCell ⟨tb,u*45+4,none⟩ (.int .i64 x.aU)=F at*;have a3:F.cell? _=some (.int .i64 x.aU):=h3.cell 10;have fx:=h3.free 10
  have ef:((x.aU+1:Nat):Int)=(x.aU:Int)+1:=by omega
  have U:=h3.zE (x':=nh x u t) rfl rfl 10 (.int .i64 ((x.aU:Int)+1)) (by rw[<-ef];rfl);have K4:Kp _ _ (F.setCell ⟨xb,10,none⟩ (.int .i64 ((x.aU:Int)+1))):=K3.setCell (p:=⟨xb,10,none⟩) (λ_=>.inl rfl) _
  have Z:(F.setCell ⟨xb,10,none⟩ (.int .i64 ((x.aU:Int)+1))).heap[w.heap.size]? =some (.cells aH 64 (0,0)):=by
   rw[kq _ _ _ _ (by show w.heap.size≠xb;omega)];exact lC
  clear h3 K3 lC a1 c4 f4 ef
  go_upto_region 5 with(fail)
  generalize F.setCell ⟨xb,10,none⟩ (.int .i64 ((x.aU:Int)+1))=w4 at*;have HQ:=af (g_.dR K4 (g_.refl U) Z aH);have j7:=ax w4 w.heap.size aH aH 64 (0,0) Z;clear U K4 a3 fx
  go_wp2_with (refine cj aH Z aQ rfl (cE dT) ?_)
  refine bg (bE rfl _ _ w.heap.size dT rfl j7) rfl ?_;rw[HF.out];exact⟨rfl,HQ.out⟩
 |true=>?_
 rw[qd]at c3;have UN:=hg qd;have HV:=af (HU.out.trans (ay (by rw[qd];simp)));have c4:(w.alloc (.cells aH 64)).cell? ⟨tb,u*45+4,none⟩=some _:=J.ew hu (by omega);have a2:(w.alloc (.cells aH 64)).cell? _=some (.int .i64 x.turn):=J.cell 11
 by_cases qt:t.bR=x.turn
 ·have HF:=af (HV.out.trans (ay (by simp[qt])))
  have HE:=af (λW hW=>IE W (x:=x) (xb:=xb) (tb:=tb) (pc:=pc) (kv:=kv) hW G aS hu UN);have ao:=ID ol x u t
  have hq:(t.bR:Int)=(x.turn:Int):=by omega
  have HH:=af (ae J K1);generalize fu ol x u t=MS at*;clear HU HV h J hu hg G K1 UN qd
  go_enter func141,ntmps141
  go_upto_region 1 with(fail)
  generalize w.alloc (.cells aH 64)=w1 at*
  go_upto_region 6 with(fail)
  go_quiet (fail)
  rename_i nq;have O:Kp (λ_=>False) w1 _:=(Kp.refl _ _).drewN nq;have I:=HH.out.1.au O;have K2:=HH.out.2.trans O;have E:=O.at_ D (λx=>x);generalize w1.drewN nq=w2 at*;have EM:=af (HE.out w2 I);have HK:=af K2;clear HE I K2 O D c3 c4 a2 HH hq qt
  go_wp2_with fail
  refine hm EM ?_;rintro r F ⟨rfl,q3⟩;have lC:=q3.at_ am E;have Y:=an F (.cells aH 64);have aa:=ax (F.alloc (.cells aH 64)) F.heap.size aH (bJ MS.2.1) 64 (0,0) Y;have K4:Kp (λ_=>False) F ((F.alloc (.cells aH 64)).setRow F.heap.size (bJ MS.2.1)):=((Kp.refl _ _).alloc _).setRow (λx=>by omega) _;have q4:=q3.au K4;have Z:=K4.at_ lC (λx=>x)
  have a5:xb<F.heap.size:=by have:=aR lC;omega
  have a6:=aR lC;clear EM q3 K4 lC E
  go_upto_region 9 with(refine cj (bJ MS.2.1) Y aQ rfl (cE _) ?_)
  generalize (F.alloc (.cells aH 64)).setRow F.heap.size (bJ MS.2.1)=w4 at*;generalize F.heap.size=rb at*;obtain⟨X,rp,dn⟩:=MS;simp only at*;obtain⟨Ys,U,n4,KX⟩:=q4
  cases dn with
  |true=>
   have a4:w4.cell? _=some (.int .i64 X.turn):=U.cell 11;have fx:=U.free 11
   have ef:((X.turn+1:Nat):Int)=(X.turn:Int)+1:=by omega
   have h5:=U.zE (x':={X with turn:=X.turn+1}) rfl rfl 11 (.int .i64 ((X.turn:Int)+1)) (by rw[<-ef];rfl)
   have q5:g_ _ _ _ _ _ _ _ _ _:=⟨Ys,h5,n4,KX.setCell (p:=⟨xb,11,none⟩) (λ_=>.inl rfl) _⟩
   have rX:(w4.setCell ⟨xb,11,none⟩ (.int .i64 ((X.turn:Int)+1))).heap[w.heap.size]? =some (.cells aH 64 (0,0)):=by
    rw[kq _ _ _ _ (by show w.heap.size≠xb;omega)];exact Z
   have aI:(w4.setCell ⟨xb,11,none⟩ (.int .i64 ((X.turn:Int)+1))).heap[rb]? =some (.cells (bJ rp) 64 (0,0)):=by
    rw[kq _ _ _ _ (by show rb≠xb;omega)];exact aa
   have hX:X.turn<=1000000000000000:=by omega
   clear U n4 KX h5 Y Z aa ef ao
   go_upto_region 11 with(fail)
   generalize w4.setCell ⟨xb,11,none⟩ (.int .i64 ((X.turn:Int)+1))=w5 at*;have HQ:=af (g_.dR (HK.out.mono (λ_ _ x=>x.elim)) q5 rX (bJ rp));have j7:=ax w5 w.heap.size aH (bJ rp) 64 (0,0) rX;clear q5 a4 fx
   go_wp2_with (first|refine jO aI aj eJ aQ ?_|refine cj (bJ rp) rX aQ rfl (cE _) ?_)
   refine bg (bE rfl _ _ w.heap.size rp rfl j7) rfl ?_;rw[HF.out];exact⟨rfl,HQ.out⟩
  |false=>?_
  have q4:g_ _ _ _ _ _ _ _ _ _:=⟨Ys,U,n4,KX⟩
  have HQ:=af (g_.dR (HK.out.mono (λ_ _ x=>x.elim)) q4 Z (bJ rp));have j7:=ax w4 w.heap.size aH (bJ rp) 64 (0,0) Z;clear U n4 KX q4 Y ao
  go_wp2_with (first|refine jO aa aj eJ aQ ?_|refine cj (bJ rp) Z aQ rfl (cE _) ?_)
  refine bg (bE rfl _ _ w.heap.size rp rfl j7) rfl ?_;rw[HF.out];exact⟨rfl,HQ.out⟩
 have HF:=af (HV.out.trans (aq qt))
 have hq:¬(t.bR:Int)=(x.turn:Int):=by omega
 have HH:=af (ae J K1);clear HU HV h J hu hg G K1 UN qd
 go_enter func141,ntmps141
 go_upto_region 1 with(fail)
 generalize w.alloc (.cells aH 64)=w1 at*
 go_upto_region 6 with(fail)
 go_quiet (fail)
 rename_i nq;have O:Kp (λ_=>False) w1 _:=(Kp.refl _ _).drewN nq;have I:=HH.out.1.au O;have K2:=HH.out.2.trans O;have E:=O.at_ D (λx=>x);generalize w1.drewN nq=w2 at*;have HQ:=af (g_.dR (K2.mono (λ_ _ x=>x.elim)) (g_.refl I) E aH);have j7:=ax w2 w.heap.size aH aH 64 (0,0) E;clear I K2 O D HH
 go_wp2_with (refine cj aH E aQ rfl (cE dT) ?_)
 refine bg (bE rfl _ _ w.heap.size dT rfl j7) rfl ?_;rw[HF.out];exact⟨rfl,HQ.out⟩
end
namespace Ch
structure ZO(ol:Ol)(x:Sv)(t:Tk):Prop where
 rd:t.kind=3->t.steps<=1000/\(2<=t.steps->∃(k:Nat) (v:Vr),x.kept[k]? =some v/\t.pinned=(v.num:Int)/\0<v.pins/\∀(j:Nat) (u:Vr),x.kept[j]? =some u->u.num=v.num->j=k)
 go:t.kind≠3->t.kind≠4->t.drawn=true->GoP ol x t
theorem MW(ol:Ol)(x:Sv)(u:Nat)(t:Tk):(nk ol x u t).1.ah.length=x.ah.length:=by
 grind[nk,nh,aA,MV]
theorem P8(ol:Ol)(x:Sv)(u:Nat)(t:Tk):(k7 ol x u t).1.ah.length=x.ah.length:=by
 grind[k7,m_,mZ,aA,MW]
end Ch
section
variable (w:World) {xb tb:Nat} {pc:Pc} {ol:Ol} {x:Sv} {kv:Value}
theorem Fy(h:eX w xb tb 138 pc ol x kv)(G:x.Bd)(aa:ol.Ok){u:Nat}{t:Tk}(hu:x.ah[u]? =some t)(X:ZO ol x t):
 Calls prog 91 #[.pointer (some ⟨xb,0,none⟩),.pointer (some ⟨tb,u*45,none⟩)] w λr w'=>r= .returned (.tuple #[.agg (bJ (k7 ol x u t).2.1),.bool (k7 ol x u t).2.2])/\g_ w w' xb tb 138 pc ol kv (k7 ol x u t).1:=by
 have J:=h.low;have K1:Kp (λ_=>False) w (w.alloc (.cells aH 64)):=(Kp.refl _ _).alloc _;have E:=an w (.cells aH 64);have I:=h.au K1;have c0:(w.alloc (.cells aH 64)).cell? ⟨tb,u*45,none⟩=some _:=I.ew hu (j:=0) (by omega);have c2:(w.alloc (.cells aH 64)).cell? ⟨tb,u*45+2,none⟩=some _:=I.ew hu (by omega);have U:=af (show k7 ol x u t=if t.kind=3 then m_ ol x u t else if t.kind=4 then(x,mY x t.at_,true)else nk ol x u t from rfl);generalize k7 ol x u t=MS at*
 by_cases q:t.kind=3
 ·have ET:=af (C4 _ I G aa hu (X.rd q).1 (X.rd q).2)
  have Y:=af (U.out.trans (aq q));generalize m_ ol x u t=F at*;clear U h I hu X G
  go_enter func91,ntmps91
  go_upto_region 1 with(fail)
  generalize w.alloc (.cells aH 64)=w1 at*
  go_wp2_with fail
  refine hm ET ?_;rintro r w2 ⟨rfl,O⟩;have D:=O.at_ J E;have Z:=af (g_.dR (K1.mono (λ_ _ x=>x.elim)) O D (bJ F.2.1));have j7:=ax w2 w.heap.size aH (bJ F.2.1) 64 (0,0) D;clear ET O E
  go_wp2_with (refine cj (bJ F.2.1) D aQ rfl (cE _) ?_)
  refine bg (bE rfl _ _ w.heap.size F.2.1 rfl j7) rfl ?_;rw[Y.out];exact⟨rfl,Z.out⟩
 by_cases q':t.kind=4
 ·have EP:=af (P2 _ I G t.at_)
  have Y:=af (U.out.trans ((ay q).trans (aq q')));generalize mY x t.at_=F at*;have HH:=af (ae I K1);clear U h I hu X G K1
  go_enter func91,ntmps91
  go_upto_region 1 with(fail)
  generalize w.alloc (.cells aH 64)=w1 at*
  go_wp2_with fail
  refine hm EP ?_;rintro r w2 ⟨rfl,K2⟩;have D:=K2.at_ E (λx=>x);have Z:=af (g_.dR (HH.out.2.mono (λ_ _ x=>x.elim)) ((g_.refl HH.out.1).au K2) D (bJ F));have j7:=ax w2 w.heap.size aH (bJ F) 64 (0,0) D;clear EP K2 E
  go_wp2_with (refine cj (bJ F) D aQ rfl (cE _) ?_)
  refine bg (bE rfl _ _ w.heap.size F rfl j7) rfl ?_;rw[Y.out];exact⟨rfl,Z.out⟩
 have ES:=af (zH _ I G aa hu (X.go q q'));have Y:=af (U.out.trans ((ay q).trans (ay q')));generalize nk ol x u t=F at*;clear U h I hu X G
 go_enter func91,ntmps91
 go_upto_region 1 with(fail)
 generalize w.alloc (.cells aH 64)=w1 at*
 go_wp2_with fail
 refine hm ES ?_;rintro r w2 ⟨rfl,O⟩;have D:=O.at_ J E;have Z:=af (g_.dR (K1.mono (λ_ _ x=>x.elim)) O D (bJ F.2.1));have j7:=ax w2 w.heap.size aH (bJ F.2.1) 64 (0,0) D;clear ES O E
 go_wp2_with (refine cj (bJ F.2.1) D aQ rfl (cE _) ?_)
 refine bg (bE rfl _ _ w.heap.size F.2.1 rfl j7) rfl ?_;rw[Y.out];exact⟨rfl,Z.out⟩
theorem IF(h:eX w xb tb 138 pc ol x kv)(I:x.Bd)(ap:ol.Ok)(u:Int)(hg:∀t,qK x u=some t->ZO ol x t):
 Calls prog 63 #[.pointer (some ⟨xb,0,none⟩),.int .i64 u] w λr w'=>r= .returned (.tuple #[.agg (bJ (b8 ol x u).2.1),.bool (b8 ol x u).2.2.1,.int .i64 (b8 ol x u).2.2.2])/\g_ w w' xb tb 138 pc ol kv (b8 ol x u).1:=by
 obtain⟨dr,F,eJ⟩:=mz;have aj:=h.low;have a0:=aR h.rN;have a1:=aR h.bO;have K1:Kp (λ_=>False) w (w.alloc (.cells aH 64)):=(Kp.refl _ _).alloc _;have D:=an w (.cells aH 64);have G:=h.au K1;have Y:=af (vM _ G u)
 by_cases hc:0<=u/\u<(x.ah.length:Int)
 ·obtain⟨n,rfl⟩:∃n:Nat,u=(n:Int):=⟨u.toNat,by omega⟩
  have hn:n<x.ah.length:=by omega
  obtain⟨t,hu⟩:∃t,x.ah[n]? =some t:=⟨_,ar hn⟩
  have xh:qK x (n:Int)=some t:=by unfold qK;rw[aq (by omega)];exact hu
  have dE:=hg t xh
  have E:(decide (0<=(n:Int))&&decide ((n:Int)<(x.ah.length:Int)))=true:=by simp;omega
  rw[E]at Y;have x9:(w.alloc (.cells aH 64)).cell? _=some (.slice (some ⟨tb,0,none⟩) x.ah.length x.ah.length):=G.cell 9;have c0:(w.alloc (.cells aH 64)).cell? ⟨tb,n*45,none⟩=some _:=G.ew hu (j:=0) (by omega)
  have HU:=af (show b8 ol x (n:Int)=if t.kind=0 then(x,dT,false,13)
   else(if(k7 ol x n t).2.2 then aA (k7 ol x n t).1 n gC else(k7 ol x n t).1,(k7 ol x n t).2.1,(k7 ol x n t).2.2,0)by unfold b8;rw[xh];rfl)
  have aO:(n:Int)<(x.ah.length:Int):=by omega
  generalize b8 ol x (n:Int)=SS at*
  by_cases q:t.kind=0
  ·have HF:=af (HU.out.trans (aq q))
   have Z:=af (ae G K1);clear HU h G hu hg I K1 dE hc xh E
   go_enter func63,ntmps63
   go_upto_region 1 with(fail)
   generalize w.alloc (.cells aH 64)=w1 at*;have HQ:=af (g_.dR (Z.out.2.mono (λ_ _ x=>x.elim)) (g_.refl Z.out.1) D aH);have j7:=ax w1 w.heap.size aH aH 64 (0,0) D
   go_wp2_with fail
   refine hm Y ?_;rintro r w2 ⟨rfl,rfl⟩;clear Y Z
   go_wp2_with (refine cj aH D aQ rfl (cE dT) ?_)
   refine bg (bB rfl _ _ w.heap.size 64 aH (0,0) dr rfl j7 F eJ aQ) rfl ?_;rw[HF.out];exact⟨rfl,HQ.out⟩
  have HV:=af (HU.out.trans (ay q));have EM:=af (Fy _ G I ap hu dE);have ad:=P8 ol x n t;generalize k7 ol x n t=MS at*;clear HU h G hu hg I dE hc xh E
  go_enter func63,ntmps63
  go_upto_region 1 with(fail)
  generalize w.alloc (.cells aH 64)=w1 at*
  go_wp2_with fail
  refine hm Y ?_;rintro r w2 ⟨rfl,rfl⟩;clear Y
  go_wp2_with fail
  refine hm EM ?_;rintro r U ⟨rfl,q3⟩;have lC:=q3.at_ aj D;have J:=an U (.cells aH 64);have aa:=ax (U.alloc (.cells aH 64)) U.heap.size aH (bJ MS.2.1) 64 (0,0) J;have K4:Kp (λ_=>False) U ((U.alloc (.cells aH 64)).setRow U.heap.size (bJ MS.2.1)):=((Kp.refl _ _).alloc _).setRow (λx=>by omega) _;have q4:=q3.au K4;have qO:=K4.at_ lC (λx=>x);have aS:=aR lC;clear EM q3 K4 lC D x9 c0
  go_upto_region 7 with(refine cj (bJ MS.2.1) J aQ rfl (cE _) ?_)
  generalize (U.alloc (.cells aH 64)).setRow U.heap.size (bJ MS.2.1)=w4 at*;generalize U.heap.size=rb at*;obtain⟨X,O,dn⟩:=MS;simp only at*;obtain⟨Ys,h4,n4,KX⟩:=q4
  cases dn with
  |true=>
   have ao:n<X.ah.length:=by omega
   obtain⟨t4,Vz⟩:∃t,X.ah[n]? =some t:=⟨_,ar ao⟩
   have P6:=h4.Fw;have aI:=h4.rN;have h5:=h4.P5 (t':=gC) Vz nD 0 (kn gC) (by rw[eW (t:=gC) nD];exact aC _) (by rw[List.take_zero,jG,c_ (by rw[eW (t:=gC) nD,eW (h4.Wu Vz)];exact aC _),i_])
   have q5:g_ _ (w4.setRow tb (putAt (cU X.ah).toArray (n*45) (kn gC))) _ _ _ _ _ _ _:=⟨Ys,h5,n4,KX.setRow (λ_=>.inr (.inl rfl)) _⟩
   have rX:(w4.setRow tb (putAt (cU X.ah).toArray (n*45) (kn gC))).heap[w.heap.size]? =some (.cells aH 64 (0,0)):=by
    rw[cG _ _ _ _ (by omega)];exact qO
   have am:(w4.setRow tb (putAt (cU X.ah).toArray (n*45) (kn gC))).heap[rb]? =some (.cells (bJ O) 64 (0,0)):=by
    rw[cG _ _ _ _ (by omega)];exact aa
   have Lw:n*45+(kn gC).length<=(cU X.ah).toArray.size:=by rw[P6,eW (t:=gC) nD];omega
   have sI:(prog.info? 173).map (·.size)=some (kn gC).length:=by rw[eW (t:=gC) nD];exact Iz
   have sO:=C0 gC;have sA:=Fv;generalize (cU X.ah).toArray=TA at*;generalize kn gC=TL at*;have Of:=af sA;clear h4 n4 KX h5 J qO aa Vz P6 ad sA
   go_upto_region 9 with(refine iu rfl 173 (.tmp 36) (.tmp 35) rfl tb (n*45) TL rfl (by rw[Of.out];rfl) 173 TA aI sI Lw sO ?_)
   generalize w4.setRow tb (putAt TA (n*45) TL)=w5 at*;have HQ:=af (g_.dR (K1.mono (λ_ _ x=>x.elim)) q5 rX (bJ O));have j7:=ax w5 w.heap.size aH (bJ O) 64 (0,0) rX;clear q5
   go_wp2_with (first|refine jO am F eJ aQ ?_|refine cj (bJ O) rX aQ rfl (cE _) ?_)
   refine bg (bB rfl _ _ w.heap.size 64 (bJ O) (0,0) dr rfl j7 F eJ aQ) rfl ?_;rw[HV.out];exact⟨rfl,HQ.out⟩
  |false=>?_
  have q4:g_ _ _ _ _ _ _ _ _ _:=⟨Ys,h4,n4,KX⟩
  have HQ:=af (g_.dR (K1.mono (λ_ _ x=>x.elim)) q4 qO (bJ O));have j7:=ax w4 w.heap.size aH (bJ O) 64 (0,0) qO;clear h4 n4 KX q4 J ad
  go_wp2_with (first|refine jO aa F eJ aQ ?_|refine cj (bJ O) qO aQ rfl (cE _) ?_)
  refine bg (bB rfl _ _ w.heap.size 64 (bJ O) (0,0) dr rfl j7 F eJ aQ) rfl ?_;rw[HV.out];exact⟨rfl,HQ.out⟩
 have xh:qK x u=none:=by
  unfold qK
  split
  ·rw[List.getElem?_eq_none_iff];omega
  rfl
 have E:(decide (0<=u)&&decide (u<(x.ah.length:Int)))=false:=by
  rw[Bool.eq_false_iff];intro e;apply hc;simpa using e
 rw[E]at Y;have HF:=af (show b8 ol x u=(x,dT,false,10)by unfold b8;rw[xh]);generalize b8 ol x u=SS at*;have Z:=af (ae G K1);clear h G hg I K1 hc xh E
 go_enter func63,ntmps63
 go_upto_region 1 with(fail)
 generalize w.alloc (.cells aH 64)=w1 at*;have HQ:=af (g_.dR (Z.out.2.mono (λ_ _ x=>x.elim)) (g_.refl Z.out.1) D aH);have j7:=ax w1 w.heap.size aH aH 64 (0,0) D
 go_wp2_with fail
 refine hm Y ?_;rintro r w2 ⟨rfl,rfl⟩;clear Y Z
 go_wp2_with (refine cj aH D aQ rfl (cE dT) ?_)
 refine bg (bB rfl _ _ w.heap.size 64 aH (0,0) dr rfl j7 F eJ aQ) rfl ?_;rw[HF.out];exact⟨rfl,HQ.out⟩
end
namespace Ch
theorem vN{e:ByteArray}(h:e.size<1\/4<e.size):iV e=false:=by
 grind[iV]
theorem BQ{e:ByteArray}{i:Nat}(h:i<e.size)(hb:ez (ag e i)=false):iV e=false:=by
 grind[iV,ez,ag]
theorem Fz{e:ByteArray}(D:¬e.size<1)(E:¬ 4<e.size)(h:∀j,j<e.size->ez (ag e j)=true):iV e=true:=by
 grind[iV,ez,ag]
end Ch
theorem tS{e:ByteArray}(h:¬e=⟨#[]⟩):e.toList.isEmpty=false:=by rw[<-decide_eq_emptyBytes];exact e_ h
def r_(r:Rq):Array Value:=#[.int .i64 r.kind,.string r.events,.int .i64 r.at_]
section
variable (w:World)
theorem FB(e:ByteArray):
 Calls prog 186 #[.string e] w λr w'=>r= .returned (.bool (iV e))/\w'=w:=by
 by_cases h1:e.size<1
 ·have G:=af (vN (Or.inl h1))
  have U:(e.size:Int)<1:=by omega
  go_enter func186,ntmps186
  go_wp2;go_ret;exact⟨by rw[G.out];rfl,rfl⟩
 have U:¬(e.size:Int)<1:=by omega
 by_cases h2:4<e.size
 ·have G:=af (vN (Or.inr h2))
  have X:(4:Int)<(e.size:Int):=by omega
  go_enter func186,ntmps186
  go_wp2;go_ret;exact⟨by rw[G.out];rfl,rfl⟩
 have X:¬(4:Int)<(e.size:Int):=by omega
 have HH:=af (ae h1 h2)
 go_enter func186,ntmps186
 go_wp2_with fail
 go_loopw [3] (λiv wr=>∃i:Nat,iv= .int .i64 i/\i<=e.size/\wr=w/\Hid (∀j,j<i->ez (ag e j)=true)) (λiv _=>e.size-(intOf iv).toNat)
 case atStart=>exact⟨0,rfl,aG _,rfl,af (λj hj=>by omega)⟩
 case round=>
  obtain⟨i,rfl,ad,rfl,O⟩:=hrel
  by_cases E:i<e.size
  ·have J:(i:Int)<(e.size:Int):=by omega
   have D:ag e i=((e[i]'E).toNat:Int):=by simp[ag,E]
   have aa:_=some (e[i]'E):=getElem?_pos e i E;have F:=af (me (ag e i) wr);have Z:=af (λq=>BQ E q)
   have Y:Hid (ez (ag e i)=true->∀j,j<i+1->ez (ag e j)=true):=af (λq j hj=>by
    by_cases e1:j=i
    ·subst e1;exact q
    exact O.out j (by omega))
   rw[D]at F;generalize I:ez (ag e i)=ev at*;rw[<-D,I]at F;rw[D]at F;have HP:=af D;clear D O I;generalize hc:((e[i]'E).toNat:Int)=c at*
   go_wp2_with fail
   refine hm F ?_;rintro r w2 ⟨rfl,rfl⟩;clear F
   cases ev with
   |true=>
    go_wp2
    go_roundw
    case rel=>exact⟨i+1,by go_num,by omega,by first|rfl|trivial,af (Y.out (by first|rfl|trivial))⟩
    case measure=>simp[intOf];omega
   |false=>?_
   go_wp2;go_ret;exact⟨by rw[Z.out (by first|rfl|trivial)];rfl,rfl⟩
  have J:¬(i:Int)<(e.size:Int):=by omega
  obtain rfl:i=e.size:=by omega
  have G:=af (Fz HH.out.1 HH.out.2 O.out);clear O;go_wp2;go_ret;exact⟨by rw[G.out];rfl,rfl⟩
theorem AK(r:Rq):
 Calls prog 136 #[.agg (r_ r)] w λx w'=>x= .returned (.bool (mJ r))/\Kp (λ_=>False) w w':=by
 obtain⟨kd,ev,a⟩:=r;have K1:Kp (λ_=>False) w (w.alloc (.cells #[.int .i64 kd,.string ev,.int .i64 a] 79)):=(Kp.refl _ _).alloc _;have U:=af (FB (w.alloc (.cells #[.int .i64 kd,.string ev,.int .i64 a] 79)) ev)
 have G:=af (show mJ ⟨kd,ev,a⟩=if kd=1 then iV ev&&decide (-1<=a)
  else if kd=2 then decide (ev.size=0)&&decide (a=0)
  else if kd=3 then decide (ev.size=0)&&decide (-1<=a)
  else if kd=4 then decide (ev.size=0)&&decide (0<=a)
  else false from rfl)
 generalize mJ ⟨kd,ev,a⟩=RQ at*;generalize iV ev=bt at*;have I:=af K1;clear K1;unfold r_
 by_cases J:kd=1
 ·have F:=af (G.out.trans (aq J))
  clear G;subst J
  go_enter func136,ntmps136
  go_wp2_with fail
  refine hm U ?_;rintro r w2 ⟨rfl,rfl⟩;clear U
  cases bt with
  |true=>
   go_wp2;go_ret;exact⟨by rw[F.out];rfl,I.out⟩
  |false=>?_
  go_wp2;go_ret;exact⟨by rw[F.out];rfl,I.out⟩
 by_cases O:kd=2
 ·have F:=af (G.out.trans ((ay J).trans (aq O)))
  clear G U J;subst O
  by_cases E:ev=⟨#[]⟩
  ·subst E
   go_enter func136,ntmps136
   go_wp2;go_ret;exact⟨by rw[F.out];rfl,I.out⟩
  have Y:=tS E
  have D:¬ev.size=0:=λz=>E (by apply ky;exact tu z)
  have X:=af D;clear D E
  go_enter func136,ntmps136
  go_wp2;go_ret;exact⟨by rw[F.out,e_ X.out];rfl,I.out⟩
 by_cases Z:kd=3
 ·have F:=af (G.out.trans ((ay J).trans ((ay O).trans (aq Z))))
  clear G U J O;subst Z
  by_cases E:ev=⟨#[]⟩
  ·subst E
   go_enter func136,ntmps136
   go_wp2;go_ret;exact⟨by rw[F.out];rfl,I.out⟩
  have Y:=tS E
  have D:¬ev.size=0:=λz=>E (by apply ky;exact tu z)
  have X:=af D;clear D E
  go_enter func136,ntmps136
  go_wp2;go_ret;exact⟨by rw[F.out,e_ X.out];rfl,I.out⟩
 by_cases q4:kd=4
 ·have F:=af (G.out.trans ((ay J).trans ((ay O).trans ((ay Z).trans (aq q4)))))
  clear G U J O Z;subst q4
  by_cases E:ev=⟨#[]⟩
  ·subst E
   go_enter func136,ntmps136
   go_wp2;go_ret;exact⟨by rw[F.out];rfl,I.out⟩
  have Y:=tS E
  have D:¬ev.size=0:=λz=>E (by apply ky;exact tu z)
  have X:=af D;clear D E
  go_enter func136,ntmps136
  go_wp2;go_ret;exact⟨by rw[F.out,e_ X.out];rfl,I.out⟩
 have F:=af (G.out.trans ((ay J).trans ((ay O).trans ((ay Z).trans (ay q4)))));clear G U
 go_enter func136,ntmps136
 go_wp2;go_ret;exact⟨by rw[F.out];rfl,I.out⟩
theorem FC(r:Rq):
 Calls prog 137 #[.agg (r_ r)] w λx w'=>x= .returned (.agg (kn (pQ r)).toArray)/\Kp (λ_=>False) w w':=by
 obtain⟨kd,ev,a⟩:=r;obtain⟨dt,X,U⟩:=Yf;have J:(pQ ⟨kd,ev,a⟩).now.Wf:=nD
 have sI:(prog.info? 173).map (·.size)=some (kn (pQ ⟨kd,ev,a⟩)).toArray.size:=by
  rw[show(kn (pQ ⟨kd,ev,a⟩)).toArray.size=45 by simp[eW J]];exact Iz
 have sS:(kn (pQ ⟨kd,ev,a⟩)).toArray.size=Ae.size:=by rw[show(kn (pQ ⟨kd,ev,a⟩)).toArray.size=45 by simp[eW J]];rfl
 have sO:(kn (pQ ⟨kd,ev,a⟩)).toArray.all (λx=>x.oneCell')=true:=by
  apply gN.2;intro x hx;exact C0 _ x (by simpa using hx)
 have HB:=af (show prog.built 173 [(0,.int .i64 kd),(1,.string ev),(2,.int .i64 a)]=some (kn (pQ ⟨kd,ev,a⟩)).toArray by kernel_rfl);have Z:Kp (λ_=>False) w ((w.alloc (.cells #[.int .i64 kd,.string ev,.int .i64 a] 79)).alloc (.cells Ae 173)):=((Kp.refl _ _).alloc _).alloc _
 have D:((w.alloc (.cells #[.int .i64 kd,.string ev,.int .i64 a] 79)).alloc (.cells Ae 173)).heap[w.heap.size]? =some (.cells #[.int .i64 kd,.string ev,.int .i64 a] 79):=by
  rw[cQ _ _ _ (by simp)];exact an _ _
 have G:((w.alloc (.cells #[.int .i64 kd,.string ev,.int .i64 a] 79)).alloc (.cells Ae 173)).heap[w.heap.size+1]? =_:=nV w _ _;generalize (kn (pQ ⟨kd,ev,a⟩)).toArray=O at*;unfold r_
 go_enter func137,ntmps137
 go_upto_region 1 with(fail)
 generalize (w.alloc (.cells #[.int .i64 kd,.string ev,.int .i64 a] 79)).alloc (.cells Ae 173)=F at*
 have x1:F.cell? ⟨w.heap.size,1,none⟩=some (.string ev):=by rw[World.cell?,D];rfl
 have aa:=Lib.run_convert_string_bytes (P:=prog) F 9 47 5 ev underlying9 underlying47 underlying5;have WT:=BN F ev (grownCap F ev.size 0 5);have KB:=zy F 5 ev;have E:=KB.at_ D (λx=>x);have I:=KB.at_ G (λx=>x);have KA:=Z.trans KB;generalize grownCap F ev.size 0 5=cp at*;generalize Lib.bytesWorld F 5 ev=Y at*
 have y0:Y.cell? ⟨w.heap.size,0,none⟩=some (.int .i64 kd):=by rw[World.cell?,E];rfl
 have y2:Y.cell? ⟨w.heap.size,2,none⟩=some (.int .i64 a):=by rw[World.cell?,E];rfl
 have KF:=KA.setRow (g:=w.heap.size+1) (λx=>by omega) O;have j7:=ax Y (w.heap.size+1) Ae O 173 (0,0) I;clear KA KB Z D G E
 go_wp2_with (first|(refine jc rfl 173 #[(0,.tmp 9),(1,.tmp 10),(2,.tmp 12)] rfl O [(0,.int .i64 kd),(1,.string ev),(2,.int .i64 a)] ?_ HB.out ?_;rfl)|refine cj O I sI sS.symm sO ?_)
 refine uu j7 X U sI ?_;exact⟨rfl,KF⟩
