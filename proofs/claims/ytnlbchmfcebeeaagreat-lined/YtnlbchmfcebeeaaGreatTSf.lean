import Derived.Test.YtnlbchmfcebeeaaGreatTSd
set_option maxHeartbeats 12800000
set_option maxRecDepth 100000
namespace Go.Proofs.YtnlbchmfcebeeaaGreat
open Go.Proofs.Tryz Ch
open Go.RowKit
namespace Ch
def eD(ol:Ol)(t:Tk):Tk×Int:=
 if t.events.size<=t.fired then(t,0)
 else if(aQ ol t.now (af t.events t.fired)).2.2 !=0 then(t,(aQ ol t.now (af t.events t.fired)).2.2)
 else({t with fired:=t.fired+1,now:=(aQ ol t.now (af t.events t.fired)).1,out:=t.out++(aQ ol t.now (af t.events t.fired)).2.1},0)
theorem kL(x:Sv)(u:Nat)(a b:Tk):ay (ay x u a) u b=ay x u b:=by simp[ay,List.set_set]
theorem qV{x:Sv}{u:Nat}(h:u<x.tasks.length)(a:Tk):(ay x u a).tasks[u]? =some a:=by unfold ay;simp only;rw[List.getElem?_set_self h]
theorem zn{x:Sv}{u:Nat}{t:Tk}(h:x.tasks[u]? =some t):ay x u t=x:=by
 obtain⟨h1,e⟩:=List.getElem?_eq_some_iff.1 h;unfold ay;rw[<-e,List.set_getElem_self]
end Ch
section
variable {w:World} {xb tb:Nat} {T:TypeId} {pc:Pc} {ol:Ol} {x:Sv} {kv:Value}
theorem dT.NH(h:dT w xb tb T pc ol x kv){u:Nat}{t t':Tk}(hu:x.tasks[u]? =some t)(hw:t'.now.Wf)(j:Nat)(hj:j<45)(v:Value)(ht:js t'=(js t).set j v):
 dT (w.setCell ⟨tb,u*45+j,none⟩ v) xb tb T pc ol (ay x u t') kv:=h.Yi hu hw j hj v ht
theorem dT.Yl(h:dT w xb tb T pc ol x kv){u:Nat}{t t':Tk}(hu:x.tasks[u]? =some t)(hw:t'.now.Wf)(j:Nat)(l:List Value)(hj:j+l.length<=45)(ht:js t'=(js t).take j++l++(js t).drop (j+l.length)):
 dT (w.setRow tb (putAt (cB x.tasks).toArray (u*45+j) l)) xb tb T pc ol (ay x u t') kv:=h.agW hu hw j l hj ht
end
section
variable (w:World) {xb tb:Nat} {pc:Pc} {ol:Ol} {x:Sv} {kv:Value}
theorem Ik(h:dT w xb tb 138 pc ol x kv)(hol:ol.Ok){u:Nat}{t:Tk}(hu:x.tasks[u]? =some t)(hok:t.now.Ok)(hfi:t.fired<=1000)(hou:t.out.size<=1000000000):
 Calls prog 260 #[.pointer (some ⟨xb,0,none⟩),.pointer (some ⟨tb,u*45,none⟩)] w λr w'=>r= .returned (.int .i64 (eD ol t).2)/\dT w' xb tb 138 pc ol (ay x u (eD ol t).1) kv/\Kp (oN xb tb kv) w w':=by
 obtain⟨ds,hds,eY⟩:=eT;have hwf:=hok.1;have c5:w.cell? ⟨tb,u*45+5,none⟩=some (.int .i64 t.fired):=h.gW hu (by omega);have c1:w.cell? ⟨tb,u*45+1,none⟩=some (.string t.events):=h.gW hu (by omega);have hlt:=(List.getElem?_eq_some_iff.1 hu).1;have hsf:=zn hu
 have HU:=hid (show eD ol t=if t.events.size<=t.fired then(t,0)
  else if(aQ ol t.now (af t.events t.fired)).2.2 !=0 then(t,(aQ ol t.now (af t.events t.fired)).2.2)
  else({t with fired:=t.fired+1,now:=(aQ ol t.now (af t.events t.fired)).1,out:=t.out++(aQ ol t.now (af t.events t.fired)).2.1},0)from rfl)
 generalize eD ol t=FT at*;have HH:=hid (ae h (ae hu hsf));clear h hu hsf
 go_enter func260,ntmps260
 go_upto_region 1 with(fail)
 by_cases hge:t.events.size<=t.fired
 ·have HF:=hid (HU.out.trans (if_pos hge))
  have hge':(t.events.size:Int)<=(t.fired:Int):=by omega
  clear HU
  go_quiet (fail)
  rename_i nq;have KD:=(Kp.refl (λ_=>False) w).drewN nq;have HK:=hid KD;clear KD;go_wp2;go_ret;rw[HF.out];exact⟨rfl,by rw[HH.out.2.2];exact HH.out.1.ai HK.out,HK.out.mono (λ_ _ x=>x.elim)⟩
 have hge':¬(t.events.size:Int)<=(t.fired:Int):=by omega
 have hlt2:t.fired<t.events.size:=by omega
 have hlt3:(t.fired:Int)<(t.events.size:Int):=by omega
 have hpk:af t.events t.fired=((t.events[t.fired]'hlt2).toNat:Int):=by simp[af,hlt2]
 have HV:=hid (HU.out.trans (if_neg hge));rw[hpk]at HV;clear HU
 go_quiet (fail)
 rename_i nq;have h1:=HH.out.1.ai ((Kp.refl (λ_=>False) w).drewN nq);have K1:Kp (λ_=>False) w (w.drewN nq):=(Kp.refl (λ_=>False) w).drewN nq;have d5:(w.drewN nq).cell? ⟨tb,u*45+5,none⟩=some (.int .i64 t.fired):=c5;have d1:(w.drewN nq).cell? ⟨tb,u*45+1,none⟩=some (.string t.events):=c1;generalize w.drewN nq=w1 at*;have hidx:t.events[t.fired]? =some (t.events[t.fired]'hlt2):=getElem?_pos t.events t.fired hlt2;generalize hc:((t.events[t.fired]'hlt2).toNat:Int)=c at*;have oU:=lP (ol:=ol) hok c;have hfs:=jW hol t.now c
 have Ml:(prog.info? 95).map (·.size)=some (ax t.now).length:=by rw[bE hwf];exact bV
 have E1:∀W,Pl W xb 0 ol->Hid (Calls prog 57 #[.pointer (some ⟨xb,0,none⟩),.agg (ax t.now).toArray,.int .u8 c] W λr w'=>r= .returned (.tuple #[.agg (ax (aQ ol t.now c).1).toArray,.string (aQ ol t.now c).2.1,.int .i64 (aQ ol t.now c).2.2])/\Kp (λ_=>False) W w'):=λW h=>hid (yd W xb 0 ol t.now c hok h hol)
 have hg5:∀w':World,w'.heap[tb]? =some (.cells (cB x.tasks).toArray 173 (0,0))->w'.cell? ⟨tb,u*45+5,none⟩=some (.int .i64 t.fired):=by
  intro w' hb;rw[hY hb];exact jP js 45 x.tasks u t 5 (λa ha=>eH (h1.tw a ha)) HH.out.2.1 (by omega)
 have hg1:∀w':World,w'.heap[tb]? =some (.cells (cB x.tasks).toArray 173 (0,0))->w'.cell? ⟨tb,u*45+1,none⟩=some (.string t.events):=by
  intro w' hb;rw[hY hb];exact jP js 45 x.tasks u t 1 (λa ha=>eH (h1.tw a ha)) HH.out.2.1 (by omega)
 have hg6:∀w':World,w'.heap[tb]? =some (.cells (cB x.tasks).toArray 173 (0,0))->∀j v,(ax t.now)[j]? =some v->w'.cell? ⟨tb,u*45+6+j,none⟩=some v:=by
  intro w' hb j v hj;have hl:=(List.getElem?_eq_some_iff.1 hj).1;rw[bE hwf]at hl;rw[hY hb,Nat.add_assoc];exact(jP js 45 x.tasks u t (6+j) (λa ha=>eH (h1.tw a ha)) HH.out.2.1 (by omega)).trans (QY j v hj)
 have htb:=h1.rX;have hp1:=h1.plan;have HX:=hid (ae h1 (ae K1 (ae E1 (ae hg5 (ae hg1 (ae hg6 hp1))))));clear h1 K1 E1 hg5 hg1 hg6 hp1;generalize hmf:aQ ol t.now c=mf at*;obtain⟨fs,ft,fe⟩:=mf;clear hmf;simp only at oU HV HX hfs;have fI:=fG oU.1
 have fI':(prog.info? 95).map (·.size)=some (ax fs).length:=by rw[bE oU.1];exact bV
 have fS:=gz oU.1;have fL:=bE oU.1;have fO:=j3 fs;have fO':=qQ fs;have Ym:=HH.out.1.LH;generalize hFL:ax fs=FL at*;generalize hTA:(cB x.tasks).toArray=TA at*;have Iy:=hid (ae hFL hTA);clear hFL hTA
 go_upto_region 3 with(fail)
 go_cut [5,6,7]from 18 to 38 (λp e f wx=>∃fb,p= .pointer (some ⟨fb,0,none⟩)/\e= .string ft/\f= .int .i64 fe/\wx.heap[fb]? =some (.cells FL.toArray 95 (0,0))/\Kp (λ_=>False) w1 wx)
 case first=>
  obtain⟨h1,K1,E1,hg5,hg1,hg6,hp1⟩:=HX.out;have hS0:w1.drew.heap[tb]? =some (.cells TA 173 (0,0)):=htb;have pq:Kp (λ_=>False) w1 w1.drew:=(Kp.refl _ _).drewN 1;refine az (λw'=>w'.heap[tb]? =some (.cells TA 173 (0,0))) (by kernel_rfl) ?_;refine aU 0 19 (.pointer (some ⟨xb,0,none⟩)) hS0 ?_;refine aU 1 20 (.pointer (some ⟨xb,0,none⟩)) hS0 ?_;refine aU 2 21 (.pointer (some ⟨xb,0,none⟩)) hS0 ?_;refine aU 3 22 (.pointer (some ⟨tb,u*45,none⟩)) hS0 ?_;refine aU 4 23 (.pointer (some ⟨tb,u*45,none⟩)) hS0 ?_;refine aU 5 24 (.pointer (some ⟨tb,u*45+6,none⟩)) hS0 ?_;refine dM 6 25 (.agg (ax t.now).toArray) rfl (λw' hS=>ei 95 (.tmp 24) rfl tb (u*45+6) rfl (ax t.now) ds (hg6 w' hS) hds eY Ml) hS0 ?_;refine aU 7 26 (.pointer (some ⟨tb,u*45,none⟩)) hS0 ?_;refine aU 8 27 (.pointer (some ⟨tb,u*45,none⟩)) hS0 ?_;refine aU 9 28 (.pointer (some ⟨tb,u*45+1,none⟩)) hS0 ?_;refine dM 10 29 (.string t.events) rfl (λw' hS=>by simp[execOp,Act.eval,go_sem,hg1 w' hS]) hS0 ?_;refine aU 11 30 (.pointer (some ⟨tb,u*45,none⟩)) hS0 ?_;refine aU 12 31 (.pointer (some ⟨tb,u*45,none⟩)) hS0 ?_;refine aU 13 32 (.pointer (some ⟨tb,u*45+5,none⟩)) hS0 ?_;refine dM 14 33 (.int .i64 t.fired) rfl (λw' hS=>by simp[execOp,Act.eval,go_sem,hg5 w' hS]) hS0 ?_;refine dM 15 34 (.int .u8 c) rfl (λw' _=>by simp[execOp,Act.eval,go_sem,hlt2,hc]) hS0 ?_;refine k6 16 21 (by kernel_rfl) rfl rfl rfl rfl ?_ ?_
  ·refine bS (some 35) rfl 57 #[.pointer (some ⟨xb,0,none⟩),.agg (ax t.now).toArray,.int .u8 c] (by simp[execOp,Act.eval,go_sem]) _ (λw'=>Kp (λ_=>False) w1.drew w') (E1 w1.drew (hp1.keep pq (λ_ _ _ _ _ x=>x))).out ?_
   intro w5 K5;have mW:=K5.at_ hS0 (λx=>x);have hnew:=heap_alloc_new w5 (.cells aW 95);have HS6:(w5.alloc (.cells aW 95)).heap[tb]? =some (.cells TA 173 (0,0)):=(Below.heap_alloc _ _ _ (lt_of_block mW)).trans mW
   have hne:tb≠w5.heap.size:=by have:=lt_of_block mW;omega
   have Dk:((w5.alloc (.cells aW 95)).setRow w5.heap.size FL.toArray).heap[tb]? =some (.cells TA 173 (0,0)):=by rw[setRow_other _ _ _ _ hne];exact HS6
   refine⟨mW,?_⟩;refine eC 17 18 (.tuple #[.agg FL.toArray,.string ft,.int .i64 fe]) rfl (λw' _=>by simp[execOp,Act.eval,Act.put,go_sem]) mW ?_;refine eC 18 36 (.agg FL.toArray) rfl (λw' _=>by simp[execOp,Act.eval,Act.put,go_sem]) mW ?_;refine eC 19 37 (.string ft) rfl (λw' _=>by simp[execOp,Act.eval,Act.put,go_sem]) mW ?_;refine eC 20 38 (.int .i64 fe) rfl (λw' _=>by simp[execOp,Act.eval,Act.put,go_sem]) mW ?_;refine jD 21 ?_;refine dZ (some 5) rfl (.pointer (some ⟨w5.heap.size,0,none⟩)) (w5.alloc (.cells aW 95)) (by simp[execOp,go_sem]) ?_;refine⟨HS6,?_⟩;refine bF 22 (by kernel_rfl) rfl rfl 95 (.tmp 5) (.tmp 36) rfl rfl w5.heap.size FL.toArray (by simp[Act.eval,Act.put]) (by simp[Act.eval,Act.put]) 95 aW hnew fI (by rw[fS];rfl) fO Dk ?_;refine eC 23 6 (.string ft) rfl (λw' _=>by simp[execOp,Act.eval,Act.put,go_sem]) Dk ?_;refine eC 24 7 (.int .i64 fe) rfl (λw' _=>by simp[execOp,Act.eval,Act.put,go_sem]) Dk ?_;refine wpAnyH_done (by kernel_rfl) (NoPanic.normal ?_) _;simp only[Act.put,pA,pB,pC]
   go_wp2_with fail
   go_meet
   exact⟨w5.heap.size,rfl,rfl,rfl,setRow_heap _ _ _ _ _ _ hnew,((pq.trans K5).alloc _).setRow (λx=>by have:=(pq.trans K5).size;omega) _⟩
  refine dZ (some 5) rfl (.pointer (some ⟨w1.heap.size,0,none⟩)) (w1.drew.alloc (.cells aW 95)) (by simp[execOp,go_sem]) ?_;have hnew:=heap_alloc_new w1.drew (.cells aW 95);have Qh:=pq.alloc (.cells aW 95);have Va:(w1.drew.alloc (.cells aW 95)).heap[tb]? =some (.cells TA 173 (0,0)):=(Below.heap_alloc _ _ _ (lt_of_block hS0)).trans hS0;refine⟨Va,?_⟩;refine jD 16 ?_;simp only[Act.put,pA,pB,pC];refine bS (some 35) rfl 57 #[.pointer (some ⟨xb,0,none⟩),.agg (ax t.now).toArray,.int .u8 c] (by simp[execOp,Act.eval,go_sem]) _ (λw'=>Kp (λ_=>False) (w1.drew.alloc (.cells aW 95)) w') (E1 _ (hp1.keep Qh (λ_ _ _ _ _ x=>x))).out ?_;intro w5 K5;have mW:=K5.at_ Va (λx=>x);have kR:w5.heap[w1.heap.size]? =some (.cells aW 95 (0,0)):=K5.at_ (k:=w1.heap.size) (by exact hnew) (λx=>x)
  have hne:tb≠w1.heap.size:=by have:=lt_of_block hS0;have e:w1.drew.heap.size=w1.heap.size:=rfl;omega
  have Dk:(w5.setRow w1.heap.size FL.toArray).heap[tb]? =some (.cells TA 173 (0,0)):=by rw[setRow_other _ _ _ _ hne];exact mW
  refine⟨mW,?_⟩;refine eC 17 18 (.tuple #[.agg FL.toArray,.string ft,.int .i64 fe]) rfl (λw' _=>by simp[execOp,Act.eval,Act.put,go_sem]) mW ?_;refine eC 18 36 (.agg FL.toArray) rfl (λw' _=>by simp[execOp,Act.eval,Act.put,go_sem]) mW ?_;refine eC 19 37 (.string ft) rfl (λw' _=>by simp[execOp,Act.eval,Act.put,go_sem]) mW ?_;refine eC 20 38 (.int .i64 fe) rfl (λw' _=>by simp[execOp,Act.eval,Act.put,go_sem]) mW ?_;refine bF 22 (by kernel_rfl) rfl rfl 95 (.tmp 5) (.tmp 36) rfl rfl w1.heap.size FL.toArray (by simp[Act.eval,Act.put]) (by simp[Act.eval,Act.put]) 95 aW kR fI (by rw[fS];rfl) fO Dk ?_;refine eC 23 6 (.string ft) rfl (λw' _=>by simp[execOp,Act.eval,Act.put,go_sem]) Dk ?_;refine eC 24 7 (.int .i64 fe) rfl (λw' _=>by simp[execOp,Act.eval,Act.put,go_sem]) Dk ?_;refine wpAnyH_done (by kernel_rfl) (NoPanic.normal ?_) _;simp only[Act.put,pA,pB,pC]
  go_wp2_with fail
  go_meet
  exact⟨w1.heap.size,rfl,rfl,rfl,setRow_heap _ _ _ _ _ _ kR,(Qh.trans K5).setRow (λx=>by omega) _⟩
 case rest=>
  obtain⟨fb,rfl,rfl,rfl,GF,KC⟩:=hcut;have hC:=HX.out.1.ai KC;have KA:=HX.out.2.1.trans KC;clear KC htb d5 d1
  cases q1:fe !=0 with
  |true=>
   have HF:=hid (HV.out.trans (show _=(t,fe)by rw[q1];rfl));have HK:=hid (ae hC KA);clear HV hC KA HX
   go_wp2_with fail
   go_ret;rw[HF.out];exact⟨rfl,by rw[HH.out.2.2];exact HK.out.1,HK.out.2.mono (λ_ _ x=>x.elim)⟩
  |false=>?_
  have hfe:fe=0:=by simpa using q1
  subst hfe;have HF:=hid (HV.out.trans (show _=({t with fired:=t.fired+1,now:=fs,out:=t.out++ft},(0:Int))by rw[q1];rfl))
  have htc:wc.heap[tb]? =some (.cells TA 173 (0,0)):=by have:=hC.rX;rw[Iy.out.2]at this;exact this
  have QH:u*45+6+FL.length<=TA.size:=by rw[Ym,fL];omega
  have h6:=hC.Yl (t':={t with now:=fs}) HH.out.2.1 oU.1 6 FL (by omega) (by rw[<-Iy.out.1];exact vL (t':={t with now:=fs}) hwf oU.1 rfl rfl);rw[Iy.out.2]at h6;have K6:Kp (oN xb tb kv) w (wc.setRow tb (putAt TA (u*45+6) FL)):=(KA.mono (S':=oN xb tb kv) (λ_ _ x=>x.elim)).setRow (λ_=>.inr (.inl rfl)) _;clear HV hC KA HX
  go_upto_region 7 with(first|refine iR rfl 95 (.tmp 45) (.tmp 43) rfl tb (u*45+6) FL rfl rfl 173 TA htc fI' QH fO' ?_|refine wpList_load_row rfl 95 (.tmp 5) rfl fb rfl 95 FL.toArray (0,0) ds GF hds (by cases ds<;>first|rfl|exact absurd eY (by simp[ak])) fI ?_)
  generalize wc.setRow tb (putAt TA (u*45+6) FL)=w6 at*;have hu6:=qV hlt {t with now:=fs};have c42:w6.cell? ⟨tb,u*45+42,none⟩=some (.string t.out):=(h6.gW hu6 (by omega)).trans (lY (t:={t with now:=fs}) oU.1 0);have f42:=h6.FJ (u*45+42)
  have hadd:=λw'=>run_string_add_sum (P:=prog) w' t.out ft (by omega)
  have h7:=h6.NH (t':={t with now:=fs,out:=t.out++ft}) hu6 oU.1 42 (by omega) (.string (t.out++ft)) (tX (t:={t with now:=fs}) (t':={t with now:=fs,out:=t.out++ft}) oU.1 rfl rfl 0 _ rfl);rw[kL]at h7;have K7:Kp (oN xb tb kv) w (w6.setCell ⟨tb,u*45+42,none⟩ (.string (t.out++ft))):=K6.setCell (p:=⟨tb,u*45+42,none⟩) (λ_=>.inr (.inl rfl)) _;clear h6 K6 hu6 GF htc QH;generalize hTO:t.out++ft=TO at*
  go_upto_region 8 with(fail)
  generalize w6.setCell ⟨tb,u*45+42,none⟩ (.string TO)=w7 at*;have hu7:=qV hlt {t with now:=fs,out:=TO};have e5:w7.cell? ⟨tb,u*45+5,none⟩=some (.int .i64 t.fired):=h7.gW hu7 (by omega);have f5:=h7.FJ (u*45+5)
  have ef:((t.fired+1:Nat):Int)=(t.fired:Int)+1:=by omega
  have h8:=h7.NH (t':={t with fired:=t.fired+1,now:=fs,out:=TO}) hu7 oU.1 5 (by omega) (.int .i64 ((t.fired:Int)+1)) (tY (t:={t with now:=fs,out:=TO}) (t':={t with fired:=t.fired+1,now:=fs,out:=TO}) rfl rfl 5 (by omega) _ (by rw[<-ef];rfl));rw[kL]at h8;have K8:Kp (oN xb tb kv) w (w7.setCell ⟨tb,u*45+5,none⟩ (.int .i64 ((t.fired:Int)+1))):=K7.setCell (p:=⟨tb,u*45+5,none⟩) (λ_=>.inr (.inl rfl)) _;have HZ:=hid (ae h8 K8);clear h7 K7 hu7 h8 K8 c42 f42 hadd
  go_wp2_with fail
  go_ret;rw[HF.out];exact⟨rfl,HZ.out.1,HZ.out.2⟩
end
namespace Ch
theorem CN{ol:Ol}(hol:ol.Ok):∀(n:Nat) {s:Sd} {l:List Int} {r:Sd×ByteArray},cI ol n s l=some r->r.2.size<=l.length+230400*n:=by
 intro n
 induction n with
 |zero=>intro s l r h;simp[cI]at h
 |succ n ih=>?_
 intro s l r h;simp only[cI]at h
 split at h
 ·split at h
  ·have:=ih h
   rw[List.length_append,wE]at this;have:=jW hol (aZ s).2.2 (aZ s).1;omega
  have:=ih h;omega
 simp at h;subst h;show(strOfNums l).size<=_;rw[strOfNums_size];omega
def vX(ol:Ol)(s:Sd):Sd×ByteArray:=match cI ol 17 (tick s) []with|some r=>r|none=>(s,⟨#[]⟩)
theorem xB{ol:Ol}{s:Sd}(h:(cI ol 17 (tick s) []).isSome=true):cI ol 17 (tick s) []=some (vX ol s):=by
 obtain⟨r,hr⟩:=Option.isSome_iff_exists.1 h;unfold vX;rw[hr]
def vh(ol:Ol)(x:Sv):Sv×Rp:=
 (j1 x (vX ol (dF x.kept)).1 (vX ol (dF x.kept)).2,{dR with ia:=(x.made:Int),text:=(vX ol (dF x.kept)).2})
def oO(x:Sv)(t:Tk):Tk:=if t.fired=0 then {t with now:=dF x.kept}else t
def t_(x:Sv)(t:Tk):Bool:=decide (t.fired=0)&&decide (0<=t.at_)&&decide (t.at_≠(x.made:Int)-1)
def rZ(ol:Ol)(x:Sv)(u:Nat)(t:Tk):Sv×Rp×Bool:=
 if(eD ol t).2 !=0 then(ay x u (eD ol t).1,{ib x (eD ol t).2 with idx:=((eD ol t).1.fired:Int)},true)
 else if(eD ol t).1.fired<(eD ol t).1.events.size then(ay x u (eD ol t).1,dR,false)
 else(j1 (ay x u (eD ol t).1) (eD ol t).1.now (eD ol t).1.out,{dR with ia:=(x.made:Int),idx:=((eD ol t).1.fired:Int),text:=(eD ol t).1.out},true)
def r9(ol:Ol)(x:Sv)(u:Nat)(t:Tk):Sv×Rp×Bool:=
 if t_ x t then(x,ib x 14,true)else rZ ol x u (oO x t)
def eE(ol:Ol)(x:Sv)(u:Nat)(t:Tk):Sv×Rp×Bool:=
 if t.kind=2 then((vh ol x).1,(vh ol x).2,true)else r9 ol x u t
def ud(x:Sv)(u:Nat)(t:Tk):Sv:={ay x u {t with drawn:=true,ticket:=x.bA}with bA:=x.bA+1}
def mE(ol:Ol)(x:Sv)(u:Nat)(t:Tk):Sv×Rp×Bool:=
 if t.drawn=false then(ud x u t,dR,false)
 else if t.ticket≠x.turn then(x,dR,false)
 else({(eE ol x u t).1 with turn:=if(eE ol x u t).2.2 then(eE ol x u t).1.turn+1 else(eE ol x u t).1.turn},(eE ol x u t).2)
def kh(ol:Ol)(x:Sv)(u:Nat)(t:Tk):Sv×Rp×Bool:=
 if t.kind=3 then mD ol x u t else if t.kind=4 then(x,qU x t.at_,true)else mE ol x u t
def ue(x:Sv)(u:Int):Option Tk:=if 0<=u then x.tasks[u.toNat]? else none
def cZ(ol:Ol)(x:Sv)(u:Int):Sv×Rp×Bool×Int:=match ue x u with
 |none=>(x,dR,false,10)
 |some t=>if t.kind=0 then(x,dR,false,13)
  else(if(kh ol x u.toNat t).2.2 then ay (kh ol x u.toNat t).1 u.toNat fB else(kh ol x u.toNat t).1,(kh ol x u.toNat t).2.1,(kh ol x u.toNat t).2.2,0)
structure Rq where
 kind:Int
 events:ByteArray
 at_:Int
def gK(e:ByteArray):Bool:=decide (1<=e.size)&&decide (e.size<=4)&&(List.range e.size).all (λj=>bR (af e j))
def mT(r:Rq):Bool:=
 if r.kind=1 then gK r.events&&decide (-1<=r.at_)
 else if r.kind=2 then decide (r.events.size=0)&&decide (r.at_=0)
 else if r.kind=3 then decide (r.events.size=0)&&decide (-1<=r.at_)
 else if r.kind=4 then decide (r.events.size=0)&&decide (0<=r.at_)
 else false
def vM(r:Rq):Tk:={fB with kind:=r.kind,events:=r.events,at_:=r.at_}
def yN(x:Sv)(u:Int)(r:Rq):Sv×Int:=match ue x u with
 |none=>(x,10)
 |some t=>if t.kind≠0 then(x,11)else if mT r then(ay x u.toNat (vM r),0)else(x,12)
def lE(ol:Ol)(n:Nat):Sv:=j1 ⟨0,[],0,⟨#[]⟩,List.replicate n fB,0,0⟩ (mstart ol).1 (mstart ol).2.1
end Ch
section
variable (w:World) {xb tb:Nat} {pc:Pc} {ol:Ol} {x:Sv} {kv:Value}
theorem Pz(h:dT w xb tb 138 pc ol x kv)(hbd:x.Bd)(hol:ol.Ok)(hk:0<x.kept.length)(hok:(dF x.kept).Ok)(hnz:∀k,k<(dF x.kept).tm.size->1<=af (dF x.kept).tm k)(hw:(cI ol 17 (Ch.tick (dF x.kept)) []).isSome=true):
 Calls prog 228 #[.pointer (some ⟨xb,0,none⟩)] w λr w'=>r= .returned (.agg (bW (vh ol x).2))/\gL w w' xb tb 138 pc ol kv (vh ol x).1:=by
 obtain⟨ds,hds,eY⟩:=eT;obtain⟨dr,hdr,kK⟩:=vf;have hlow:=h.low;have K1:Kp (λ_=>False) w (w.alloc (.cells aM 64)):=(Kp.refl _ _).alloc _;have hnew:=heap_alloc_new w (.cells aM 64);have h1:=h.ai K1;have hmd:=hbd.made;have hwt:=xB hw;have hro:=Jd (wG hok) hwt;have hrs:=CN hol 17 hwt;simp only[List.length_nil]at hrs;have EL:=hid (CL _ h1.shelf hk hbd.LI);have HU:=hid (show vh ol x=(j1 x (vX ol (dF x.kept)).1 (vX ol (dF x.kept)).2,{dR with ia:=(x.made:Int),text:=(vX ol (dF x.kept)).2})from rfl);generalize vh ol x=TS at*;generalize dF x.kept=ls at*
 have E1:∀W,Pl W xb 0 ol->Hid (Calls prog 77 #[.pointer (some ⟨xb,0,none⟩),.agg (ax ls).toArray] W λr w'=>r= .returned (.tuple #[.agg (ax (vX ol ls).1).toArray,.string (vX ol ls).2])/\Kp (λ_=>False) W w'):=λW h=>hid (Ec W xb 0 ol ls 17 (vX ol ls) hwt (by omega) hnz hok h hol)
 generalize vX ol ls=wr at*;obtain⟨fs,ft⟩:=wr;simp only at hro hrs HU E1;have sI:=fG hok.1;have sS:=gz hok.1;have sO:=j3 ls;have fI:=fG hro.1;have fS:=gz hro.1;have fO:=j3 fs;have HX:=hid (ae h1 (ae K1 (ae E1 hbd)));clear h h1 K1 hw hwt hnz E1 hok;generalize ye:(ax ls).toArray=SA at*;generalize yT:(ax fs).toArray=FA at*;have Iy:=hid yT;clear ye yT
 go_enter func228,ntmps228
 go_upto_region 1 with(fail)
 generalize w.alloc (.cells aM 64)=w1 at*
 go_wp2_with fail
 refine hm EL ?_;rintro r w2 ⟨rfl,K2⟩;have hn2:=K2.at_ hnew (λx=>x);have hnb:=heap_alloc_new w2 (.cells aW 95);have K3:Kp (λ_=>False) w2 ((w2.alloc (.cells aW 95)).setRow w2.heap.size SA):=((Kp.refl _ _).alloc _).setRow (λx=>by omega) _;have hb3:=setRow_heap (w2.alloc (.cells aW 95)) w2.heap.size aW SA 95 (0,0) hnb;have h3:=HX.out.1.ai (K2.trans K3);have KA:=HX.out.2.1.trans (K2.trans K3);have nD:=K3.at_ hn2 (λx=>x);have HY:=hid (ae h3 (ae KA nD));clear EL K2 K3 h3 KA nD hn2
 go_upto_region 2 with(refine wpList_store_row rfl 95 (.tmp 3) (.tmp 9) rfl w2.heap.size SA rfl rfl 95 aW hnb sI (by rw[sS];rfl) sO ?_)
 generalize (w2.alloc (.cells aW 95)).setRow w2.heap.size SA=w3 at*;generalize w2.heap.size=lb at*;simp only[Act.put]
 go_cut [4,5]from 10 to 17 (λp e wx=>∃fb,p= .pointer (some ⟨fb,0,none⟩)/\e= .string ft/\wx.heap[fb]? =some (.cells FA 95 (0,0))/\Kp (λ_=>False) w3 wx)
 case first=>
  have hp1:=HY.out.1.plan;have E1:=HX.out.2.2.1;have hS0:w3.drew.heap[lb]? =some (.cells SA 95 (0,0)):=hb3;have pq:Kp (λ_=>False) w3 w3.drew:=(Kp.refl _ _).drewN 1;refine az (λw'=>w'.heap[lb]? =some (.cells SA 95 (0,0))) (by kernel_rfl) ?_;refine aU 0 11 (.pointer (some ⟨xb,0,none⟩)) hS0 ?_;refine aU 1 12 (.pointer (some ⟨xb,0,none⟩)) hS0 ?_;refine aU 2 13 (.pointer (some ⟨xb,0,none⟩)) hS0 ?_;refine dM 3 14 (.agg SA) rfl (λw' hS=>bu 95 (.tmp 3) rfl lb rfl 95 SA (0,0) ds hS hds eY sI) hS0 ?_;refine k6 4 8 (by kernel_rfl) rfl rfl rfl rfl ?_ ?_
  ·refine bS (some 15) rfl 77 #[.pointer (some ⟨xb,0,none⟩),.agg SA] (by simp[execOp,Act.eval,go_sem]) _ (λw'=>Kp (λ_=>False) w3.drew w') (E1 w3.drew (hp1.keep pq (λ_ _ _ _ _ x=>x))).out ?_
   intro w5 K5;have mW:=K5.at_ hS0 (λx=>x);have kR:=heap_alloc_new w5 (.cells aW 95);have HS6:(w5.alloc (.cells aW 95)).heap[lb]? =some (.cells SA 95 (0,0)):=(Below.heap_alloc _ _ _ (lt_of_block mW)).trans mW
   have hne:lb≠w5.heap.size:=by have:=lt_of_block mW;omega
   have Dk:((w5.alloc (.cells aW 95)).setRow w5.heap.size FA).heap[lb]? =some (.cells SA 95 (0,0)):=by rw[setRow_other _ _ _ _ hne];exact HS6
   refine⟨mW,?_⟩;refine eC 5 10 (.tuple #[.agg FA,.string ft]) rfl (λw' _=>by simp[execOp,Act.eval,Act.put,go_sem]) mW ?_;refine eC 6 16 (.agg FA) rfl (λw' _=>by simp[execOp,Act.eval,Act.put,go_sem]) mW ?_;refine eC 7 17 (.string ft) rfl (λw' _=>by simp[execOp,Act.eval,Act.put,go_sem]) mW ?_;refine jD 8 ?_;refine dZ (some 4) rfl (.pointer (some ⟨w5.heap.size,0,none⟩)) (w5.alloc (.cells aW 95)) (by simp[execOp,go_sem]) ?_;refine⟨HS6,?_⟩;refine bF 9 (by kernel_rfl) rfl rfl 95 (.tmp 4) (.tmp 16) rfl rfl w5.heap.size FA (by simp[Act.eval,Act.put]) (by simp[Act.eval,Act.put]) 95 aW kR fI (by rw[fS];rfl) fO Dk ?_;refine eC 10 5 (.string ft) rfl (λw' _=>by simp[execOp,Act.eval,Act.put,go_sem]) Dk ?_;refine wpAnyH_done (by kernel_rfl) (NoPanic.normal ?_) _;simp only[Act.put,pA,pB,pC]
   go_wp2_with fail
   go_meet
   exact⟨w5.heap.size,rfl,rfl,setRow_heap _ _ _ _ _ _ kR,((pq.trans K5).alloc _).setRow (λx=>by have:=(pq.trans K5).size;omega) _⟩
  refine dZ (some 4) rfl (.pointer (some ⟨w3.heap.size,0,none⟩)) (w3.drew.alloc (.cells aW 95)) (by simp[execOp,go_sem]) ?_;have ad3:=heap_alloc_new w3.drew (.cells aW 95);have Qh:=pq.alloc (.cells aW 95);have Va:(w3.drew.alloc (.cells aW 95)).heap[lb]? =some (.cells SA 95 (0,0)):=(Below.heap_alloc _ _ _ (lt_of_block hS0)).trans hS0;refine⟨Va,?_⟩;refine jD 4 ?_;simp only[Act.put,pA,pB,pC];refine bS (some 15) rfl 77 #[.pointer (some ⟨xb,0,none⟩),.agg SA] (by simp[execOp,Act.eval,go_sem]) _ (λw'=>Kp (λ_=>False) (w3.drew.alloc (.cells aW 95)) w') (E1 _ (hp1.keep Qh (λ_ _ _ _ _ x=>x))).out ?_;intro w5 K5;have mW:=K5.at_ Va (λx=>x);have kR:w5.heap[w3.heap.size]? =some (.cells aW 95 (0,0)):=K5.at_ (k:=w3.heap.size) (by exact ad3) (λx=>x)
  have hne:lb≠w3.heap.size:=by have:=lt_of_block hS0;have e:w3.drew.heap.size=w3.heap.size:=rfl;omega
  have Dk:(w5.setRow w3.heap.size FA).heap[lb]? =some (.cells SA 95 (0,0)):=by rw[setRow_other _ _ _ _ hne];exact mW
  refine⟨mW,?_⟩;refine eC 5 10 (.tuple #[.agg FA,.string ft]) rfl (λw' _=>by simp[execOp,Act.eval,Act.put,go_sem]) mW ?_;refine eC 6 16 (.agg FA) rfl (λw' _=>by simp[execOp,Act.eval,Act.put,go_sem]) mW ?_;refine eC 7 17 (.string ft) rfl (λw' _=>by simp[execOp,Act.eval,Act.put,go_sem]) mW ?_;refine bF 9 (by kernel_rfl) rfl rfl 95 (.tmp 4) (.tmp 16) rfl rfl w3.heap.size FA (by simp[Act.eval,Act.put]) (by simp[Act.eval,Act.put]) 95 aW kR fI (by rw[fS];rfl) fO Dk ?_;refine eC 10 5 (.string ft) rfl (λw' _=>by simp[execOp,Act.eval,Act.put,go_sem]) Dk ?_;refine wpAnyH_done (by kernel_rfl) (NoPanic.normal ?_) _;simp only[Act.put,pA,pB,pC]
  go_wp2_with fail
  go_meet
  exact⟨w3.heap.size,rfl,rfl,setRow_heap _ _ _ _ _ _ kR,(Qh.trans K5).setRow (λx=>by omega) _⟩
 case rest=>
  obtain⟨fb,rfl,rfl,GF,KC⟩:=hcut;have hC:=HY.out.1.ai KC;have KA:=HY.out.2.1.trans KC;have Y6:=KC.at_ HY.out.2.2 (λx=>x);have EP:=hid (tZ wc hC HX.out.2.2.2 fs hro.1 ft (by omega));rw[Iy.out]at EP;have HC:=hid (ae hC KA);clear KC hC KA hb3 hnb;generalize hXX:j1 x fs ft=XX at*;have HM:=hid (show((XX.made:Int)-1)=(x.made:Int)by rw[<-hXX];show((x.made+1:Nat):Int)-1=_;omega)
  have J_:XX.made<=1000000000000000:=by rw[<-hXX];show x.made+1<=_;omega
  clear hXX
  go_wp2_with (refine wpList_load_row rfl 95 (.tmp 4) rfl fb rfl 95 FA (0,0) ds GF hds (by cases ds<;>first|rfl|exact absurd eY (by simp[ak])) fI ?_)
  refine hm EP ?_;rintro r w6 ⟨rfl,q6⟩;have sK:=q6.at_ hlow Y6;obtain⟨kv6,h6,n6,K6⟩:=q6;have EA:=hid (lD w6 h6.shelf J_)
  have q6:gL wc w6 xb tb 138 pc ol kv XX:=⟨kv6,h6,n6,K6⟩
  generalize rY:({dR with ia:=(XX.made:Int)-1,text:=ft}:Rp)=RP at*;have HR:=hid rY;have HQ:=hid (gL.jE (HC.out.2.mono (λ_ _ x=>x.elim)) q6 sK (bW RP));have ir:=setRow_heap w6 w.heap.size aM (bW RP) 64 (0,0) sK;clear EP q6 h6 n6 K6 rY Y6 GF
  go_wp2_with fail
  refine hm EA ?_;rintro r w7 ⟨rfl,rfl⟩;clear EA
  go_wp2_with (refine wpList_store_row rfl 64 (.tmp 2) (.tmp 27) rfl w.heap.size (bW RP) rfl (by rw[<-HR.out];rfl) 64 aM sK bK rfl (fC _) ?_)
  refine bodyPost_ret (results_cell_row rfl _ _ w.heap.size 64 (bW RP) (0,0) dr rfl ir hdr (by cases dr<;>first|rfl|exact absurd kK (by simp[ak])) bK) rfl ?_;rw[HU.out,<-HM.out,HR.out];exact⟨rfl,HQ.out⟩
end
namespace Ch
theorem Yn(x:Sv)(t:Tk):t_ x t=(decide (t.fired=0)&&decide (0<=t.at_)&&decide (t.at_≠(x.made:Int)-1)):=rfl
theorem Sv.Bd.task{x:Sv}(h:x.Bd)(u:Nat)(t:Tk):(ay x u t).Bd:=⟨h.made,h.LI,h.nums,h.joined,h.tail,h.tj,h.tick,h.turn,by unfold ay;simp only[List.length_set];exact h.tasks⟩
end Ch
section
variable {w:World} {xb tb:Nat} {T:TypeId} {pc:Pc} {ol:Ol} {x:Sv} {kv:Value}
theorem dT.UH(h:dT w xb tb T pc ol x kv){g:Nat}{c:Array Value}{e:TypeId}(hg:w.heap[g]? =some (.cells c e (0,0)))(he:e=64\/e=95)(j:Nat)(v:Value):dT (w.setCell ⟨g,j,none⟩ v) xb tb T pc ol x kv:=by
 have hT:e≠T:=by rcases he with rfl|rfl<;>rcases h.ty with rfl|rfl<;>decide
 have hV:e≠261:=by rcases he with rfl|rfl<;>decide
 have hK:e≠173:=by rcases he with rfl|rfl<;>decide
 have ne:∀{b:Nat} {c':Array Value} {e':TypeId},w.heap[b]? =some (.cells c' e' (0,0))->e≠e'->b≠g:=by
  intro b c' e' hb hne hbg;rw[hbg,hg]at hb;simp only[Option.some.injEq,Obj.cells.injEq]at hb;exact hne hb.2.1
 refine h.keep (S:=λk=>k=g) ((Kp.refl (λk=>k=g) w).setCell (p:=⟨g,j,none⟩) (λ_=>rfl) _) (ne h.blk hT) (ne h.rX hK) ?_ ?_
 ·intro k ek
  obtain⟨cur,hc⟩:=br h.row ek;exact ne hc hV
 intro i cur e' hi ho;refine ne hi ?_;intro x;subst x
 revert ho
 unfold Yg
 rcases he with rfl|rfl<;>decide
end
theorem ad4(r:Rp)(i:Int):(bW r).setIfInBounds 2 (.int .i64 i)=bW {r with idx:=i}:=rfl
section
variable (w:World) {xb tb:Nat} {pc:Pc} {ol:Ol} {x:Sv} {kv:Value}
theorem Il(h:dT w xb tb 138 pc ol x kv)(hbd:x.Bd)(hol:ol.Ok)(hk:0<x.kept.length){u:Nat}{t:Tk}(hu:x.tasks[u]? =some t)(hok:(oO x t).now.Ok)(hfi:t.fired<=1000)(hou:t.out.size<=1000000000):
 Calls prog 229 #[.pointer (some ⟨xb,0,none⟩),.pointer (some ⟨tb,u*45,none⟩)] w λr w'=>r= .returned (.tuple #[.agg (bW (r9 ol x u t).2.1),.bool (r9 ol x u t).2.2])/\gL w w' xb tb 138 pc ol kv (r9 ol x u t).1:=by
 obtain⟨ds,hds,eY⟩:=eT;obtain⟨dr,hdr,kK⟩:=vf;have hlow:=h.low;have hts:=lt_of_block h.rX;have K1:Kp (λ_=>False) w (w.alloc (.cells aM 64)):=(Kp.refl _ _).alloc _;have hnew:=heap_alloc_new w (.cells aM 64);have h1:=h.ai K1;have hmd:=hbd.made;have hlt:=(List.getElem?_eq_some_iff.1 hu).1;have hwf:=h.tWf hu;have c5:(w.alloc (.cells aM 64)).cell? ⟨tb,u*45+5,none⟩=some (.int .i64 t.fired):=h1.gW hu (by omega);have c2:(w.alloc (.cells aM 64)).cell? ⟨tb,u*45+2,none⟩=some (.int .i64 t.at_):=h1.gW hu (by omega);have HU:=hid (show r9 ol x u t=if t_ x t then(x,ib x 14,true)else rZ ol x u (oO x t)from rfl);have HV:=hid (Yn x t);have HT:=hid (show oO x t=if t.fired=0 then {t with now:=dF x.kept}else t from rfl)
 have hf1:(oO x t).fired=t.fired:=by unfold oO;split<;>rfl
 have ho1:(oO x t).out=t.out:=by unfold oO;split<;>rfl
 generalize r9 ol x u t=SS at*;generalize t_ x t=sv at*;generalize oO x t=t1 at*;have HH:=hid (ae h1 (ae hbd (ae hu (ae K1 (zn hu)))));have hbt:=hbd.task u t1;have hmt:(ay x u t1).made=x.made:=rfl;have hut:=qV hlt t1
 have HE:=hid (show rZ ol x u t1=if(eD ol t1).2 !=0 then(ay x u (eD ol t1).1,{ib x (eD ol t1).2 with idx:=((eD ol t1).1.fired:Int)},true)
  else if(eD ol t1).1.fired<(eD ol t1).1.events.size then(ay x u (eD ol t1).1,dR,false)
  else(j1 (ay x u (eD ol t1).1) (eD ol t1).1.now (eD ol t1).1.out,{dR with ia:=(x.made:Int),idx:=((eD ol t1).1.fired:Int),text:=(eD ol t1).1.out},true)from rfl)
 clear h h1 K1 hbd hu
 go_enter func229,ntmps229
 go_upto_region 1 with(fail)
 generalize w.alloc (.cells aM 64)=w1 at*
 go_upto_if 12 with(fail)
 go_cut [12]from 8 to 37 (λ_ wx=>sv=false/\dT wx xb tb 138 pc ol (ay x u t1) kv/\Kp (oN xb tb kv) w wx/\wx.heap[w.heap.size]? =some (.cells aM 64 (0,0)))
 case first=>
  by_cases q0:t.fired=0
  ·have q0':(t.fired:Int)=0:=by omega
   have HT':=hid (HT.out.trans (if_pos q0))
   by_cases q1:0<=t.at_
   ·have E1:=hid (lD w1.drew (HH.out.1.ai ((Kp.refl _ _).drewN 1)).shelf (by omega))
    go_upto_region 2 with(fail)
    go_region_held3 (λw'=>w'.cell? ⟨tb,u*45+2,none⟩=some (.int .i64 t.at_)) (first|exact c2|exact HS.out) ((go_at_call 191;refine hm E1 ?_;rintro y w5 ⟨rfl,rfl⟩;have HS:=hid c2;clear E1))
    clear HS;have KD:Kp (λ_=>False) w1 w1.drew:=(Kp.refl _ _).drewN 1;have h2:=HH.out.1.ai KD;have hn2:=KD.at_ hnew (λx=>x);generalize w1.drew=w2 at*
    cases q2:t.at_ !=(x.made:Int)-1 with
    |true=>
     have hsv:=HV.out
     have q2':t.at_≠(x.made:Int)-1:=by simpa using q2
     simp only[q0,q1,q2',decide_true,Bool.true_and,ne_eq,not_false_eq_true]at hsv;subst hsv;have ER:=hid (lZ w2 h2 (by omega) 14);have HX:=hid (ae h2 (HH.out.2.2.2.1.trans KD));have HF:=hid (HU.out.trans (if_pos rfl));clear h2 KD HU HV HE HT c2 c5 q2' hnew
     go_wp2_with fail
     refine hm ER ?_;rintro r w4 ⟨rfl,K4⟩;have kU:=K4.at_ hn2 (λx=>x);have HQ:=hid (gL.jE (HX.out.2.mono (λ_ _ x=>x.elim)) ((gL.refl HX.out.1).ai K4) kU (bW (ib x 14)));have ir:=setRow_heap w4 w.heap.size aM (bW (ib x 14)) 64 (0,0) kU;clear ER K4 hn2 HX
     go_wp2_with (refine wpList_store_row rfl 64 (.tmp 4) (.tmp 30) rfl w.heap.size (bW (ib x 14)) rfl rfl 64 aM kU bK rfl (fC _) ?_)
     refine bodyPost_ret (bh rfl _ _ w.heap.size (ib x 14) rfl ir) rfl ?_;rw[HF.out];exact⟨rfl,HQ.out⟩
    |false=>?_
    have hsv:=HV.out
    have q2':¬t.at_≠(x.made:Int)-1:=by simpa using q2
    simp only[q2',decide_false,Bool.and_false]at hsv;subst hsv;clear q2';have EL:=hid (CL w2 h2.shelf hk HH.out.2.1.LI)
    have lwf:(dF x.kept).Wf:=by have:=hok.1;rw[HT'.out]at this;exact this
    have sI:=(by rw[bE lwf];exact bV:(prog.info? 95).map (·.size)=some (ax (dF x.kept)).length)
    have sL:=bE lwf;have sO:=qQ (dF x.kept);have Ym:=h2.LH
    have hpt:∀W,dT W xb tb 138 pc ol x kv->dT (W.setRow tb (putAt (cB x.tasks).toArray (u*45+6) (ax (dF x.kept)))) xb tb 138 pc ol (ay x u t1) kv:=by
     intro W hW;rw[HT'.out];exact hW.Yl (t':={t with now:=dF x.kept}) HH.out.2.2.1 lwf 6 (ax (dF x.kept)) (by omega) (vL (t':={t with now:=dF x.kept}) hwf lwf rfl rfl)
    have HP:=hid hpt;have hX:=HH.out.2.2.2.1.trans KD
    have htk:∀W,dT W xb tb 138 pc ol x kv->W.heap[tb]? =some (.cells (cB x.tasks).toArray 173 (0,0)):=λW hW=>hW.rX
    have HTK:=hid htk;generalize (cB x.tasks).toArray=TA at*;generalize hLL:ax (dF x.kept)=FL at*;have HX:=hid (ae h2 hX);clear h2 KD hX hpt hLL htk HU HE c2 c5 hnew
    go_wp2_with fail
    refine hm EL ?_;rintro r w4 ⟨rfl,K4⟩;have h4:=HX.out.1.ai K4;have K4':=HX.out.2.trans K4;have htc:=HTK.out _ h4
    have QH:u*45+6+FL.length<=TA.size:=by rw[Ym,sL];omega
    have kU:=K4.at_ hn2 (λx=>x);have hZ:=hid (ae h4 K4');clear EL HX K4 h4 K4' hn2
    go_wp2_with (refine iR rfl 95 (.tmp 37) (.tmp 35) rfl tb (u*45+6) FL rfl rfl 173 TA htc sI QH sO ?_)
    simp only[Act.put]
    go_meet
    refine⟨by first|rfl|trivial,HP.out _ hZ.out.1,(hZ.out.2.mono (λ_ _ x=>x.elim)).setRow (λ_=>.inr (.inl rfl)) _,?_⟩;rw[setRow_other _ _ _ _ (by omega)];exact kU
   have hsv:=HV.out;simp only[q1,decide_false,Bool.and_false,Bool.false_and]at hsv;subst hsv
   go_upto_region 2 with(fail)
   go_quiet (fail)
   rename_i nq;have KD:Kp (λ_=>False) w1 (w1.drewN nq):=(Kp.refl _ _).drewN nq;have h2:=HH.out.1.ai KD;have hn2:=KD.at_ hnew (λx=>x);generalize w1.drewN nq=w2 at*;have EL:=hid (CL w2 h2.shelf hk HH.out.2.1.LI)
   have lwf:(dF x.kept).Wf:=by have:=hok.1;rw[HT'.out]at this;exact this
   have sI:=(by rw[bE lwf];exact bV:(prog.info? 95).map (·.size)=some (ax (dF x.kept)).length)
   have sL:=bE lwf;have sO:=qQ (dF x.kept);have Ym:=h2.LH
   have hpt:∀W,dT W xb tb 138 pc ol x kv->dT (W.setRow tb (putAt (cB x.tasks).toArray (u*45+6) (ax (dF x.kept)))) xb tb 138 pc ol (ay x u t1) kv:=by
    intro W hW;rw[HT'.out];exact hW.Yl (t':={t with now:=dF x.kept}) HH.out.2.2.1 lwf 6 (ax (dF x.kept)) (by omega) (vL (t':={t with now:=dF x.kept}) hwf lwf rfl rfl)
   have HP:=hid hpt;have hX:=HH.out.2.2.2.1.trans KD
   have htk:∀W,dT W xb tb 138 pc ol x kv->W.heap[tb]? =some (.cells (cB x.tasks).toArray 173 (0,0)):=λW hW=>hW.rX
   have HTK:=hid htk;generalize (cB x.tasks).toArray=TA at*;generalize hLL:ax (dF x.kept)=FL at*;have HX:=hid (ae h2 hX);clear h2 KD hX hpt hLL htk HU HE c2 c5 hnew
   go_wp2_with fail
   refine hm EL ?_;rintro r w4 ⟨rfl,K4⟩;have h4:=HX.out.1.ai K4;have K4':=HX.out.2.trans K4;have htc:=HTK.out _ h4
   have QH:u*45+6+FL.length<=TA.size:=by rw[Ym,sL];omega
   have kU:=K4.at_ hn2 (λx=>x);have hZ:=hid (ae h4 K4');clear EL HX K4 h4 K4' hn2
   go_wp2_with (refine iR rfl 95 (.tmp 37) (.tmp 35) rfl tb (u*45+6) FL rfl rfl 173 TA htc sI QH sO ?_)
   simp only[Act.put]
   go_meet
   refine⟨by first|rfl|trivial,HP.out _ hZ.out.1,(hZ.out.2.mono (λ_ _ x=>x.elim)).setRow (λ_=>.inr (.inl rfl)) _,?_⟩;rw[setRow_other _ _ _ _ (by omega)];exact kU
  have q0':¬(t.fired:Int)=0:=by omega
  have HT':=hid (HT.out.trans (if_neg q0));have hsv:=HV.out;simp only[q0,decide_false,Bool.false_and]at hsv;subst hsv;have HZ:=hid HH.out;clear HH
  go_wp2_with fail
  go_meet
  refine⟨by first|rfl|trivial,?_,HZ.out.2.2.2.1.mono (λ_ _ x=>x.elim),hnew⟩;rw[HT'.out,HZ.out.2.2.2.2];exact HZ.out.1
 case rest=>
  obtain⟨rfl,hC,KC,Y6⟩:=hcut;have HF:=hid (HU.out.trans ((if_neg (by simp)).trans HE.out));have EF:=hid (Ik wc hC hol hut hok (by omega) (by rw[ho1];exact hou))
  have hfw:(eD ol t1).1.now.Wf/\(eD ol t1).1.out.size<=2000000000/\(eD ol t1).1.fired<=2000:=by
   have hfs:=jW hol t1.now (af t1.events t1.fired);have hfk:=(lP (ol:=ol) hok (af t1.events t1.fired)).1
   have ho2:t1.out.size<=1000000000:=by rw[ho1];exact hou
   unfold eD
   split
   ·exact⟨hok.1,by simp only;omega,by simp only;omega⟩
   split
   ·exact⟨hok.1,by simp only;omega,by simp only;omega⟩
   refine⟨hfk,?_,by simp only;omega⟩;simp only[ByteArray.size_append];omega
  have htw:=kL x u t1 (eD ol t1).1;rw[htw]at EF;have hbf:=HH.out.2.1.task u (eD ol t1).1;have huf:=qV hlt (eD ol t1).1;generalize eD ol t1=ff at*;obtain⟨t2,fe⟩:=ff;simp only at*;obtain⟨fw,fo,ffi⟩:=hfw;have HX:=hid (ae hC KC);clear hC HU HE HV HT hut hok hbt hmt htw hf1 ho1 c5 c2 hnew KC
  go_wp2_with fail
  refine hm EF ?_;rintro r w5 ⟨rfl,h5,K5⟩;have od:=K5.at_ Y6 (λs=>by have:=hlow _ s;omega);have KA:=HX.out.2.trans' K5 (λ_ _ s=>s);have c55:w5.cell? ⟨tb,u*45+5,none⟩=some (.int .i64 t2.fired):=h5.gW huf (by omega);have c51:w5.cell? ⟨tb,u*45+1,none⟩=some (.string t2.events):=h5.gW huf (by omega);clear EF HX K5 Y6
  cases q3:fe !=0 with
  |true=>
   have HZ:=hid (HF.out.trans (if_pos q3));have ER:=hid (lZ w5 h5 (by exact Nat.le_trans hmd (by omega)) fe);have hre:ib (ay x u t2) fe=ib x fe:=rfl;rw[hre]at ER;have HX:=hid (ae h5 KA);clear HF hre h5 KA
   go_wp2_with fail
   refine hm ER ?_;rintro r w6 ⟨rfl,K6⟩;have h6:=HX.out.1.ai K6;have KB:=HX.out.2.trans' K6 (λ_ _ x=>x.elim);have sK:=K6.at_ od (λx=>x);generalize ib x fe=RF at*;have hnr:=heap_alloc_new w6 (.cells aM 64);have XA:=setRow_heap (w6.alloc (.cells aM 64)) w6.heap.size aM (bW RF) 64 (0,0) hnr;have K7:Kp (λ_=>False) w6 ((w6.alloc (.cells aM 64)).setRow w6.heap.size (bW RF)):=((Kp.refl _ _).alloc _).setRow (λx=>by omega) _;have h7:=h6.ai K7;have hn7:=K7.at_ sK (λx=>x);have KC:=KB.trans' K7 (λ_ _ x=>x.elim);have hsz:w.heap.size<w6.heap.size:=lt_of_block sK;have hsw:=KB.size;clear ER K6 h6 sK HX c55 c51 KB K7
   go_upto_region 8 with(refine wpList_store_row rfl 64 (.tmp 7) (.tmp 45) rfl w6.heap.size (bW RF) rfl rfl 64 aM hnr bK rfl (fC _) ?_)
   generalize (w6.alloc (.cells aM 64)).setRow w6.heap.size (bW RF)=w7 at*;generalize w6.heap.size=rb at*;have c75:w7.cell? ⟨tb,u*45+5,none⟩=some (.int .i64 t2.fired):=h7.gW huf (by omega)
   have fr7:w7.frozen? ⟨rb,2,none⟩=false:=by simp[World.frozen?,XA]
   have hrc:w7.cell? ⟨rb,2,none⟩=some (.int .i64 RF.idx):=by rw[World.cell?,XA];rfl
   have zP:(w7.setCell ⟨rb,2,none⟩ (.int .i64 t2.fired)).heap[rb]? =some (.cells (bW {RF with idx:=(t2.fired:Int)}) 64 (0,0)):=by rw[ah _ XA,ad4]
   have hn8:(w7.setCell ⟨rb,2,none⟩ (.int .i64 t2.fired)).heap[w.heap.size]? =some (.cells aM 64 (0,0)):=by
    rw[Below.heap_setCell _ _ _ _ (by show w.heap.size≠rb;omega)];exact hn7
   have h8:=h7.UH XA (.inl rfl) 2 (.int .i64 t2.fired);have K8:Kp (oN xb tb kv) w (w7.setCell ⟨rb,2,none⟩ (.int .i64 t2.fired)):=KC.setCell (p:=⟨rb,2,none⟩) (λx=>by simp only at x;omega) _;have HX:=hid (ae h8 K8);clear h7 hnr KC h8 K8
   go_upto_region 9 with(fail)
   generalize w7.setCell ⟨rb,2,none⟩ (.int .i64 t2.fired)=w8 at*;generalize hRR:({RF with idx:=(t2.fired:Int)}:Rp)=RR at*;have HQ:=hid (gL.jE HX.out.2 (gL.refl HX.out.1) hn8 (bW RR));have ir:=setRow_heap w8 w.heap.size aM (bW RR) 64 (0,0) hn8;clear hRR HX hn7 XA c75 fr7 hrc
   go_wp2_with (first|refine wpList_load_row rfl 64 (.tmp 7) rfl rb rfl 64 (bW RR) (0,0) dr zP hdr (by cases dr<;>first|rfl|exact absurd kK (by simp[ak])) bK ?_|refine wpList_store_row rfl 64 (.tmp 4) (.tmp 51) rfl w.heap.size (bW RR) rfl rfl 64 aM hn8 bK rfl (fC _) ?_)
   refine bodyPost_ret (bh rfl _ _ w.heap.size RR rfl ir) rfl ?_;rw[HZ.out];exact⟨rfl,HQ.out⟩
  |false=>?_
  have hfe:fe=0:=by simpa using q3
  subst hfe;have HZ:=hid (HF.out.trans (if_neg (by simp)));clear HF q3
  by_cases q4:t2.fired<t2.events.size
  ·have HY:=hid (HZ.out.trans (if_pos q4))
   have q4':(t2.fired:Int)<(t2.events.size:Int):=by omega
   have HX:=hid (ae h5 KA);clear HZ h5 KA
   go_upto_region 10 with(fail)
   go_quiet (fail)
   rename_i nq;have KD:Kp (λ_=>False) w5 (w5.drewN nq):=(Kp.refl _ _).drewN nq;have vi:=hid (ae (HX.out.1.ai KD) (HX.out.2.trans' KD (λ_ _ x=>x.elim)));have sK:=KD.at_ od (λx=>x);generalize w5.drewN nq=w6 at*;have HQ:=hid (gL.jE vi.out.2 (gL.refl vi.out.1) sK aM);have ir:=setRow_heap w6 w.heap.size aM aM 64 (0,0) sK;clear HX vi KD od
   go_wp2_with (refine wpList_store_row rfl 64 (.tmp 4) (.tmp 62) rfl w.heap.size aM rfl rfl 64 aM sK bK rfl (fC dR) ?_)
   refine bodyPost_ret (bh rfl _ _ w.heap.size dR rfl ir) rfl ?_;rw[HY.out];exact⟨rfl,HQ.out⟩
  have HY:=hid (HZ.out.trans (if_neg q4))
  have q4':¬(t2.fired:Int)<(t2.events.size:Int):=by omega
  have HX:=hid (ae h5 KA);clear HZ h5 KA
  go_upto_region 10 with(fail)
  go_quiet (fail)
  rename_i nq;have KD:Kp (λ_=>False) w5 (w5.drewN nq):=(Kp.refl _ _).drewN nq;have h6:=HX.out.1.ai KD;have KB:=HX.out.2.trans' KD (λ_ _ x=>x.elim);have sK:=KD.at_ od (λx=>x);generalize w5.drewN nq=w6 at*;have KE:Kp (λ_=>False) w6 w6.drew:=(Kp.refl _ _).drewN 1;have EP:=hid (tZ w6.drew (h6.ai KE) hbf t2.now fw t2.out (by omega))
  have ag2:∀w':World,w'.heap[tb]? =some (.cells (cB (ay x u t2).tasks).toArray 173 (0,0))->w'.cell? ⟨tb,u*45+42,none⟩=some (.string t2.out):=by
   intro w' hb;rw[hY hb];exact(jP js 45 (ay x u t2).tasks u t2 42 (λa ha=>eH (h6.tw a ha)) huf (by omega)).trans (lY fw 0)
  have hg6:∀w':World,w'.heap[tb]? =some (.cells (cB (ay x u t2).tasks).toArray 173 (0,0))->∀j v,(ax t2.now)[j]? =some v->w'.cell? ⟨tb,u*45+6+j,none⟩=some v:=by
   intro w' hb j v hj;have hl:=(List.getElem?_eq_some_iff.1 hj).1;rw[bE fw]at hl;rw[hY hb,Nat.add_assoc];exact(jP js 45 (ay x u t2).tasks u t2 (6+j) (λa ha=>eH (h6.tw a ha)) huf (by omega)).trans (QY j v hj)
  have fI:(prog.info? 95).map (·.size)=some (ax t2.now).length:=by rw[bE fw];exact bV
  have hS0:w6.drew.heap[tb]? =some (.cells (cB (ay x u t2).tasks).toArray 173 (0,0)):=h6.rX;have hpt:(j1 (ay x u t2) t2.now t2.out).tasks[u]? =some t2:=huf;have hXt:(cB (j1 (ay x u t2) t2.now t2.out).tasks).toArray=(cB (ay x u t2).tasks).toArray:=rfl;have hXm:(j1 (ay x u t2) t2.now t2.out).made=x.made+1:=rfl;generalize j1 (ay x u t2) t2.now t2.out=XX at*;generalize (cB (ay x u t2).tasks).toArray=TA at*;generalize ax t2.now=FL at*;have vi:=hid (ae h6 KB);clear HX h6 KB KD od c55 c51 q4 q4'
  go_upto_region 12 with(fail)
  have hnD:=KE.at_ sK (λx=>x);refine az (λw'=>w'.heap[tb]? =some (.cells TA 173 (0,0))) (by kernel_rfl) ?_;refine aU 0 63 (.pointer (some ⟨xb,0,none⟩)) hS0 ?_;refine aU 1 64 (.pointer (some ⟨tb,u*45,none⟩)) hS0 ?_;refine aU 2 65 (.pointer (some ⟨tb,u*45,none⟩)) hS0 ?_;refine aU 3 66 (.pointer (some ⟨tb,u*45+6,none⟩)) hS0 ?_;refine dM 4 67 (.agg FL.toArray) rfl (λw' hS=>ei 95 (.tmp 66) rfl tb (u*45+6) rfl FL ds (hg6 w' hS) hds eY fI) hS0 ?_;refine aU 5 68 (.pointer (some ⟨tb,u*45,none⟩)) hS0 ?_;refine aU 6 69 (.pointer (some ⟨tb,u*45,none⟩)) hS0 ?_;refine aU 7 70 (.pointer (some ⟨tb,u*45+42,none⟩)) hS0 ?_;refine dM 8 71 (.string t2.out) rfl (λw' hS=>by simp[execOp,Act.eval,go_sem,ag2 w' hS]) hS0 ?_;refine jD 9 ?_;refine bS (some 72) rfl 135 #[.pointer (some ⟨xb,0,none⟩),.agg FL.toArray,.string t2.out] (by simp[execOp,Act.eval,go_sem]) (.tuple #[]) _ EP.out ?_;intro w7 q7;have hn7:=q7.at_ hlow hnD
  have KF:=(vi.out.2.trans' KE (λ_ _ x=>x.elim))
  obtain⟨IF,h7,n7,K7⟩:=q7;refine⟨?_,?_⟩
  ·rw[<-hXt];exact h7.rX
  refine wpAnyH_done (by kernel_rfl) (NoPanic.normal ?_) _;simp only[Act.put,pA,pB,pC]
  have q7:gL w6.drew w7 xb tb 138 pc ol kv XX:=⟨IF,h7,n7,K7⟩
  have c75:w7.cell? ⟨tb,u*45+5,none⟩=some (.int .i64 t2.fired):=h7.gW hpt (by omega);have akP:w7.cell? ⟨tb,u*45+42,none⟩=some (.string t2.out):=(h7.gW hpt (by omega)).trans (lY fw 0);have KG:Kp (λ_=>False) w7 w7.drew:=(Kp.refl _ _).drewN 1;have EA:=hid (lD w7.drew (h7.ai KG).shelf (by rw[hXm];omega));have HM:=hid (show((XX.made:Int)-1)=(x.made:Int)by rw[hXm];omega);generalize rY:({dR with ia:=(XX.made:Int)-1,idx:=(t2.fired:Int),text:=t2.out}:Rp)=RP at*;have HR:=hid rY;have hnG:=KG.at_ hn7 (λx=>x);have HQ:=hid (gL.jE KF (q7.ai KG) hnG (bW RP));have ir:=setRow_heap w7.drew w.heap.size aM (bW RP) 64 (0,0) hnG;clear EP h7 n7 K7 q7 KF vi hg6 ag2 hS0 sK hnD hn7 rY KE
  go_upto_region 13 with(fail)
  have hS0:w7.drew.cell? ⟨tb,u*45+5,none⟩=some (.int .i64 t2.fired)/\w7.drew.cell? ⟨tb,u*45+42,none⟩=some (.string t2.out):=⟨c75,akP⟩
  refine az (λw'=>w'.cell? ⟨tb,u*45+5,none⟩=some (.int .i64 t2.fired)/\w'.cell? ⟨tb,u*45+42,none⟩=some (.string t2.out)) (by kernel_rfl) ?_;refine aU 0 73 (.pointer (some ⟨xb,0,none⟩)) hS0 ?_;refine aU 1 74 (.pointer (some ⟨xb,0,none⟩)) hS0 ?_;refine aU 2 75 (.pointer (some ⟨xb,5,none⟩)) hS0 ?_;refine aU 4 77 (.pointer (some ⟨tb,u*45,none⟩)) hS0 ?_;refine aU 5 78 (.pointer (some ⟨tb,u*45,none⟩)) hS0 ?_;refine aU 6 79 (.pointer (some ⟨tb,u*45+5,none⟩)) hS0 ?_;refine dM 7 80 (.int .i64 t2.fired) rfl (λw' hS=>by simp[execOp,Act.eval,go_sem,hS.1]) hS0 ?_;refine aU 8 81 (.pointer (some ⟨tb,u*45,none⟩)) hS0 ?_;refine aU 9 82 (.pointer (some ⟨tb,u*45,none⟩)) hS0 ?_;refine aU 10 83 (.pointer (some ⟨tb,u*45+42,none⟩)) hS0 ?_;refine dM 11 84 (.string t2.out) rfl (λw' hS=>by simp[execOp,Act.eval,go_sem,hS.2]) hS0 ?_;refine jD 3 ?_;refine bS (some 76) rfl 191 #[.pointer (some ⟨xb,5,none⟩)] (by simp[execOp,Act.eval,go_sem]) (.int .i64 ((XX.made:Int)-1)) _ EA.out ?_;rintro w9 rfl;refine⟨hS0,?_⟩
  have uY:(w7.drew.setRow w.heap.size (bW RP)).cell? ⟨tb,u*45+5,none⟩=some (.int .i64 t2.fired)/\(w7.drew.setRow w.heap.size (bW RP)).cell? ⟨tb,u*45+42,none⟩=some (.string t2.out):=by
   have hne:tb≠w.heap.size:=by omega
   unfold World.cell? at*;simp only at*;rw[setRow_other _ _ _ _ hne];exact hS0
  refine eC 12 85 (.agg (bW RP)) rfl (λw' _=>fY 64 #[(1,.tmp 76),(2,.tmp 80),(5,.tmp 84)] rfl (bW RP) [(1,.int .i64 ((XX.made:Int)-1)),(2,.int .i64 t2.fired),(5,.string t2.out)] (by simp[Act.eval,Act.put]) (by rw[<-HR.out];kernel_rfl)) hS0 ?_;refine bF 13 (by kernel_rfl) rfl rfl 64 (.tmp 4) (.tmp 85) rfl rfl w.heap.size (bW RP) (by simp[Act.eval,Act.put]) (by simp[Act.eval,Act.put]) 64 aM hnG bK rfl (fC _) uY ?_;refine eC 14 5 (.bool true) rfl (λw' _=>by rfl) uY ?_;refine wpAnyH_done (by kernel_rfl) (NoPanic.normal ?_) _;simp only[Act.put,pA,pB,pC];clear hS0 uY
  go_wp2_with fail
  refine bodyPost_ret (bh rfl _ _ w.heap.size RP rfl ir) rfl ?_;rw[HY.out,<-HM.out,HR.out];exact⟨rfl,HQ.out⟩
end
end Go.Proofs.YtnlbchmfcebeeaaGreat
