import Derived.Test.YtnlbchmfcebeeaaGreatTSc
set_option maxHeartbeats 12800000
set_option maxRecDepth 100000
namespace Go.Proofs.YtnlbchmfcebeeaaGreat
open Go.Proofs.Tryz Ch
open Go.RowKit
namespace Ch
theorem I_ {j : Nat} {t : ByteArray} {a : Int} (h : (dx j t a).2 = 0) : a <= (j : Int) /\ (j : Int) - (t.size : Int) <= a /\ (dx j t a).1.size <= 8:=by
 unfold dx at *
 split at h
 ·simp at h
 split at h
 ·simp at h
 rename_i h1 h2;refine ⟨by omega,by omega,?_⟩;rw [if_neg h1,if_neg h2]
 split
 ·simp [ByteArray.size_extract];omega
 rename_i h3;simp [ByteArray.size_extract];omega
def mz (x : Sv) (t : Tk) : Int:=if t.at_ < 0 then (x.made : Int) - 1 else t.at_
def iq (x : Sv) (u : Nat) (t : Tk) : Sv × Rp × Bool :=
 if (x.made : Int) - 1 < mz x t then (x,dW x 14,true)
 else if (jZ x.kept (mz x t)).2 then ({ x with kept:=(jZ x.kept (mz x t)).1,tasks:=x.tasks.set u { t with pinned:=mz x t } },b8,false)
 else (x,dW x 15,true)
theorem Aw {l : List Vr} {n : Int} (h : (jZ l n).2 = false) : (jZ l n).1 = l:=by
 unfold jZ at *
 split at h
 ·simp at h
 rfl
end Ch
theorem aH {fn : Func} {p q : Tmp} (h : fn.results = #[.cell p 64,.tmp q]) (tmps : Array Value) (w : World) (g : Nat) (r : Rp) (hp : tmps.getD p undef = .pointer (some ⟨g,0,none⟩)) (hg : w.heap[g]? = some (.cells (aZ r) 64 (0,0))) :
 (results fn tmps).run prog w = .ok (.tuple #[.agg (aZ r),tmps.getD q undef]) w:=by
 obtain ⟨dr,hdr,gr⟩:=my;exact results_cell_tmp h tmps w g 64 (aZ r) (0,0) dr hp hg hdr gr aV
section
variable (w : World) {xb tb : Nat} {T : TypeId} {pc : Pc} {ol : Ol} {x : Sv} {kv : Value}
theorem GC (h : cj w xb tb T pc ol x kv) (hbd : x.Bd) (a : Int) :
 Calls prog 140 #[.pointer (some ⟨xb,0,none⟩),.int .i64 a] w fun r w'=>r = .returned (.agg (aZ (j0 x a))) /\ Kp (fun _=>False) w w':=by
 obtain ⟨dr,hdr,gr⟩:=my;have K1 : Kp (fun _=>False) w (w.alloc (.cells aA 64)):=(Kp.refl _ _).alloc _;have hnew:=heap_alloc_new w (.cells aA 64);have h1:=h.au K1;have E:=hid (Au (w.alloc (.cells aA 64)) (jo:=7) (joined:=x.joined) (tail:=x.tail) h1.blk rfl rfl a hbd.tail hbd.tj hbd.joined)
 have HU:=hid (show j0 x a = if (dx x.joined x.tail a).2 != 0 then dW x (dx x.joined x.tail a).2
  else { b8 with dT:=(x.made : Int) - 1,next:=a + ((dx x.joined x.tail a).1.size : Int),text:=(dx x.joined x.tail a).1 } from rfl)
 have htk : (dx x.joined x.tail a).2 = 0 -> a <= (x.joined : Int) /\ (x.joined : Int) - (x.tail.size : Int) <= a /\ (dx x.joined x.tail a).1.size <= 8:=I_;have htj:=hbd.tj;have hj:=hbd.joined;have hmd:=hbd.made;have HH:=hid (ae h1 K1);clear h h1 K1;generalize dx x.joined x.tail a = tt at *;obtain ⟨tx,te⟩:=tt;simp only at *
 go_enter func140,ntmps140
 go_upto_region 1 with (fail)
 generalize w.alloc (.cells aA 64) = w1 at *
 go_wp2_with fail
 refine hm E ?_;rintro r w2 ⟨rfl,K2⟩;have hn2:=K2.at_ hnew (fun x=>x);have h2:=HH.out.1.au K2;have KA:=HH.out.2.trans K2;clear E hnew
 cases q1 : te != 0 with
 | true =>
   have HF:=hid (HU.out.trans (show _ = dW x te by rw [q1];rfl));have E2:=hid (hJ w2 h2 (by omega) te);clear HU htk
   go_wp2_with fail
   refine hm E2 ?_;rintro r w3 ⟨rfl,K3⟩;have iN:=K3.at_ hn2 (fun x=>x);have KF:=(KA.trans K3).setRow (g:=w.heap.size) (fun x=>by omega) (aZ (dW x te));have et:=setRow_heap w3 w.heap.size aA (aZ (dW x te)) 64 (0,0) iN;clear E2 h2 K2 K3 hn2 KA
   go_wp2_with (refine wpList_store_row rfl 64 (.tmp 4) (.tmp 19) rfl w.heap.size (aZ (dW x te)) rfl rfl 64 aA iN aV rfl (cT _) ?_)
   refine bodyPost_ret (results_cell_row rfl _ _ w.heap.size 64 (aZ (dW x te)) (0,0) dr rfl et hdr (by cases dr <;> first | rfl | exact absurd gr (by simp [ar])) aV) rfl ?_;rw [HF.out];exact ⟨rfl,KF⟩
 | false=>?_
 have hte : te = 0:=by simpa using q1
 subst hte;obtain ⟨ha1,ha2,Kh⟩:=htk rfl;have HF:=hid (HU.out.trans (show _ = { b8 with dT:=(x.made : Int) - 1,next:=a + (tx.size : Int),text:=tx } by rw [q1];rfl));have E2:=hid (gN w2 h2.shelf (by omega));generalize kB : { b8 with dT:=(x.made : Int) - 1,next:=a + (tx.size : Int),text:=tx } = RP at *;have KF:=KA.setRow (g:=w.heap.size) (fun x=>by omega) (aZ RP);have et:=setRow_heap w2 w.heap.size aA (aZ RP) 64 (0,0) hn2;clear HU htk K2 KA h2;have HR:=hid kB;clear kB
 go_wp2_with fail
 refine hm E2 ?_;rintro r w3 ⟨rfl,rfl⟩;clear E2
 go_wp2_with (refine wpList_store_row rfl 64 (.tmp 4) (.tmp 29) rfl w.heap.size (aZ RP) rfl (by rw [<- HR.out];rfl) 64 aA hn2 aV rfl (cT _) ?_)
 refine bodyPost_ret (results_cell_row rfl _ _ w.heap.size 64 (aZ RP) (0,0) dr rfl et hdr (by cases dr <;> first | rfl | exact absurd gr (by simp [ar])) aV) rfl ?_;rw [HF.out];exact ⟨rfl,KF⟩
theorem Ax (h : cj w xb tb T pc ol x kv) (hbd : x.Bd) {u : Nat} {t : Tk} (hu : x.tasks[u]? = some t) :
 Calls prog 187 #[.pointer (some ⟨xb,0,none⟩),.pointer (some ⟨tb,u * 45,none⟩)] w fun r w'=>r = .returned (.tuple #[.agg (aZ (iq x u t).2.1),.bool (iq x u t).2.2]) /\ dF w w' xb tb T pc ol kv (iq x u t).1:=by
 have K1 : Kp (fun _=>False) w (w.alloc (.cells aA 64)):=(Kp.refl _ _).alloc _;have hnew:=heap_alloc_new w (.cells aA 64);have h1:=h.au K1;have hmd:=hbd.made;have hxs:=lt_of_block h.blk;have hts:=lt_of_block h.kA
 have hks : ∀ k,kv.ownBlock = some k -> k < w.heap.size:=fun k e=>by
  obtain ⟨cur,hc⟩:=aR h.row e;exact lt_of_block hc
 have hwf:=h.Me hu;have c2 : (w.alloc (.cells aA 64)).cell? ⟨tb,u * 45 + 2,none⟩ = some (.int .i64 t.at_):=h1.dK hu (by omega);have E1:=hid (gN (w.alloc (.cells aA 64)) h1.shelf (by omega))
 have HU:=hid (show iq x u t = if (x.made : Int) - 1 < mz x t then (x,dW x 14,true)
  else if (jZ x.kept (mz x t)).2 then ({ x with kept:=(jZ x.kept (mz x t)).1,tasks:=x.tasks.set u { t with pinned:=mz x t } },b8,false)
  else (x,dW x 15,true) from rfl)
 have HW:=hid (show mz x t = if t.at_ < 0 then (x.made : Int) - 1 else t.at_ from rfl);have HH:=hid (ae h1 (ae K1 (ae h (ae hbd hu))));clear h h1 K1 hbd hu;generalize iq x u t = TS at *;generalize mz x t = wv at *
 go_enter func187,ntmps187
 go_upto_region 1 with (fail)
 generalize w.alloc (.cells aA 64) = w1 at *
 go_upto_if 13 with (fail)
 go_cut [6,13] from 14 to 17 (fun n _ wx=>n = .int .i64 wv /\ wx = w1)
 case first =>
  by_cases q : t.at_ < 0
  ·go_wp2_with fail
   refine hm E1 ?_;rintro r w3 ⟨rfl,rfl⟩;clear E1
   go_wp2_with fail
   go_meet
   exact ⟨by rw [HW.out,if_pos q],rfl⟩
  go_wp2_with fail
  go_meet
  exact ⟨by rw [HW.out,if_neg (by omega)],rfl⟩
 case rest =>
  obtain ⟨rfl,rfl⟩:=hcut
  by_cases q1 : (x.made : Int) - 1 < wv
  ·have HF:=hid (HU.out.trans (if_pos q1))
   have E2:=hid (hJ wc HH.out.1 (by omega) 14);clear HU HW
   go_wp2_with fail
   refine hm E1 ?_;rintro r w3 ⟨rfl,rfl⟩;clear E1
   go_wp2_with fail
   refine hm E2 ?_;rintro r w4 ⟨rfl,K4⟩;have gB:=K4.at_ hnew (fun x=>x);have h4:=(HH.out.1.au K4).setOther gB (.inl rfl) (aZ (dW x 14));have KF:=((HH.out.2.1.trans K4).mono (S':=jr xb tb kv) (fun _ _ x=>x.elim)).setRow (g:=w.heap.size) (fun x=>by omega) (aZ (dW x 14));have et:=setRow_heap w4 w.heap.size aA (aZ (dW x 14)) 64 (0,0) gB;have HK:=hid (ae h4 KF);clear E2 K4 h4 KF hnew
   go_wp2_with (refine wpList_store_row rfl 64 (.tmp 4) (.tmp 25) rfl w.heap.size (aZ (dW x 14)) rfl rfl 64 aA gB aV rfl (cT _) ?_)
   refine bodyPost_ret (aH rfl _ _ w.heap.size _ rfl et) rfl ?_;rw [HF.out];exact ⟨rfl,dF.of HK.out.1 HK.out.2⟩
  have HV:=hid (HU.out.trans (if_neg q1));have EP:=hid (I6 wc HH.out.1.shelf HH.out.2.2.2.1.yz wv (fun v hv=>(HH.out.2.2.2.1.nums v hv).2));have QE : (jZ x.kept wv).2 = false -> (jZ x.kept wv).1 = x.kept:=Aw;clear HU HW;generalize jZ x.kept wv = pp at *;obtain ⟨pk,pb⟩:=pp;simp only at *
  go_wp2_with fail
  refine hm E1 ?_;rintro r w3 ⟨rfl,rfl⟩;clear E1
  go_wp2_with fail
  refine hm EP ?_;rintro r w4 ⟨rfl,s4,K4⟩;have h4:=HH.out.1.I9 K4 s4;have gB:=K4.at_ hnew (fun e=>by have:=hks _ e;omega);have KA : Kp (jr xb tb kv) w w4:=(HH.out.2.1.mono (fun _ _ x=>x.elim)).trans' K4 (fun i _ e=>.inr (.inr e));clear EP K4 s4
  cases pb with
  | false =>
    have HF:=hid (HV.out.trans (if_neg (by simp)));have hpk:=QE rfl;subst hpk;have E2:=hid (hJ w4 h4 (by exact Nat.le_trans hmd (by omega)) 15);have HX:=hid (ae h4 KA);clear HV h4 KA QE
    go_wp2_with fail
    refine hm E2 ?_;rintro r w5 ⟨rfl,K5⟩;have j4:=K5.at_ gB (fun x=>x);have h5:=(HX.out.1.au K5).setOther j4 (.inl rfl) (aZ (dW x 15));have KF:=(HX.out.2.trans' K5 (fun _ _ x=>x.elim)).setRow (g:=w.heap.size) (fun x=>by omega) (aZ (dW x 15));have et:=setRow_heap w5 w.heap.size aA (aZ (dW x 15)) 64 (0,0) j4;have HK:=hid (ae h5 KF);clear E2 K5 h5 KF hnew gB
    go_wp2_with (refine wpList_store_row rfl 64 (.tmp 4) (.tmp 34) rfl w.heap.size (aZ (dW x 15)) rfl rfl 64 aA j4 aV rfl (cT _) ?_)
    refine bodyPost_ret (aH rfl _ _ w.heap.size _ rfl et) rfl ?_;rw [HF.out];exact ⟨rfl,dF.of HK.out.1 HK.out.2⟩
  | true=>?_
  have HF:=hid (HV.out.trans (if_pos rfl));have Po : w4.cell? ⟨tb,u * 45 + 44,none⟩ = some (.int .i64 t.pinned):=(h4.dK HH.out.2.2.2.2 (by omega)).trans (g_ hwf 2);have f44:=h4.uY (u * 45 + 44);have h5:=h4.Gz (t':={ t with pinned:=wv }) HH.out.2.2.2.2 hwf 44 (by omega) (.int .i64 wv) (lH (t':={ t with pinned:=wv }) hwf rfl rfl 2 _ rfl);have K5 : Kp (jr xb tb kv) w (w4.setCell ⟨tb,u * 45 + 44,none⟩ (.int .i64 wv)):=KA.setCell (p:=⟨tb,u * 45 + 44,none⟩) (fun _=>.inr (.inl rfl)) _
  have j4 : (w4.setCell ⟨tb,u * 45 + 44,none⟩ (.int .i64 wv)).heap[w.heap.size]? = some (.cells aA 64 (0,0)):=by
   rw [Below.heap_setCell _ _ _ _ (by show w.heap.size ≠ tb;omega)];exact gB
  have h6:=h5.setOther j4 (.inl rfl) aA;have KF:=K5.setRow (g:=w.heap.size) (fun x=>by omega) aA;have et:=setRow_heap _ w.heap.size aA aA 64 (0,0) j4;have HK:=hid (ae h6 KF);clear HV h4 KA QE h5 K5 h6 KF hnew gB
  go_wp2_with (refine wpList_store_row rfl 64 (.tmp 4) (.tmp 39) rfl w.heap.size aA rfl rfl 64 aA j4 aV rfl (cT b8) ?_)
  refine bodyPost_ret (aH rfl _ _ w.heap.size b8 rfl et) rfl ?_;rw [HF.out];exact ⟨rfl,dF.of HK.out.1 HK.out.2⟩
end
namespace Ch
def NJ (l : List Vr) (n : Int) : Option (Nat × Vr):=match l.findIdx? (fun v=>(v.num : Int) == n) with
 | some k=>l[k]?.map (fun v=>(k,v))
 | none=>none
theorem BV {l : List Vr} {k : Nat} {v : Vr} (hv : l[k]? = some v) (hd : ∀ j u,l[j]? = some u -> u.num = v.num -> j = k) : NJ l v.num = some (k,v):=by
 obtain ⟨hi1,hi2⟩:=List.getElem?_eq_some_iff.1 hv
 have e : l.findIdx? (fun u=>(u.num : Int) == (v.num : Int)) = some k:=by
  rw [List.findIdx?_eq_some_iff_getElem];refine ⟨hi1,by rw [hi2];simp,?_⟩;intro j hj;have:=hd j _ (List.getElem?_eq_getElem (by omega));simp;intro e;have:=this (by omega);omega
 unfold NJ;rw [e];simp only [hv,Option.map_some]
def DB (made : Nat) (l : List Vr) (n : Int) : List Vr:=match NJ l n with | some (k,v)=>tT made l k v | none=>gq made l
def uZ (l : List Vr) (n : Int) : Sd:=match NJ l n with | some (_,v)=>v.now | none=>mT
def aX (t : Tk) : Tk:={ t with steps:=t.steps + 1 }
def ak (x : Sv) (u : Nat) (t : Tk) : Sv:={ x with tasks:=x.tasks.set u t }
def ir (ol : Ol) (x : Sv) (u : Nat) (t : Tk) : Sv × Rp × Bool :=
 if t.steps = 0 then iq (ak x u (aX t)) u (aX t)
 else if t.steps = 1 then (ak x u (aX t),b8,false)
 else ({ ak x u (aX t) with kept:=DB x.made x.kept t.pinned },{ b8 with dT:=t.pinned,st:=bC ol.ag (uZ x.kept t.pinned) },true)
theorem Ja {made : Nat} {l : List Vr} {k : Nat} {v : Vr} (h : ∀ v ∈ l,v.now.Wf) (hv : l[k]? = some v) : ∀ u ∈ tT made l k v,u.now.Wf:=by
 intro u hu;have hu:=(List.mem_filter.1 hu).1
 rcases List.mem_or_eq_of_mem_set hu with hu | rfl
 ·exact h u hu
 exact h v (List.mem_of_getElem? hv)
end Ch
section
variable {w w' : World} {xb tb : Nat} {T : TypeId} {pc : Pc} {ol : Ol} {x : Sv} {kv : Value}
theorem cj.NK (h : cj w xb tb T pc ol x kv) {l : List Vr} (hl : ∀ v ∈ l,v.now.Wf) (q : DA w w' 0 xb 5 (kN pc x kv tb) T kv l) : dF w w' xb tb T pc ol kv { x with kept:=l }:=by
 obtain ⟨fV,q1,q2,q3,q4⟩:=q;have KB : Kp (jr xb tb kv) w w':=q4.mono (fun i _ s=>s.elim (fun s=>.inl s) (fun s=>.inr (.inr s)));refine ⟨fV,⟨?_,q2,?_,hl,h.tw,h.ty,h.NH KB⟩,fun k e=>.inr (q3 k e),KB⟩
 ·rw [q1]
  simp [kN]
 exact q4.at_ h.kA (by
  rintro (e | e)
  ·exact h.NF e.symm
  exact h.NG e)
theorem DA.dK {l : List Vr} {C : Array Value} (h : cj w xb tb T pc ol x kv) (q : DA w w' 0 xb 5 C T kv l) (j : Nat) : w'.cell? ⟨tb,j,none⟩ = w.cell? ⟨tb,j,none⟩:=by
 obtain ⟨fV,q1,q2,q3,q4⟩:=q
 have:=q4.block tb (lt_of_block h.kA) (by
  rintro (e | e)
  ·exact h.NF e.symm
  exact h.NG e)
 unfold World.cell?;simp only;rw [this]
theorem dF.stand {w2 w5 : World} {x' : Sv} (K : Kp (fun _=>False) w w2) (q : dF w2 w5 xb tb T pc ol kv x') {g : Nat} (hg : w.heap.size <= g) {c : Array Value} (hn : w5.heap[g]? = some (.cells c 95 (0,0))) (cs : Array Value) : dF w (w5.setRow g cs) xb tb T pc ol kv x':=by
 obtain ⟨fV,h4,n4,K4⟩:=q;exact ⟨fV,h4.setOther hn (.inr rfl) cs,fun k e=>(n4 k e).imp id (Nat.le_trans K.size),((K.mono (fun _ _ x=>x.elim)).trans' K4 (fun _ _ s=>s)).setRow (fun x=>by omega) cs⟩
theorem dF.alloc {x' : Sv} (q : dF w w' xb tb T pc ol kv x') (o : Obj) : dF w (w'.alloc o) xb tb T pc ol kv x':=by
 obtain ⟨fV,h4,n4,K4⟩:=q;exact ⟨fV,h4.au ((Kp.refl _ _).alloc _),n4,K4.alloc _⟩
theorem dF.au {w'' : World} {x' : Sv} (q : dF w w' xb tb T pc ol kv x') (K : Kp (fun _=>False) w' w'') : dF w w'' xb tb T pc ol kv x':=by
 obtain ⟨fV,h4,n4,K4⟩:=q;exact ⟨fV,h4.au K,n4,K4.trans' K (fun _ _ x=>x.elim)⟩
end
section
variable (w : World) {xb tb : Nat} {pc : Pc} {ol : Ol} {x : Sv} {kv : Value}
theorem wB (h : cj w xb tb 138 pc ol x kv) (hbd : x.Bd) (hol : ol.Ok) {u : Nat} {t : Tk} (hu : x.tasks[u]? = some t) (hst : t.steps <= 1000) (Jb : 2 <= t.steps -> ∃ (k : Nat) (v : Vr),x.kept[k]? = some v /\ t.pinned = (v.num : Int) /\ 0 < v.pins /\ ∀ (j : Nat) (u : Vr),x.kept[j]? = some u -> u.num = v.num -> j = k) :
 Calls prog 139 #[.pointer (some ⟨xb,0,none⟩),.pointer (some ⟨tb,u * 45,none⟩)] w fun r w'=>r = .returned (.tuple #[.agg (aZ (ir ol x u t).2.1),.bool (ir ol x u t).2.2]) /\ dF w w' xb tb 138 pc ol kv (ir ol x u t).1:=by
 have K1 : Kp (fun _=>False) w (w.alloc (.cells aA 64)):=(Kp.refl _ _).alloc _;have hnew:=heap_alloc_new w (.cells aA 64);have h1:=h.au K1;have hlow:=h.low;have hts:=lt_of_block h.kA;have hwf:=h.Me hu;have UL : (w.alloc (.cells aA 64)).cell? ⟨tb,u * 45 + 43,none⟩ = some (.int .i64 t.steps):=(h1.dK hu (by omega)).trans (g_ hwf 1);have f43:=h1.uY (u * 45 + 43)
 have es : ((t.steps + 1 : Nat) : Int) = (t.steps : Int) + 1:=by omega
 have h2:=h1.Gz (t':=aX t) hu hwf 43 (by omega) (.int .i64 ((t.steps : Int) + 1)) (lH (t':=aX t) hwf rfl rfl 1 _ (by rw [<- es];rfl));have K2 : Kp (jr xb tb kv) w ((w.alloc (.cells aA 64)).setCell ⟨tb,u * 45 + 43,none⟩ (.int .i64 ((t.steps : Int) + 1))):=(K1.mono (fun _ _ x=>x.elim)).setCell (p:=⟨tb,u * 45 + 43,none⟩) (fun _=>.inr (.inl rfl)) _
 have hn2 : ((w.alloc (.cells aA 64)).setCell ⟨tb,u * 45 + 43,none⟩ (.int .i64 ((t.steps : Int) + 1))).heap[w.heap.size]? = some (.cells aA 64 (0,0)):=by
  rw [Below.heap_setCell _ _ _ _ (by show w.heap.size ≠ tb;omega)];exact hnew
 have hlt:=(List.getElem?_eq_some_iff.1 hu).1
 have hu2 : (ak x u (aX t)).tasks[u]? = some (aX t):=by unfold ak;simp only;rw [List.getElem?_set_self hlt]
 have NL : (ak x u (aX t)).Bd:=⟨hbd.made,hbd.yz,hbd.nums,hbd.joined,hbd.tail,hbd.tj,hbd.tick,hbd.turn,by unfold ak;simp only [List.length_set];exact hbd.tasks⟩
 have HU:=hid (show ir ol x u t = if t.steps = 0 then iq (ak x u (aX t)) u (aX t)
  else if t.steps = 1 then (ak x u (aX t),b8,false)
  else ({ ak x u (aX t) with kept:=DB x.made x.kept t.pinned },{ b8 with dT:=t.pinned,st:=bC ol.ag (uZ x.kept t.pinned) },true) from rfl)
 change cj _ xb tb _ pc ol (ak x u (aX t)) kv at h2
 generalize ir ol x u t = RS at *;have HH:=hid (ae hbd (ae hol (ae hu2 (ae NL (ae Jb h.wf)))));have Ls : (aX t).now.Wf:=hwf;clear h h1 K1 hbd hu hu2 NL Jb hol
 go_enter func139,ntmps139
 go_upto_region 1 with (fail)
 generalize w.alloc (.cells aA 64) = w1 at *
 go_upto_region 2 with (fail)
 generalize w1.setCell ⟨tb,u * 45 + 43,none⟩ (.int .i64 ((t.steps : Int) + 1)) = w2 at *
 have d43 : w2.cell? ⟨tb,u * 45 + 43,none⟩ = some (.int .i64 ((t.steps : Int) + 1)):=by
  have:=(h2.dK HH.out.2.2.1 (j:=43) (by omega)).trans (g_ Ls 1);rw [this];show some (Value.int .i64 ((t.steps + 1 : Nat) : Int)) = _;rw [es]
 clear UL f43 hnew es
 by_cases q0 : t.steps = 0
 ·have HF:=hid (HU.out.trans (if_pos q0))
  have E:=hid (Ax w2 h2 HH.out.2.2.2.1 HH.out.2.2.1);have HX:=hid (ae h2 K2)
  have hq : (t.steps : Int) + 1 = 1:=by omega
  rw [hq] at d43;clear HU h2 K2 hq;generalize iq (ak x u (aX t)) u (aX t) = TS at *
  go_wp2_with fail
  refine hm E ?_;rintro r w4 ⟨rfl,q4⟩;have gB:=q4.at_ hlow hn2;have HQ:=hid (dF.fB HX.out.2 q4 gB (aZ TS.2.1));have et:=setRow_heap w4 w.heap.size aA (aZ TS.2.1) 64 (0,0) gB;clear E q4 hn2
  go_wp2_with (refine wpList_store_row rfl 64 (.tmp 4) (.tmp 23) rfl w.heap.size (aZ TS.2.1) rfl rfl 64 aA gB aV rfl (cT _) ?_)
  refine bodyPost_ret (aH rfl _ _ w.heap.size TS.2.1 rfl et) rfl ?_;rw [HF.out];exact ⟨rfl,HQ.out⟩
 by_cases q1 : t.steps = 1
 ·have HF:=hid (HU.out.trans ((if_neg q0).trans (if_pos q1)))
  have HQ:=hid (dF.fB K2 (dF.refl h2) hn2 aA);have et:=setRow_heap w2 w.heap.size aA aA 64 (0,0) hn2
  have hq : (t.steps : Int) + 1 = 2:=by omega
  rw [hq] at d43;clear HU h2 K2 hq
  go_wp2_with (refine wpList_store_row rfl 64 (.tmp 4) (.tmp 27) rfl w.heap.size aA rfl rfl 64 aA hn2 aV rfl (cT b8) ?_)
  refine bodyPost_ret (aH rfl _ _ w.heap.size b8 rfl et) rfl ?_;rw [HF.out];exact ⟨rfl,HQ.out⟩
 obtain ⟨k,v,hv,hpv,C7,hd⟩:=HH.out.2.2.2.2.1 (by omega);have HF:=hid (HU.out.trans ((if_neg q0).trans (if_neg q1)));rw [hpv] at HF;have hat:=BV hv hd
 have er : DB x.made x.kept v.num = tT x.made x.kept k v:=by unfold DB;rw [hat]
 have es : uZ x.kept v.num = v.now:=by unfold uZ;rw [hat]
 rw [er,es] at HF;have hvw:=HH.out.2.2.2.2.2 v (List.mem_of_getElem? hv);have hrw:=Ja (made:=x.made) HH.out.2.2.2.2.2 hv
 have ER : ∀ W,cj W xb tb 138 pc ol (ak x u (aX t)) kv -> Hid (Calls prog 188 #[.pointer (some ⟨xb,5,none⟩),.int .i64 v.num] W fun r w'=>r = .returned (.agg (aj v.now).toArray) /\ DA W w' 0 xb 5 (kN pc (ak x u (aX t)) kv tb) 138 kv (tT x.made x.kept k v)) :=
  fun W h=>hid (yw W h.shelf HH.out.1.yz (Nat.le_trans HH.out.1.made (by omega)) k v hv C7 hd HH.out.1.nums)
 have Po : w2.cell? ⟨tb,u * 45 + 44,none⟩ = some (.int .i64 v.num):=by
  rw [<- hpv];exact (h2.dK HH.out.2.2.1 (by omega)).trans (g_ Ls 2)
 have hq1 : (((t.steps : Int) + 1) == 1) = false:=by simp;omega
 have hq2 : (((t.steps : Int) + 1) == 2) = false:=by simp;omega
 have sI:=cY hvw;have sS:=dy hvw;have sO:=fT v.now
 have EQ : ∀ W w',cj W xb tb 138 pc ol (ak x u (aX t)) kv -> DA W w' 0 xb 5 (kN pc (ak x u (aX t)) kv tb) 138 kv (tT x.made x.kept k v) -> dF W w' xb tb 138 pc ol kv { ak x u (aX t) with kept:=tT x.made x.kept k v } :=
  fun W w' hW q=>hW.NK hrw q
 have QF : ({ ak x u (aX t) with kept:=tT x.made x.kept k v } : Sv).tasks[u]? = some (aX t):=HH.out.2.2.1;generalize ({ ak x u (aX t) with kept:=tT x.made x.kept k v } : Sv) = X2 at *;have HE:=hid (ae ER EQ);have HP:=hid hpv;clear HU q0 q1 hat er es hd hv ER EQ hrw hpv;generalize m9 : (aj v.now).toArray = SA at *;have xK:=hid m9;clear m9
 go_upto_region 7 with (fail)
 go_cut [6] from 28 to 35 (fun p wx=>∃ fb,p = .pointer (some ⟨fb,0,none⟩) /\ bM wx fb [] v.now [] 95 /\ dF w2 wx xb tb 138 pc ol kv X2)
 case first =>
  have hS0 : w2.drew.cell? ⟨tb,u * 45 + 44,none⟩ = some (.int .i64 v.num):=Po;have jF : Kp (fun _=>False) w2 w2.drew:=(Kp.refl _ _).drewN 1;refine aB (fun w'=>w'.cell? ⟨tb,u * 45 + 44,none⟩ = some (.int .i64 v.num)) (by kernel_rfl) ?_;refine tj 0 28 (.pointer (some ⟨xb,0,none⟩)) hS0 ?_;refine tj 1 29 (.pointer (some ⟨xb,0,none⟩)) hS0 ?_;refine tj 2 30 (.pointer (some ⟨xb,5,none⟩)) hS0 ?_;refine tj 3 31 (.pointer (some ⟨tb,u * 45,none⟩)) hS0 ?_;refine tj 4 32 (.pointer (some ⟨tb,u * 45,none⟩)) hS0 ?_;refine tj 5 33 (.pointer (some ⟨tb,u * 45 + 44,none⟩)) hS0 ?_;refine tl 6 34 (.int .i64 v.num) rfl (fun w' hS=>by simp [execOp,Act.eval,go_sem,hS]) hS0 ?_;refine iJ 7 8 (by kernel_rfl) rfl rfl rfl rfl ?_ ?_
  ·refine bD (some 35) rfl 188 #[.pointer (some ⟨xb,5,none⟩),.int .i64 v.num] (by simp [execOp,Act.eval,go_sem]) (.agg SA) _ (HE.out.1 w2.drew (h2.au jF)).out ?_
   intro w5 q5
   have hS5:=((q5.dK (h2.au jF) (u * 45 + 44)).trans hS0)
   have Q5:=HE.out.2 _ _ (h2.au jF) q5;have hnew:=heap_alloc_new w5 (.cells aF 95);have wu : (w5.alloc (.cells aF 95)).cell? ⟨tb,u * 45 + 44,none⟩ = some (.int .i64 v.num):=Kp.cell0 ((Kp.refl _ _).alloc _) hS5;have Hs : ((w5.alloc (.cells aF 95)).setRow w5.heap.size SA).cell? ⟨tb,u * 45 + 44,none⟩ = some (.int .i64 v.num):=Kp.cell0 (((Kp.refl _ _).alloc _).setRow (fun x=>by omega) _) hS5;refine ⟨hS5,?_⟩;refine dO 8 ?_;refine cP (some 6) rfl (.pointer (some ⟨w5.heap.size,0,none⟩)) (w5.alloc (.cells aF 95)) (by simp [execOp,go_sem]) ?_;refine ⟨wu,?_⟩;refine bE 9 (by kernel_rfl) rfl rfl 95 (.tmp 6) (.tmp 35) rfl rfl w5.heap.size SA (by simp [Act.eval,Act.put]) (by simp [Act.eval,Act.put]) 95 aF hnew sI (by rw [sS];rfl) sO Hs ?_;refine wpAnyH_done (by kernel_rfl) (NoPanic.normal ?_) _;simp only [Act.put,pA,pB,pC]
   go_wp2_with fail
   go_meet
   have hsz : w2.heap.size <= w5.heap.size:=by obtain ⟨_,_,_,K5⟩:=Q5;exact K5.size
   exact ⟨w5.heap.size,rfl,bM.lh (by rw [xK.out];exact setRow_heap _ _ _ _ _ _ hnew),dF.stand jF (Q5.alloc _) hsz hnew SA⟩
  refine cP (some 6) rfl (.pointer (some ⟨w2.heap.size,0,none⟩)) (w2.drew.alloc (.cells aF 95)) (by simp [execOp,go_sem]) ?_;have hnew:=heap_alloc_new w2.drew (.cells aF 95);have BM:=jF.alloc (.cells aF 95);have j3 : (w2.drew.alloc (.cells aF 95)).cell? ⟨tb,u * 45 + 44,none⟩ = some (.int .i64 v.num):=Kp.cell0 BM Po;refine ⟨j3,?_⟩;refine dO 7 ?_;simp only [Act.put,pA,pB,pC];refine bD (some 35) rfl 188 #[.pointer (some ⟨xb,5,none⟩),.int .i64 v.num] (by simp [execOp,Act.eval,go_sem]) (.agg SA) _ (HE.out.1 _ (h2.au BM)).out ?_;intro w5 q5
  have hS5:=((q5.dK (h2.au BM) (u * 45 + 44)).trans j3)
  have Q5:=HE.out.2 _ _ (h2.au BM) q5;have JO:=h2.low;have iU : w5.heap[w2.heap.size]? = some (.cells aF 95 (0,0)):=Q5.at_ (n:=w2.heap.size) JO (by exact hnew)
  have Hs : (w5.setRow w2.heap.size SA).cell? ⟨tb,u * 45 + 44,none⟩ = some (.int .i64 v.num):=by
   have hne : tb ≠ w2.heap.size:=by have:=JO tb (.inr (.inl rfl));omega
   unfold World.cell? at *;simp only at *;rw [setRow_other _ _ _ _ hne];exact hS5
  refine ⟨hS5,?_⟩;refine bE 9 (by kernel_rfl) rfl rfl 95 (.tmp 6) (.tmp 35) rfl rfl w2.heap.size SA (by simp [Act.eval,Act.put]) (by simp [Act.eval,Act.put]) 95 aF iU sI (by rw [sS];rfl) sO Hs ?_;refine wpAnyH_done (by kernel_rfl) (NoPanic.normal ?_) _;simp only [Act.put,pA,pB,pC]
  go_wp2_with fail
  go_meet
  exact ⟨w2.heap.size,rfl,bM.lh (by rw [xK.out];exact setRow_heap _ _ _ _ _ _ iU),dF.stand BM Q5 (Nat.le_refl _) iU SA⟩
 case rest =>
  obtain ⟨fb,rfl,vU,QC⟩:=hcut;have Ht:=QC.at_ hlow hn2;have SD:=QC;obtain ⟨V_,hC,nC,KC⟩:=QC
  have d44 : wc.cell? ⟨tb,u * 45 + 44,none⟩ = some (.int .i64 v.num):=by
   rw [<- HP.out];exact (hC.dK QF (by omega)).trans (g_ Ls 2)
  have KD : Kp (fun _=>False) wc wc.drew:=(Kp.refl _ _).drewN 1;have EO:=hid (gU xb 0 wc.drew ol.ag fb 0 [] v.now [] 95 (hC.au KD).plan.str (Nat.le_trans HH.out.2.1.ag (by omega)) (bM.keep vU KD (fun x=>x)) hvw rfl);have HQ:=hid (ae K2 SD);generalize kB : ({ b8 with dT:=(v.num : Int),st:=bC ol.ag v.now } : Rp) = RP at *;have HR:=hid kB;clear kB h2 K2 SD vU d43 hn2 Po HE
  go_upto_region 8 with (fail)
  have hS0 : wc.drew.cell? ⟨tb,u * 45 + 44,none⟩ = some (.int .i64 v.num):=d44;refine aB (fun w'=>w'.cell? ⟨tb,u * 45 + 44,none⟩ = some (.int .i64 v.num)) (by kernel_rfl) ?_;refine tj 0 36 (.pointer (some ⟨tb,u * 45,none⟩)) hS0 ?_;refine tj 1 37 (.pointer (some ⟨tb,u * 45,none⟩)) hS0 ?_;refine tj 2 38 (.pointer (some ⟨tb,u * 45 + 44,none⟩)) hS0 ?_;refine tl 3 39 (.int .i64 v.num) rfl (fun w' hS=>by simp [execOp,Act.eval,go_sem,hS]) hS0 ?_;refine tj 4 40 (.pointer (some ⟨xb,0,none⟩)) hS0 ?_;refine tj 5 41 (.pointer (some ⟨xb,0,none⟩)) hS0 ?_;refine tj 6 42 (.pointer (some ⟨xb,0,none⟩)) hS0 ?_;refine dO 7 ?_;refine bD (some 43) rfl 44 #[.pointer (some ⟨fb,0,none⟩),.pointer (some ⟨xb,0,none⟩)] (by simp [execOp,Act.eval,go_sem]) (.agg (bq (bC ol.ag v.now))) _ EO.out ?_;intro w6 K6;have wu:=K6.cell0 hS0;have kM:=(KD.trans K6).at_ Ht (fun x=>x)
  have Hs : (w6.setRow w.heap.size (aZ RP)).cell? ⟨tb,u * 45 + 44,none⟩ = some (.int .i64 v.num):=by
   have hne : tb ≠ w.heap.size:=by omega
   unfold World.cell? at *;simp only at *;rw [setRow_other _ _ _ _ hne];exact wu
  refine ⟨wu,?_⟩;refine tm 8 44 (.agg (aZ RP)) rfl (fun w' _=>eh 64 #[(1,.tmp 39),(4,.tmp 43)] rfl (aZ RP) [(1,.int .i64 v.num),(4,.agg (bq (bC ol.ag v.now)))] (by simp [Act.eval,Act.put]) (by rw [<- HR.out];kernel_rfl)) wu ?_;refine bE 9 (by kernel_rfl) rfl rfl 64 (.tmp 4) (.tmp 44) rfl rfl w.heap.size (aZ RP) (by simp [Act.eval,Act.put]) (by simp [Act.eval,Act.put]) 64 aA kM aV rfl (cT _) Hs ?_;refine tm 10 5 (.bool true) rfl (fun w' _=>by rfl) Hs ?_;refine wpAnyH_done (by kernel_rfl) (NoPanic.normal ?_) _;simp only [Act.put,pA,pB,pC];have et:=setRow_heap w6 w.heap.size aA (aZ RP) 64 (0,0) kM;have HZ:=hid (dF.fB HQ.out.1 (HQ.out.2.au (KD.trans K6)) kM (aZ RP));clear wu Hs hS0 K6 EO HQ
  go_wp2_with fail
  refine bodyPost_ret (aH rfl _ _ w.heap.size RP rfl et) rfl ?_;rw [HF.out];exact ⟨rfl,HZ.out⟩
end
end Go.Proofs.YtnlbchmfcebeeaaGreat
