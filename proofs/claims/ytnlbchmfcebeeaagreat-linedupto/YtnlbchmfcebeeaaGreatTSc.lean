import Derived.Test.YtnlbchmfcebeeaaGreatTSb
set_option maxHeartbeats 12800000
set_option maxRecDepth 100000
namespace Go.Proofs.YtnlbchmfcebeeaaGreat
open Go.Proofs.Tryz Ch
open Go.RowKit
namespace Ch
def tT (made : Nat) (l : List Vr) (k : Nat) (v : Vr) : List Vr:=gq made (l.set k { v with pins:=v.pins - 1 })
end Ch
section
variable (w : World) {B sb so : Nat} {C : Array Value} {T : TypeId} {made : Nat} {kept : List Vr} {kv : Value}
def DA (w w' : World) (B sb so : Nat) (C : Array Value) (T : TypeId) (kv : Value) (l : List Vr) : Prop :=
 ∃ fV,w'.heap[sb]? = some (.cells (C.setIfInBounds (so + 1) fV) T (0,0)) /\ w'.ownsRow B 261 38 fV l.length (dc l) /\ (∀ k,fV.ownBlock = some k -> w.heap.size <= k) /\ Kp (fun k=>k = sb \/ kv.ownBlock = some k) w w'
def mU (kept : List Vr) (k : Nat) (v : Vr) (i : Nat) : List Vr:=if i <= k then kept else kept.set k { v with pins:=v.pins - 1 }
theorem Gw (kept : List Vr) (k : Nat) (v : Vr) (i : Nat) : (mU kept k v i).length = kept.length:=by unfold mU;split <;> simp
def sw (k : Nat) (v : Vr) (i : Nat) : Sd:=if i <= k then mT else v.now
theorem I7 {kept : List Vr} {k : Nat} {v : Vr} {i : Nat} : i ≠ k -> (mU kept k v i)[i]? = kept[i]?:=by
 intro hne;unfold mU
 split
 ·rfl
 rw [List.getElem?_set_ne (by omega)]
theorem iB : mT.Wf:=⟨by decide,by decide⟩
theorem yw (h : m_ w 0 sb so C T made kept kv) (hk : kept.length <= 1000) (hmd : made <= 1000000000000000) (k : Nat) (v : Vr) (hv : kept[k]? = some v) (hp : 0 < v.pins) (hd : ∀ j u,kept[j]? = some u -> u.num = v.num -> j = k) (hn : ∀ v ∈ kept,v.num <= 1000000000000000 /\ v.pins <= 1000000000000000) :
 Calls prog 188 #[.pointer (some ⟨sb,so,none⟩),.int .i64 v.num] w fun x w'=>x = .returned (.agg (aj v.now).toArray) /\ DA w w' 0 sb so C T kv (tT made kept k v):=by
 obtain ⟨ds,hds,eH⟩:=cQ
 have JM : ((w.alloc (.cells aF 95)).alloc (.cells aF 95)).heap[w.heap.size]? = some (.cells aF 95):=by
  rw [Below.heap_alloc _ _ _ (by simp)];exact heap_alloc_new _ _
 have Nz : ((w.alloc (.cells aF 95)).alloc (.cells aF 95)).heap[w.heap.size + 1]? = some (.cells aF 95):=heap_alloc2_new w _ _;have K1 : Kp (fun _=>False) w ((w.alloc (.cells aF 95)).alloc (.cells aF 95)):=((Kp.refl _ _).alloc _).alloc _;have h1:=h.au K1;have hkl:=(List.getElem?_eq_some_iff.1 hv).1;obtain ⟨g,cap,kL⟩:=h.rowAt (by omega)
 have hgb : kv.ownBlock = some g:=by rw [kL];rfl
 have QA:=lt_of_block h.blk
 have hgl : g < w.heap.size:=by
  obtain ⟨cur,hc⟩:=aR h.row hgb;exact lt_of_block hc
 have hgs : sb ≠ g:=by intro e;subst e;exact h.Fo hgb
 have hvw:=h.wf v (List.mem_of_getElem? hv);have sI:=cY hvw;have sS:=dy hvw;have sO:=fT v.now
 have UI : (prog.info? 95).map (·.size) = some (aj v.now).length:=by rw [aT hvw];exact aY
 have UJ:=hn v (List.mem_of_getElem? hv);have HH:=hid (ae h (ae hn (ae hd (ae K1 hv))));have HR:=hid JM;clear h hn hd JM
 go_enter func188,ntmps188
 go_upto_region 2 with (fail)
 have hsz1 : w.heap.size + 2 <= ((w.alloc (.cells aF 95)).alloc (.cells aF 95)).heap.size:=by simp
 generalize (w.alloc (.cells aF 95)).alloc (.cells aF 95) = w1 at *
 go_wp2_with fail
 go_loopw [6] (fun iv wr=>∃ i : Nat,iv = .int .i64 i /\ i <= kept.length /\ m_ wr 0 sb so C T made (mU kept k v i) kv /\ wr.heap[w.heap.size + 1]? = some (.cells (aj (sw k v i)).toArray 95 (0,0)) /\ Kp (fun j=>j = g \/ j = w.heap.size + 1) w1 wr) (fun iv _=>kept.length - (intOf iv).toNat)
 case atStart=>exact ⟨0,rfl,Nat.zero_le _,by unfold mU;rw [if_pos (Nat.zero_le _)];exact h1,by unfold sw;rw [if_pos (Nat.zero_le _)];exact Nz,Kp.refl _ _⟩
 case round =>
  obtain ⟨i,rfl,hil,hr,hnb,KW⟩:=hrel;have x1:=hr.x1;have hlen:=Gw kept k v i
  by_cases hlt : i < kept.length
  ·have hlt' : (i : Int) < (kept.length : Int):=by omega
   rw [kL] at x1
   by_cases hik : i = k
   ·subst hik
    have e1 : mU kept i v i = kept:=by unfold mU;rw [if_pos (Nat.le_refl _)]
    have e2 : mU kept i v (i + 1) = kept.set i { v with pins:=v.pins - 1 }:=by unfold mU;rw [if_neg (by omega)]
    have e3 : sw i v i = mT:=by unfold sw;rw [if_pos (Nat.le_refl _)]
    have e4 : sw i v (i + 1) = v.now:=by unfold sw;rw [if_neg (by omega)]
    rw [e1] at hr;rw [e3] at hnb;have y0 : wr.cell? ⟨g,i * 38,none⟩ = some (.int .i64 v.num):=hr.cells kL HH.out.2.2.2.2 0 _ (nM v);have UH:=hr.cells kL HH.out.2.2.2.2 37 _ (rP hvw);have hrr:=hr.row;rw [kL] at hrr
    have hf : wr.frozen? ⟨g,i * 38 + 37,none⟩ = false:=by
     obtain ⟨cur,Gv⟩:=aR hrr (k:=g) rfl;simp [World.frozen?,Gv]
    have ho2:=lG hrr (i * 38 + 37) (.int .i64 ((v.pins : Int) - 1));have K6 : Kp (fun j=>j = g) wr (wr.setCell ⟨g,i * 38 + 37,none⟩ (.int .i64 ((v.pins : Int) - 1))):=(Kp.refl (fun j=>j = g) wr).setCell (p:=⟨g,i * 38 + 37,none⟩) (fun _=>rfl) _;have hb6:=K6.at_ hr.blk hgs;have QB:=K6.at_ hnb (by omega)
    have ep : ((v.pins - 1 : Nat) : Int) = (v.pins : Int) - 1:=by omega
    have wu : m_ (wr.setCell ⟨g,i * 38 + 37,none⟩ (.int .i64 ((v.pins : Int) - 1))) 0 sb so C T made (kept.set i { v with pins:=v.pins - 1 }) kv:=by
     refine ⟨hb6,hr.c0,hr.c1,?_,?_,hr.ne⟩
     ·rw [kL,List.length_set]
      have e:=sr kJ 38 kept i v { v with pins:=v.pins - 1 } 37 (.int .i64 ((v.pins : Int) - 1)) (fun a ha=>kh (hr.wf a ha)) HH.out.2.2.2.2 (by omega) (by rw [<- ep];exact BS hvw (v.pins - 1));unfold dc at ho2 ⊢;rw [e] at ho2;exact ho2
     intro a ha
     rcases List.mem_or_eq_of_mem_set ha with ha | rfl
     ·exact hr.wf a ha
     exact hvw
    have K7:=KW.trans' K6 (fun j _ x=>.inl x);have x6:=wu.x1;rw [kL] at x6
    have hcs : ∀ j u,(aj v.now)[j]? = some u -> (wr.setCell ⟨g,i * 38 + 37,none⟩ (.int .i64 ((v.pins : Int) - 1))).cell? ⟨g,i * 38 + 1 + j,none⟩ = some u:=by
     intro j u hj;have hj2:=BT (v:={ v with pins:=v.pins - 1 }) j u hj;have:=wu.cells (k:=i) (v:={ v with pins:=v.pins - 1 }) (by rw [kL,List.length_set]) (by rw [List.getElem?_set_self (by omega)]) (1 + j) u hj2;rw [Nat.add_assoc];exact this
    have HN:=hid (ae wu (ae QB K7));clear ho2 hrr K6 hb6 hnb KW hr
    go_upto_region 7 with (fail)
    generalize wr.setCell ⟨g,i * 38 + 37,none⟩ (.int .i64 ((v.pins : Int) - 1)) = w6 at *;have zX:=HN.out.1;have KR : Kp (fun j=>j = w.heap.size + 1) w6 (w6.setRow (w.heap.size + 1) (aj v.now).toArray):=(Kp.refl (fun j=>j = w.heap.size + 1) w6).setRow (fun _=>rfl) _
    have NA : m_ (w6.setRow (w.heap.size + 1) (aj v.now).toArray) 0 sb so C T made (kept.set i { v with pins:=v.pins - 1 }) kv :=
     ⟨KR.at_ zX.blk (by omega),zX.c0,zX.c1,KR.owns zX.row (fun j e x=>by rw [hgb] at e;simp at e;omega),zX.wf,zX.ne⟩
    have JN:=setRow_heap w6 (w.heap.size + 1) _ (aj v.now).toArray 95 (0,0) HN.out.2.1;have Bx:=HN.out.2.2.trans' KR (fun j _ x=>.inr x);have QD : w6.heap[w.heap.size + 1]? = some (.cells (aj mT).toArray 95 (0,0)):=HN.out.2.1;have HF:=hid (ae NA (ae JN Bx));clear zX KR NA JN Bx HN kL;generalize m9 : (aj v.now) = SL at *;have xK:=hid m9;clear m9
    go_wp2_with (first | refine a_ rfl 95 (.tmp 43) rfl g (i * 38 + 1) rfl SL ds hcs hds eH UI ?_ | refine wpList_store_row rfl 95 (.tmp 5) (.tmp 44) rfl (w.heap.size + 1) SL.toArray rfl rfl 95 (aj mT).toArray QD sI (by rw [sS];rfl) sO ?_)
    go_roundw
    case rel=>exact ⟨i + 1,by go_num,by omega,by rw [e2];exact HF.out.1,by rw [e4,xK.out];exact HF.out.2.1,HF.out.2.2⟩
    case measure=>simp [intOf];omega
   obtain ⟨u,hu⟩ : ∃ u,kept[i]? = some u:=⟨_,List.getElem?_eq_getElem hlt⟩
   have hat:=(I7 (kept:=kept) (k:=k) (v:=v) hik).trans hu;have y0 : wr.cell? ⟨g,i * 38,none⟩ = some (.int .i64 u.num):=hr.cells (by rw [hlen];exact kL) hat 0 _ (nM u)
   have hne : ((u.num : Int) == (v.num : Int)) = false:=by
    have : u.num ≠ v.num:=fun e=>hik (HH.out.2.2.1 i u hu e)
    simp;omega
   have e2 : mU kept k v (i + 1) = mU kept k v i:=by
    unfold mU
    by_cases h : i <= k
    ·rw [if_pos h,if_pos (by omega)]
    rw [if_neg h,if_neg (by omega)]
   have e4 : sw k v (i + 1) = sw k v i:=by
    unfold sw
    by_cases h : i <= k
    ·rw [if_pos h,if_pos (by omega)]
    rw [if_neg h,if_neg (by omega)]
   have HF:=hid (ae hr (ae hnb KW));have HE:=hid (ae e2 e4);clear hr hnb KW kL hat hu e2 e4 hlen
   go_wp2_with fail
   go_roundw
   case rel=>exact ⟨i + 1,by go_num,by omega,by rw [HE.out.1];exact HF.out.1,by rw [HE.out.2];exact HF.out.2.1,HF.out.2.2⟩
   case measure=>simp [intOf];omega
  have hlt' : ¬ (i : Int) < (kept.length : Int):=by omega
  obtain rfl : i = kept.length:=by omega
  rw [kL] at x1
  have e1 : mU kept k v kept.length = kept.set k { v with pins:=v.pins - 1 }:=by unfold mU;rw [if_neg (by omega)]
  have e3 : sw k v kept.length = v.now:=by unfold sw;rw [if_neg (by omega)]
  rw [e1] at hr;rw [e3] at hnb
  have ET:=hid (xL _ hr (Nat.zero_le _) (by simp;omega) (by omega) (by
   intro u hu
   rcases List.mem_or_eq_of_mem_set hu with hu | rfl
   ·exact HH.out.2.1 u hu
   have:=HH.out.2.1 v (List.mem_of_getElem? hv);simp only;omega))
  have HF:=hid (ae hnb KW);have hws : w1.heap.size <= wr.heap.size:=KW.size;clear hnb KW hr e1 e3 kL hlen
  go_wp2_with fail
  refine hm ET ?_;rintro x Ki ⟨rfl,fV,q1,q2,q3,q4⟩;have NB:=q4.at_ HF.out.1 (by omega);have hr0 : w1.heap[w.heap.size]? = some (.cells aF 95 (0,0)):=HR.out;have NC:=q4.at_ (HF.out.2.at_ hr0 (by omega)) (by omega);have KA : Kp (fun j=>j = sb \/ kv.ownBlock = some j) w Ki:=((HH.out.2.2.2.1.mono (fun _ _ x=>x.elim)).trans' HF.out.2 (fun j hj x=>x.elim (fun x=>.inr (by rw [x];exact hgb)) (fun x=>by omega))).trans' q4 (fun j _ x=>.inl x);have KB:=KA.setRow (g:=w.heap.size) (fun x=>by omega) (aj v.now).toArray;have KR : Kp (fun j=>j = w.heap.size) Ki (Ki.setRow w.heap.size (aj v.now).toArray):=(Kp.refl (fun j=>j = w.heap.size) Ki).setRow (fun _=>rfl) _;have q1':=KR.at_ q1 (by omega);have q2':=KR.owns q2 (fun j e x=>by have:=q3 j e;omega);have et:=setRow_heap Ki w.heap.size _ (aj v.now).toArray 95 (0,0) NC;have HG:=hid (ae q1' (ae q2' (ae (fun j e=>Nat.le_trans (show w.heap.size <= wr.heap.size by omega) (q3 j e)) KB)));clear q1 q2 q3 q4 q1' q2' KA KB KR ET HF;generalize m9 : (aj v.now).toArray = SA at *
  go_wp2_with (first | refine wpList_load_row rfl 95 (.tmp 5) rfl (w.heap.size + 1) rfl 95 SA (0,0) ds NB hds (by cases ds <;> first | rfl | exact absurd eH (by simp [ar])) sI ?_ | refine wpList_store_row rfl 95 (.tmp 4) (.tmp 47) rfl w.heap.size SA rfl rfl 95 aF NC sI (by rw [sS];rfl) sO ?_)
  refine bodyPost_ret (results_cell_row rfl _ _ w.heap.size 95 SA (0,0) ds rfl et hds (by cases ds <;> first | rfl | exact absurd eH (by simp [ar])) sI) rfl ?_;exact ⟨by rw [m9],fV,HG.out.1,HG.out.2.1,HG.out.2.2.1,HG.out.2.2.2⟩
end
namespace Ch
structure Rp where
 err : Int
 dT : Int
 idx : Int
 next : Int
 st : As
 text : ByteArray
def b8 : Rp:=⟨0,0,0,0,gw,⟨#[]⟩⟩
def cW : Tk:=⟨0,⟨#[]⟩,0,false,0,0,mT,⟨#[]⟩,0,0⟩
def fN (x : Sv) (s : Sd) (out : ByteArray) : Sv :=
 { x with made:=x.made + 1,kept:=gq (x.made + 1) (x.kept ++ [⟨x.made,s,0⟩]),joined:=x.joined + out.size,tail:=sq x.tail out }
end Ch
def aZ (r : Rp) : Array Value:=#[.int .i64 r.err,.int .i64 r.dT,.int .i64 r.idx,.int .i64 r.next,.string r.st.act,.string r.st.past,.string r.st.tm,.int .i64 r.st.x,.int .i64 r.st.y,.int .i64 r.st.z,.string r.text]
def tU (t : Tk) : List Value:=[.int .i64 t.kind,.string t.events,.int .i64 t.at_,.bool t.drawn,.int .i64 t.ticket,.int .i64 t.fired]
def Hr (t : Tk) : List Value:=[.string t.out,.int .i64 t.steps,.int .i64 t.pinned]
def fc (t : Tk) : List Value:=tU t ++ (aj t.now ++ Hr t)
def bj (l : List Tk) : List Value:=l.flatMap fc
theorem cH {t : Tk} (h : t.now.Wf) : (fc t).length = 45:=by simp [fc,tU,Hr,aT h]
theorem yx : (fc cW).toArray = nk:=rfl
theorem g_ {t : Tk} (h : t.now.Wf) (j : Nat) : (fc t)[42 + j]? = (Hr t)[j]?:=by
 unfold fc;rw [List.getElem?_append_right (by simp [tU];omega),List.getElem?_append_right (by simp [tU,aT h];omega)]
 congr 1
 simp [tU,aT h];omega
theorem lH {t t' : Tk} (h : t.now.Wf) (e1 : tU t' = tU t) (e2 : t'.now = t.now) (j : Nat) (v : Value) (e3 : Hr t' = (Hr t).set j v) : fc t' = (fc t).set (42 + j) v:=by
 unfold fc;rw [e1,e2,e3,List.set_append_right _ _ (by simp [tU];omega),List.set_append_right _ _ (by simp [tU,aT h];omega)]
 congr 3
 simp [tU,aT h];omega
theorem lI {t t' : Tk} (e1 : Hr t' = Hr t) (e2 : t'.now = t.now) (j : Nat) (hj : j < 6) (v : Value) (e3 : tU t' = (tU t).set j v) : fc t' = (fc t).set j v:=by
 unfold fc;rw [e1,e2,e3,List.set_append_left _ _ (by simp [tU];omega)]
theorem BU {t : Tk} : ∀ j u,(aj t.now)[j]? = some u -> (fc t)[6 + j]? = some u:=by
 intro j u h;unfold fc;rw [List.getElem?_append_right (by simp [tU]),List.getElem?_append_left (by simp [tU];exact (List.getElem?_eq_some_iff.1 h).1)];simp [tU];exact h
theorem mV {t t' : Tk} (h : t.now.Wf) (h' : t'.now.Wf) (e1 : tU t' = tU t) (e2 : Hr t' = Hr t) : fc t' = (fc t).take 6 ++ aj t'.now ++ (fc t).drop (6 + (aj t'.now).length):=by
 have h6 : (tU t).length = 6:=by simp [tU]
 unfold fc;rw [e1,e2,aT h',List.take_left' h6,List.drop_append,h6,List.drop_of_length_le (by omega),List.nil_append,show 6 + 36 - 6 = 36 from rfl,List.drop_left' (aT h),List.append_assoc]
theorem wy (t : Tk) : ∀ u ∈ fc t,u.oneCell' = true:=by
 intro u hu;unfold fc at hu
 rcases List.mem_append.1 hu with hu | hu
 ·simp only [tU,List.mem_cons,List.not_mem_nil,or_false] at hu
  rcases hu with rfl | rfl | rfl | rfl | rfl | rfl <;> rfl
 rcases List.mem_append.1 hu with hu | hu
 ·exact jT _ u hu
 simp only [Hr,List.mem_cons,List.not_mem_nil,or_false] at hu
 rcases hu with rfl | rfl | rfl <;> rfl
theorem cT (r : Rp) : (aZ r).all (fun x=>x.oneCell') = true:=by
 apply Array.all_eq_true_iff_forall_mem.2;intro x hx;simp only [aZ,List.mem_toArray,List.mem_cons,List.not_mem_nil,or_false] at hx
 rcases hx with rfl | rfl | rfl | rfl | rfl | rfl | rfl | rfl | rfl | rfl | rfl <;> rfl
theorem aV : (prog.info? 64).map (·.size) = some 11:=by kernel_rfl
theorem my : ∃ d,prog.underlying 64 = some d /\ ar d = true:=⟨_,underlying64,rfl⟩
theorem Av : (prog.info? 173).map (·.size) = some 45:=by kernel_rfl
theorem ND : ∃ d,prog.underlying 173 = some d /\ ar d = true:=⟨_,underlying173,rfl⟩
theorem Lr : (prog.info? 173).map (fun i=>(i.zero,i.size,i.bytes)) = some (some (.agg nk),45,160):=by kernel_rfl
structure Pc where
 a : Value
 b : Value
 c : Value
 d : Value
 e : Value
def kN (pc : Pc) (x : Sv) (kv : Value) (tb : Nat) : Array Value :=
 #[pc.a,pc.b,pc.c,pc.d,pc.e,.int .i64 x.made,kv,.int .i64 x.joined,.string x.tail,.slice (some ⟨tb,0,none⟩) x.tasks.length x.tasks.length,.int .i64 x.aN,.int .i64 x.turn]
structure cj (w : World) (xb tb : Nat) (T : TypeId) (pc : Pc) (ol : Ol) (x : Sv) (kv : Value) : Prop where
 blk : w.heap[xb]? = some (.cells (kN pc x kv tb) T (0,0))
 row : w.ownsRow 0 261 38 kv x.kept.length (dc x.kept)
 kA : w.heap[tb]? = some (.cells (bj x.tasks).toArray 173 (0,0))
 wf : ∀ v ∈ x.kept,v.now.Wf
 tw : ∀ t ∈ x.tasks,t.now.Wf
 ty : T = 136 \/ T = 138
 pl : ∃ B lt lb,qY w B ol pc.c pc.d pc.e lt lb
def jr (xb tb : Nat) (kv : Value) (k : Nat) : Prop:=k = xb \/ k = tb \/ kv.ownBlock = some k
def dF (w w' : World) (xb tb : Nat) (T : TypeId) (pc : Pc) (ol : Ol) (kv : Value) (x' : Sv) : Prop :=
 ∃ fV,cj w' xb tb T pc ol x' fV /\ (∀ k,fV.ownBlock = some k -> kv.ownBlock = some k \/ w.heap.size <= k) /\ Kp (jr xb tb kv) w w'
def Gx (e : TypeId) : Prop:=e = 155 \/ e = 209 \/ e = 282 \/ e = 255
theorem qY.bP {w w' : World} {S : Nat -> Prop} {B : Nat} {ol : Ol} {sv tv bv : Value} {lt : List (Tr × Value)} {lb : List (Bl × Value)} (F : qY w B ol sv tv bv lt lb) (k : Kp S w w')
 (hs : ∀ i cur e,w.heap[i]? = some (.cells cur e (0,0)) -> Gx e -> ¬ S i) : qY w' B ol sv tv bv lt lb:=by
 have hS : ∀ {base e size v n xs},w.ownsRow base e size v n xs -> Gx e -> ∀ i,v.ownBlock = some i -> ¬ S i:=by
  intro base e size v n xs ho he i hi;obtain ⟨cur,hc⟩:=aR ho hi;exact hs i cur e hc he
 exact ⟨k.owns F.ag (hS F.ag (.inl rfl)),F.wM,k.owns F.bH (hS F.bH (.inr (.inl rfl))),fun x hx=>k.owns (F.kx x hx) (hS (F.kx x hx) (.inr (.inr (.inr rfl)))),
  F.y7,k.owns F.cM (hS F.cM (.inr (.inr (.inl rfl)))),fun x hx=>k.owns (F.kH x hx) (hS (F.kH x hx) (.inr (.inr (.inr rfl))))⟩
section
variable {w w' : World} {xb tb : Nat} {T : TypeId} {pc : Pc} {ol : Ol} {x : Sv} {kv : Value}
theorem cj.Gy (h : cj w xb tb T pc ol x kv) : T ≠ 261 /\ T ≠ 173 /\ T ≠ 95 /\ ¬ Gx T:=by
 rcases h.ty with rfl | rfl <;> exact ⟨by decide,by decide,by decide,by unfold Gx;decide⟩
theorem cj.shelf (h : cj w xb tb T pc ol x kv) : m_ w 0 xb 5 (kN pc x kv tb) T x.made x.kept kv:=⟨h.blk,rfl,rfl,h.row,h.wf,h.Gy.1⟩
theorem cj.NF (h : cj w xb tb T pc ol x kv) : xb ≠ tb:=by
 intro e;have h1:=h.blk;rw [e,h.kA] at h1;simp only [Option.some.injEq,Obj.cells.injEq] at h1;exact h.Gy.2.1 h1.2.1.symm
theorem cj.UK (h : cj w xb tb T pc ol x kv) : kv.ownBlock ≠ some xb:=own_ne h.row h.blk h.Gy.1.symm
theorem cj.NG (h : cj w xb tb T pc ol x kv) : kv.ownBlock ≠ some tb:=own_ne h.row h.kA (by decide)
theorem cj.NH (h : cj w xb tb T pc ol x kv) (K : Kp (jr xb tb kv) w w') : ∃ B lt lb,qY w' B ol pc.c pc.d pc.e lt lb:=by
 obtain ⟨B,lt,lb,F⟩:=h.pl;refine ⟨B,lt,lb,F.bP K ?_⟩;intro i cur e hi he hS
 rcases hS with rfl | rfl | hk
 ·rw [h.blk] at hi;simp only [Option.some.injEq,Obj.cells.injEq] at hi;exact h.Gy.2.2.2 (by rw [hi.2.1];exact he)
 ·rw [h.kA] at hi;simp only [Option.some.injEq,Obj.cells.injEq] at hi;rw [<- hi.2.1] at he;revert he;unfold Gx;decide
 obtain ⟨cur',hc⟩:=aR h.row hk;rw [hc] at hi;simp only [Option.some.injEq,Obj.cells.injEq] at hi;rw [<- hi.2.1] at he;revert he;unfold Gx;decide
theorem cj.keep {S : Nat -> Prop} (h : cj w xb tb T pc ol x kv) (K : Kp S w w') (h1 : ¬ S xb) (h2 : ¬ S tb) (h3 : ∀ k,kv.ownBlock = some k -> ¬ S k) (h4 : ∀ i cur e,w.heap[i]? = some (.cells cur e (0,0)) -> Gx e -> ¬ S i) : cj w' xb tb T pc ol x kv:=by
 obtain ⟨B,lt,lb,F⟩:=h.pl;exact ⟨K.at_ h.blk h1,K.owns h.row h3,K.at_ h.kA h2,h.wf,h.tw,h.ty,B,lt,lb,F.bP K h4⟩
theorem cj.au (h : cj w xb tb T pc ol x kv) (K : Kp (fun _=>False) w w') : cj w' xb tb T pc ol x kv:=h.keep K (fun x=>x) (fun x=>x) (fun _ _ x=>x) (fun _ _ _ _ _ x=>x)
theorem cj.plan (h : cj w xb tb 138 pc ol x kv) : Pl w xb 0 ol:=by
 obtain ⟨B,lt,lb,F⟩:=h.pl;exact ⟨pc.c,pc.d,pc.e,lt,lb,B,_,_,⟨h.blk,.inr (.inr rfl),rfl,rfl,rfl⟩,F⟩
theorem cj.cell (h : cj w xb tb T pc ol x kv) (j : Nat) : w.cell? ⟨xb,j,none⟩ = (kN pc x kv tb)[j]?:=by rw [World.cell?,h.blk];rfl
theorem cj.free (h : cj w xb tb T pc ol x kv) (j : Nat) : w.frozen? ⟨xb,j,none⟩ = false:=by simp [World.frozen?,h.blk]
theorem cj.uY (h : cj w xb tb T pc ol x kv) (j : Nat) : w.frozen? ⟨tb,j,none⟩ = false:=by simp [World.frozen?,h.kA]
theorem cj.dK (h : cj w xb tb T pc ol x kv) {u : Nat} {t : Tk} (hu : x.tasks[u]? = some t) {j : Nat} (hj : j < 45) : w.cell? ⟨tb,u * 45 + j,none⟩ = (fc t)[j]?:=by
 rw [dR h.kA];exact fH fc 45 x.tasks u t j (fun a ha=>cH (h.tw a ha)) hu hj
theorem cj.Me (h : cj w xb tb T pc ol x kv) {u : Nat} {t : Tk} (hu : x.tasks[u]? = some t) : t.now.Wf:=h.tw t (List.mem_of_getElem? hu)
theorem cj.tasks (h : cj w xb tb T pc ol x kv) {u : Nat} {t' : Tk} (hw : t'.now.Wf) (K : Kp (fun k=>k = tb) w w') (hb : w'.heap[tb]? = some (.cells (bj (x.tasks.set u t')).toArray 173 (0,0))) :
 cj w' xb tb T pc ol { x with tasks:=x.tasks.set u t' } kv:=by
 refine ⟨?_,K.owns h.row (fun k e x=>h.NG (by rw [<- x];exact e)),hb,h.wf,?_,h.ty,h.NH (K.mono (fun _ _ x=>.inr (.inl x)))⟩
 ·have:=K.at_ h.blk h.NF
  rw [this];simp [kN]
 intro t ht
 rcases List.mem_or_eq_of_mem_set ht with ht | rfl
 ·exact h.tw t ht
 exact hw
theorem cj.Gz (h : cj w xb tb T pc ol x kv) {u : Nat} {t t' : Tk} (hu : x.tasks[u]? = some t) (hw : t'.now.Wf) (j : Nat) (hj : j < 45) (v : Value) (ht : fc t' = (fc t).set j v) :
 cj (w.setCell ⟨tb,u * 45 + j,none⟩ v) xb tb T pc ol { x with tasks:=x.tasks.set u t' } kv:=by
 refine h.tasks hw ((Kp.refl (fun k=>k = tb) w).setCell (p:=⟨tb,u * 45 + j,none⟩) (fun _=>rfl) _) ?_;rw [ah _ h.kA]
 congr 2
 have:=sr fc 45 x.tasks u t t' j v (fun a ha=>cH (h.tw a ha)) hu hj ht;unfold bj;rw [<- this,List.setIfInBounds_toArray]
theorem cj.NI (h : cj w xb tb T pc ol x kv) {u : Nat} {t t' : Tk} (hu : x.tasks[u]? = some t) (hw : t'.now.Wf) (j : Nat) (l : List Value) (hj : j + l.length <= 45) (ht : fc t' = (fc t).take j ++ l ++ (fc t).drop (j + l.length)) :
 cj (w.setRow tb (putAt (bj x.tasks).toArray (u * 45 + j) l)) xb tb T pc ol { x with tasks:=x.tasks.set u t' } kv:=by
 refine h.tasks hw ((Kp.refl (fun k=>k = tb) w).setRow (fun _=>rfl) _) ?_;rw [setRow_heap w tb _ _ 173 (0,0) h.kA]
 congr 2
 exact uW fc 45 x.tasks u t t' j l (fun a ha=>cH (h.tw a ha)) hu hj ht
theorem cj.yy (h : cj w xb tb T pc ol x kv) : (bj x.tasks).toArray.size = x.tasks.length * 45:=by
 simp only [List.size_toArray];exact lF fc 45 x.tasks (fun a ha=>cH (h.tw a ha))
theorem cj.own (h : cj w xb tb T pc ol x kv) {x' : Sv} (hk : x'.kept = x.kept) (ht : x'.tasks = x.tasks) (K : Kp (fun k=>k = xb) w w') (hb : w'.heap[xb]? = some (.cells (kN pc x' kv tb) T (0,0))) : cj w' xb tb T pc ol x' kv:=by
 refine ⟨hb,by rw [hk];exact K.owns h.row (fun k e x=>h.UK (by rw [<- x];exact e)),by rw [ht];exact K.at_ h.kA h.NF.symm,by rw [hk];exact h.wf,by rw [ht];exact h.tw,h.ty,h.NH (K.mono (fun _ _ x=>.inl x))⟩
theorem cj.GB (h : cj w xb tb T pc ol x kv) {x' : Sv} (hk : x'.kept = x.kept) (ht : x'.tasks = x.tasks) (j : Nat) (v : Value) (he : (kN pc x kv tb).setIfInBounds j v = kN pc x' kv tb) : cj (w.setCell ⟨xb,j,none⟩ v) xb tb T pc ol x' kv:=by
 refine h.own hk ht ((Kp.refl (fun k=>k = xb) w).setCell (p:=⟨xb,j,none⟩) (fun _=>rfl) _) ?_;rw [ah _ h.blk,he]
theorem dF.refl (h : cj w xb tb T pc ol x kv) : dF w w xb tb T pc ol kv x:=⟨kv,h,fun _ e=>.inl e,Kp.refl _ _⟩
theorem dF.of (h : cj w' xb tb T pc ol x kv) (K : Kp (jr xb tb kv) w w') : dF w w' xb tb T pc ol kv x:=⟨kv,h,fun _ e=>.inl e,K⟩
theorem dF.trans {w'' : World} {x' : Sv} {fV : Value} (K : Kp (jr xb tb kv) w w') (hk : ∀ k,fV.ownBlock = some k -> kv.ownBlock = some k \/ w.heap.size <= k) (q : dF w' w'' xb tb T pc ol fV x') : dF w w'' xb tb T pc ol kv x':=by
 obtain ⟨I8,h2,n2,K2⟩:=q;refine ⟨I8,h2,?_,K.trans' K2 ?_⟩
 ·intro k e
  rcases n2 k e with e' | e'
  ·exact hk k e'
  exact .inr (Nat.le_trans K.size e')
 intro i hi s
 rcases s with s | s | s
 ·exact .inl s
 ·exact .inr (.inl s)
 rcases hk i s with e | e
 ·exact .inr (.inr e)
 omega
theorem cj.I9 (h : cj w xb tb T pc ol x kv) {kept' : List Vr} (K : Kp (fun k=>kv.ownBlock = some k) w w') (hs : m_ w' 0 xb 5 (kN pc x kv tb) T x.made kept' kv) : cj w' xb tb T pc ol { x with kept:=kept' } kv :=
 ⟨hs.blk,hs.row,K.at_ h.kA h.NG,hs.wf,h.tw,h.ty,h.NH (K.mono (fun _ _ x=>.inr (.inr x)))⟩
theorem cj.setOther (h : cj w xb tb T pc ol x kv) {g : Nat} {c : Array Value} {e : TypeId} (hg : w.heap[g]? = some (.cells c e (0,0))) (he : e = 64 \/ e = 95) (cs : Array Value) : cj (w.setRow g cs) xb tb T pc ol x kv:=by
 have hT : e ≠ T:=by rcases he with rfl | rfl <;> rcases h.ty with rfl | rfl <;> decide
 have hV : e ≠ 261:=by rcases he with rfl | rfl <;> decide
 have hK : e ≠ 173:=by rcases he with rfl | rfl <;> decide
 have ne : ∀ {b : Nat} {c' : Array Value} {e' : TypeId},w.heap[b]? = some (.cells c' e' (0,0)) -> e ≠ e' -> b ≠ g:=by
  intro b c' e' hb hne hbg;rw [hbg,hg] at hb;simp only [Option.some.injEq,Obj.cells.injEq] at hb;exact hne hb.2.1
 refine h.keep (S:=fun k=>k = g) ((Kp.refl (fun k=>k = g) w).setRow (fun _=>rfl) _) (ne h.blk hT) (ne h.kA hK) ?_ ?_
 ·intro k ek
  obtain ⟨cur,hc⟩:=aR h.row ek;exact ne hc hV
 intro i cur e' hi ho;refine ne hi ?_;intro x;subst x
 revert ho
 unfold Gx
 rcases he with rfl | rfl <;> decide
theorem cj.low (h : cj w xb tb T pc ol x kv) : ∀ k,jr xb tb kv k -> k < w.heap.size:=by
 rintro k (rfl | rfl | e)
 ·exact lt_of_block h.blk
 ·exact lt_of_block h.kA
 obtain ⟨cur,hc⟩:=aR h.row e;exact lt_of_block hc
theorem dF.at_ {x' : Sv} (q : dF w w' xb tb T pc ol kv x') {n : Nat} (hl : ∀ k,jr xb tb kv k -> k < n) {o : Obj} (ho : w.heap[n]? = some o) : w'.heap[n]? = some o:=by
 obtain ⟨fV,h4,n4,K4⟩:=q;exact K4.at_ ho (fun s=>by have:=hl n s;omega)
theorem dF.fB {w'' : World} {x' : Sv} (K : Kp (jr xb tb kv) w w') (q : dF w' w'' xb tb T pc ol kv x') {c : Array Value} (hn : w''.heap[w.heap.size]? = some (.cells c 64 (0,0))) (cs : Array Value) : dF w (w''.setRow w.heap.size cs) xb tb T pc ol kv x':=by
 obtain ⟨fV,h4,n4,K4⟩:=q;exact ⟨fV,h4.setOther hn (.inl rfl) cs,fun k e=>(n4 k e).imp id (Nat.le_trans K.size),(K.trans' K4 (fun _ _ s=>s)).setRow (fun x=>by omega) cs⟩
end
namespace Ch
structure Sv.Bd (x : Sv) : Prop where
 made : x.made <= 100000000000000
 yz : x.kept.length <= 1000
 nums : ∀ v ∈ x.kept,v.num <= 1000000000000000 /\ v.pins <= 1000000000000000
 joined : x.joined <= 1000000000000000000
 tail : x.tail.size <= 24
 tj : x.tail.size <= x.joined
 tick : x.aN <= 1000000000000000
 turn : x.turn <= 1000000000000000
 tasks : x.tasks.length <= 6
def dW (x : Sv) (e : Int) : Rp:={ b8 with err:=e,dT:=(x.made : Int) - 1 }
def j0 (x : Sv) (a : Int) : Rp :=
 if (dx x.joined x.tail a).2 != 0 then dW x (dx x.joined x.tail a).2
 else { b8 with dT:=(x.made : Int) - 1,next:=a + ((dx x.joined x.tail a).1.size : Int),text:=(dx x.joined x.tail a).1 }
end Ch
section
variable (w : World) {xb tb : Nat} {T : TypeId} {pc : Pc} {ol : Ol} {x : Sv} {kv : Value}
theorem lJ (h : cj w xb tb T pc ol x kv) (hbd : x.Bd) (s : Sd) (hs : s.Wf) (out : ByteArray) (ho : out.size <= 10000000000) :
 Calls prog 135 #[.pointer (some ⟨xb,0,none⟩),.agg (aj s).toArray,.string out] w fun r w'=>r = .returned (.tuple #[]) /\ dF w w' xb tb T pc ol kv (fN x s out):=by
 obtain ⟨ds,hds,eH⟩:=cQ;have hnb:=heap_alloc_new w (.cells (aj s).toArray 95);have K1 : Kp (fun _=>False) w (w.alloc (.cells (aj s).toArray 95)):=(Kp.refl _ _).alloc _;have h1:=h.au K1
 have hsI : (prog.info? 95).map (·.size) = some (aj s).toArray.size:=by rw [show (aj s).toArray.size = 36 by simp [aT hs]];exact aY
 have EA:=hid (CZ (w.alloc (.cells (aj s).toArray 95)).drew (h1.au ((Kp.refl _ _).drewN 1)).shelf (Nat.zero_le _) hbd.yz hbd.made hbd.nums h.Gy.2.2.1 s hs);have hxs:=lt_of_block h.blk;have hts:=lt_of_block h.kA
 have hks : ∀ k,kv.ownBlock = some k -> k < w.heap.size:=fun k e=>by
  obtain ⟨cur,hc⟩:=aR h.row e;exact lt_of_block hc
 have HH:=hid (ae h (ae hbd K1));clear h;generalize m9 : (aj s).toArray = SA at *;clear m9
 go_enter func135,ntmps135
 go_upto_region 1 with (fail)
 generalize w.alloc (.cells SA 95) = w1 at *;have hS0 : w1.drew.heap[w.heap.size]? = some (.cells SA 95 (0,0)):=hnb;refine aB (fun w'=>w'.heap[w.heap.size]? = some (.cells SA 95 (0,0))) (by kernel_rfl) ?_;refine tj 0 6 (.pointer (some ⟨xb,0,none⟩)) hS0 ?_;refine tj 1 7 (.pointer (some ⟨xb,0,none⟩)) hS0 ?_;refine tj 2 8 (.pointer (some ⟨xb,5,none⟩)) hS0 ?_;refine tl 3 9 (.agg SA) rfl (fun w' hS=>aU 95 (.tmp 4) rfl w.heap.size rfl 95 SA (0,0) ds hS hds eH hsI) hS0 ?_;refine dO 4 ?_;refine bD (some 10) rfl 184 #[.pointer (some ⟨xb,5,none⟩),.agg SA] (by simp [execOp,Act.eval,go_sem]) (.tuple #[]) _ EA.out ?_;rintro w2 ⟨fV,q1,q2,q3,q4⟩
 have hS2 : w2.heap[w.heap.size]? = some (.cells SA 95 (0,0)):=q4.at_ hS0 (by
  rintro (e | e)
  ·omega
  have:=hks _ e;omega)
 refine ⟨hS2,?_⟩;refine wpAnyH_done (by kernel_rfl) (NoPanic.normal ?_) _;have EJ:=hid (At w2 (jo:=7) (joined:=x.joined) (tail:=x.tail) q1 (by simp [kN]) (by simp [kN]) out hbd.tail ho hbd.joined);have HQ:=hid (ae q2 (ae q3 q4));clear EA q1 q2 q3 q4 hS2 hS0 hnb h1
 go_wp2_with fail
 refine hm EJ ?_;rintro x3 w3 ⟨rfl,p1,p2⟩;have HP:=hid (ae p1 p2);clear EJ p1 p2
 go_wp2_with fail
 go_end0
 refine ⟨rfl,fV,?_⟩;obtain ⟨h,hbd,K1⟩:=HH.out;obtain ⟨q2,q3,q4⟩:=HQ.out;obtain ⟨p1,p2⟩:=HP.out;have KA : Kp (jr xb tb kv) w w2:=((K1.drewN 1).mono (fun _ _ x=>x.elim)).trans' q4 (fun i _ s=>s.elim (fun s=>.inl s) (fun s=>.inr (.inr s)));have KB : Kp (jr xb tb kv) w w3:=KA.trans' p2 (fun i _ s=>.inl s)
 have hk' : ∀ k,fV.ownBlock = some k -> w.heap.size <= k:=fun k e=>Nat.le_trans K1.size (q3 k e)
 refine ⟨⟨?_,p2.owns q2 (fun k e x=>by have:=hk' k e;omega),?_,?_,h.tw,h.ty,h.NH KB⟩,fun k e=>.inr (hk' k e),KB⟩
 ·rw [p1]
  simp [kN,fN]
 ·have K2 : Kp (fun k=>k = xb \/ kv.ownBlock = some k) w w3:=(((K1.drewN 1).mono (fun _ _ x=>x.elim)).trans' q4 (fun i _ s=>s)).trans' p2 (fun i _ s=>.inl s)
  exact K2.at_ h.kA (by
   rintro (e | e)
   ·exact h.NF e.symm
   exact h.NG e)
 intro v hv;have hv:=(List.mem_filter.1 hv).1
 rcases List.mem_append.1 hv with hv | hv
 ·exact h.wf v hv
 simp at hv;subst hv;exact hs
theorem nX (h : cj w xb tb T pc ol x kv) (u : Int) :
 Calls prog 90 #[.pointer (some ⟨xb,0,none⟩),.int .i64 u] w fun r w'=>r = .returned (.bool (decide (0 <= u) && decide (u < (x.tasks.length : Int)))) /\ w' = w:=by
 have x9 : w.cell? ⟨xb,9,none⟩ = some (.slice (some ⟨tb,0,none⟩) x.tasks.length x.tasks.length):=h.cell 9;clear h
 by_cases h1 : 0 <= u
 ·by_cases h2 : u < (x.tasks.length : Int)
  ·go_enter func90,ntmps90
   go_wp2;go_ret;exact ⟨by simp [h1,h2],rfl⟩
  go_enter func90,ntmps90
  go_wp2;go_ret;exact ⟨by simp [h2],rfl⟩
 go_enter func90,ntmps90
 go_wp2;go_ret;exact ⟨by simp;omega,rfl⟩
theorem wA (h : cj w xb tb T pc ol x kv) (hk : x.kept.length <= 1000) :
 Calls prog 85 #[.pointer (some ⟨xb,0,none⟩)] w fun r w'=>r = .returned (.slice (some ⟨w.heap.size,0,none⟩) x.kept.length x.kept.length) /\ w'.ownsRow w.heap.size 3 1 (.slice (some ⟨w.heap.size,0,none⟩) x.kept.length x.kept.length) x.kept.length (x.kept.map fun v=>.int .i64 v.num) /\ Kp (fun _=>False) w w':=by
 have E:=hid (yv w h.shelf hk);clear h
 go_enter func85,ntmps85
 go_wp2_with fail
 refine hm E ?_;rintro r w1 ⟨rfl,o1,K1⟩;have HF:=hid (ae o1 K1);clear E o1 K1;go_wp2;go_ret;exact ⟨rfl,HF.out.1,HF.out.2⟩
theorem hJ (h : cj w xb tb T pc ol x kv) (hm1 : x.made <= 1000000000000000) (e : Int) :
 Calls prog 190 #[.pointer (some ⟨xb,0,none⟩),.int .i64 e] w fun r w'=>r = .returned (.agg (aZ (dW x e))) /\ Kp (fun _=>False) w w':=by
 obtain ⟨dr,hdr,gr⟩:=my;have K1 : Kp (fun _=>False) w (w.alloc (.cells aA 64)):=(Kp.refl _ _).alloc _;have hnew:=heap_alloc_new w (.cells aA 64);have E:=hid (gN _ (h.au K1).shelf hm1);have et:=setRow_heap (w.alloc (.cells aA 64)) w.heap.size aA (aZ (dW x e)) 64 (0,0) hnew;have KF:=K1.setRow (g:=w.heap.size) (fun x=>by omega) (aZ (dW x e));clear h
 go_enter func190,ntmps190
 go_upto_region 1 with (fail)
 generalize w.alloc (.cells aA 64) = w1 at *
 go_wp2_with fail
 refine hm E ?_;rintro r w2 ⟨rfl,rfl⟩;clear E
 go_wp2_with (refine wpList_store_row rfl 64 (.tmp 4) (.tmp 10) rfl w.heap.size (aZ (dW x e)) rfl rfl 64 aA hnew aV rfl (cT _) ?_)
 refine bodyPost_ret (results_cell_row rfl _ _ w.heap.size 64 (aZ (dW x e)) (0,0) dr rfl et hdr (by cases dr <;> first | rfl | exact absurd gr (by simp [ar])) aV) rfl ?_;exact ⟨rfl,KF⟩
end
end Go.Proofs.YtnlbchmfcebeeaaGreat
