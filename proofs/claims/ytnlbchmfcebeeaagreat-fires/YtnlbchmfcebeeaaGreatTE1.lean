import Derived.Test.YtnlbchmfcebeeaaGreatTC6
import Derived.Test.YtnlbchmfcebeeaaGreatTC2
import Derived.Test.YtnlbchmfcebeeaaGreatTB5
import Derived.Deep.CutRange
import Derived.Deep.RegionHeld3
set_option maxHeartbeats 12800000
set_option maxRecDepth 100000
namespace Go.Proofs.YtnlbchmfcebeeaaGreat
open Go.RowKit
namespace Ch
def leavesF (ss : List St) (act : List Bool) (d : Int) : Nat → Nat → List Bool → List Bool
 | 0, _, l => l
 | f + 1, k, l => leavesF ss act d f (k + 1) (if has act (k : Int) && isAbove ss d (k : Int) then putB l (k : Int) true else l)
def leaves (ol : Ol) (s : Sd) (t : Nat) : List Bool := match ol.trs[t]? with
 | some x => if x.target == 45 then noSet else leavesF ol.sts s.act (dom ol.sts x.state x.target) ol.sts.length 0 noSet
 | none => noSet
theorem leavesF_len (ss : List St) (act : List Bool) (d : Int) : ∀ (f k : Nat) (l : List Bool), (leavesF ss act d f k l).length = l.length := by
 intro f
 induction f with
 | zero => intro k l; rfl
 | succ f ih => intro k l; simp only [leavesF]; rw [ih]; split <;> simp [putB_len]
theorem leaves_len (ol : Ol) (s : Sd) (t : Nat) : (leaves ol s t).length = 16 := by
 unfold leaves
 split
 ·split
  ·rfl
  rw [leavesF_len]; rfl
 rfl
def admitF (ol : Ol) (s : Sd) (t : Nat) : List Int → List Int → Option (List Int)
 | [], kept => some (kept ++ [(t : Int)])
 | x :: l, kept => if meets (leaves ol s t) (leaves ol s x.toNat) then (if within ol t x.toNat then admitF ol s t l kept else none) else admitF ol s t l (kept ++ [x])
def admis (ol : Ol) (s : Sd) (list : List Int) (t : Nat) : List Int := match admitF ol s t list [] with | some l => l | none => list
def chooseF (ol : Ol) (s : Sd) : List Int → List Int → List Int
 | [], acc => acc
 | x :: l, acc => chooseF ol s l (admis ol s acc x.toNat)
def choose (ol : Ol) (s : Sd) (trg : Int) : List Int := chooseF ol s (find ol s trg) []
theorem admitF_in {ol : Ol} {s : Sd} {t : Nat} (ht : t < ol.trs.length) : ∀ (l kept r : List Int), InT ol l → InT ol kept → admitF ol s t l kept = some r → InT ol r ∧ r.length ≤ kept.length + l.length + 1 := by
 intro l
 induction l with
 | nil =>
   intro kept r _ hk h; simp only [admitF, Option.some.injEq] at h; subst h; refine ⟨?_, by simp⟩; intro n hn
   rcases List.mem_append.1 hn with hn | hn
   ·exact hk n hn
   simp at hn; subst hn; omega
 | cons x l ih => ?_
 intro kept r hl hk h; have hx := hl x (by simp)
 have hl' : InT ol l := fun n hn => hl n (by simp [hn])
 simp only [admitF] at h
 split at h
 ·split at h
  ·obtain ⟨h1, h2⟩ := ih kept r hl' hk h
   exact ⟨h1, by simp; omega⟩
  simp at h
 obtain ⟨h1, h2⟩ := ih (kept ++ [x]) r hl' (fun n hn => by
  rcases List.mem_append.1 hn with hn | hn
  ·exact hk n hn
  simp at hn; subst hn; exact hx) h
 refine ⟨h1, ?_⟩; simp at h2 ⊢; omega
theorem admit_in {ol : Ol} {s : Sd} {t : Nat} (ht : t < ol.trs.length) {l : List Int} (hl : InT ol l) : InT ol (admis ol s l t) ∧ (admis ol s l t).length ≤ l.length + 1 := by
 unfold admis
 split
 ·rename_i r h
  have := admitF_in ht l [] r hl (by intro n hn; simp at hn) h; exact ⟨this.1, by have := this.2; simp at this; omega⟩
 exact ⟨hl, by omega⟩
theorem chooseF_in {ol : Ol} {s : Sd} : ∀ (l acc : List Int), InT ol l → InT ol acc → InT ol (chooseF ol s l acc) ∧ (chooseF ol s l acc).length ≤ acc.length + l.length := by
 intro l
 induction l with
 | nil => intro acc _ h; exact ⟨h, by simp [chooseF]⟩
 | cons x l ih => ?_
 intro acc hl h; have hx := hl x (by simp); simp only [chooseF]; have ha := admit_in (s := s) (t := x.toNat) (by omega) h; obtain ⟨h1, h2⟩ := ih (admis ol s acc x.toNat) (fun n hn => hl n (by simp [hn])) ha.1; exact ⟨h1, by have := ha.2; simp; omega⟩
theorem findStep_in {ol : Ol} {s : Sd} {trg : Int} {fl : List Int} {k : Nat} (h : InT ol fl) : InT ol (findStep ol s trg fl k) ∧ (findStep ol s trg fl k).length ≤ fl.length + 1 := by
 unfold findStep
 split
 ·rename_i q
  simp only [Bool.and_eq_true, bne_iff_ne] at q; refine ⟨?_, by simp⟩; intro n hn
  rcases List.mem_append.1 hn with hn | hn
  ·exact h n hn
  simp at hn; subst hn
  rcases findFrom_at ol s trg ((k : Int) + 2).toNat k with e | ⟨j, e, hj⟩
  ·exact absurd e q.1.2
  unfold findFrom; rw [e]; omega
 exact ⟨h, by omega⟩
theorem findF_in {ol : Ol} {s : Sd} {trg : Int} : ∀ (f k : Nat) (fl : List Int), InT ol fl → InT ol (findF ol s trg f k fl) ∧ (findF ol s trg f k fl).length ≤ fl.length + f := by
 intro f
 induction f with
 | zero => intro k fl h; exact ⟨h, by simp [findF]⟩
 | succ f ih => ?_
 intro k fl h; simp only [findF]; have h0 := findStep_in (s := s) (trg := trg) (k := k) h; obtain ⟨h1, h2⟩ := ih (k + 1) _ h0.1; exact ⟨h1, by have := h0.2; omega⟩
theorem find_in (ol : Ol) (s : Sd) (trg : Int) : InT ol (find ol s trg) ∧ (find ol s trg).length ≤ ol.sts.length := by
 have := findF_in (ol := ol) (s := s) (trg := trg) ol.sts.length 0 [] (by intro n hn; simp at hn); exact ⟨this.1, by have h2 := this.2; simp only [List.length_nil, Nat.zero_add] at h2; exact h2⟩
theorem choose_in (ol : Ol) (s : Sd) (trg : Int) : InT ol (choose ol s trg) ∧ (choose ol s trg).length ≤ ol.sts.length := by
 have h := find_in ol s trg; have := chooseF_in (s := s) (find ol s trg) [] h.1 (by intro n hn; simp at hn); exact ⟨this.1, by have h2 := this.2; have := h.2; simp only [List.length_nil, Nat.zero_add] at h2; unfold choose; omega⟩
def leftF (ol : Ol) (s : Sd) : List Int → List Bool → List Bool
 | [], l => l
 | x :: r, l => leftF ol s r (join l (leaves ol s x.toNat))
def leftAll (ol : Ol) (s : Sd) (list : List Int) : List Bool := leftF ol s list noSet
theorem leftF_len (ol : Ol) (s : Sd) : ∀ (r : List Int) (l : List Bool), l.length = 16 → (leftF ol s r l).length = 16 := by
 intro r
 induction r with
 | nil => intro l h; exact h
 | cons x r ih => intro l h; simp only [leftF]; exact ih _ (join_len _ _)
theorem leftAll_len (ol : Ol) (s : Sd) (list : List Int) : (leftAll ol s list).length = 16 := leftF_len _ _ _ _ rfl
def actsOf (ol : Ol) (t : Nat) : List Ac := match ol.trs[t]? with | some x => x.acts | none => []
def doTrs (ol : Ol) : List Int → Ma → Ma
 | [], m => m
 | x :: l, m => doTrs ol l (doActs (actsOf ol x.toNat) m)
def enterF (ol : Ol) (stayed : List Bool) (goals : List Int) : Nat → Nat → Ma → Ma
 | 0, _, m => m
 | f + 1, k, m => enterF ol stayed goals f (k + 1) (if isDue ol.sts m.s.act stayed goals (k : Int) then enterSt ol m k else m)
def enter (ol : Ol) (m : Ma) (list : List Int) : Ma := enterF ol m.s.act (goalsF ol m.s list) ol.sts.length 0 m
def micro (ol : Ol) (m : Ma) (list : List Int) : Ma :=
 enter ol (doTrs ol list (leaveF ol (leftAll ol m.s list) ol.sts.length { m with s := rem ol.sts m.s (leftAll ol m.s list) })) list
def busy (ol : Ol) (m : Ma) : Bool := decide (0 < (choose ol m.s 46).length) || decide (0 < m.q.length)
def round (ol : Ol) (m : Ma) : Ma :=
 if (choose ol m.s 46).length == 0 then match m.q with
  | [] => micro ol m (choose ol m.s 46)
  | a :: q => micro ol { m with q := q } (choose ol m.s a)
 else micro ol m (choose ol m.s 46)
def rounds (ol : Ol) : Nat → Ma → Ma
 | 0, m => m
 | n + 1, m => if busy ol m then rounds ol n (round ol m) else m
def finish (ol : Ol) (n : Nat) (m : Ma) : Sd × ByteArray × Int :=
 if busy ol (rounds ol n m) then (noSd, ByteArray.empty, 9) else ((rounds ol n m).s, strOfNums (rounds ol n m).out, 0)
def mfire (ol : Ol) (s : Sd) (ev : Int) : Sd × ByteArray × Int := finish ol 29 (micro ol ⟨s, [], []⟩ (choose ol s ev))
theorem goalsF_len (ol : Ol) (s : Sd) : ∀ (l : List Int), (goalsF ol s l).length ≤ l.length := by
 intro l
 induction l with
 | nil => simp [goalsF]
 | cons x l ih => ?_
 simp only [goalsF]
 split
 ·split
  ·simp; omega
  simp; omega
 simp; omega
theorem Ma.Sz.le {m : Ma} {a b : Nat} (h : m.Sz a) (hab : a ≤ b) : m.Sz b := ⟨Nat.le_trans h.1 hab, Nat.le_trans h.2 hab⟩
theorem leaveF_ok (ol : Ol) (left : List Bool) : ∀ (k : Nat) {m : Ma}, m.s.Ok → (leaveF ol left k m).s.Ok := by
 intro k
 induction k with
 | zero => intro m h; exact h
 | succ k ih => ?_
 intro m h; simp only [leaveF]; refine ih ?_
 split
 ·exact setAct_ok (doBls_ok _ _ _ h) _ _
 exact h
theorem leaveF_sz {ol : Ol} (hol : ol.Ok) (left : List Bool) : ∀ (k : Nat) {m : Ma} {n : Nat}, m.Sz n → (leaveF ol left k m).Sz (n + 115200 * k) := by
 intro k
 induction k with
 | zero => intro m n h; simpa [leaveF] using h
 | succ k ih => ?_
 intro m n h; simp only [leaveF]
 have h1 : (if has left (k : Int) then setAct (doBls k 36 ol.bls m) k false else m : Ma).Sz (n + 115200) := by
  split
  ·exact doBls_sz' hol _ _ h
  exact h.le (by omega)
 exact (ih h1).le (by omega)
theorem doTrs_ok (ol : Ol) : ∀ (l : List Int) {m : Ma}, m.s.Ok → (doTrs ol l m).s.Ok := by
 intro l
 induction l with
 | nil => intro m h; exact h
 | cons x l ih => intro m h; simp only [doTrs]; exact ih (doActs_ok _ h)
theorem actsOf_len {ol : Ol} (hol : ol.Ok) (t : Nat) : (actsOf ol t).length ≤ 240 := by
 unfold actsOf
 split
 ·rename_i x hx; exact (hol.tra x (List.mem_of_getElem? hx)).1
 simp
theorem doTrs_sz {ol : Ol} (hol : ol.Ok) : ∀ (l : List Int) {m : Ma} {n : Nat}, m.Sz n → (doTrs ol l m).Sz (n + 480 * l.length) := by
 intro l
 induction l with
 | nil => intro m n h; simpa [doTrs] using h
 | cons x l ih => ?_
 intro m n h; simp only [doTrs]; exact (ih (doActs_sz h (actsOf_len hol _))).le (by simp; omega)
theorem enterF_ok (ol : Ol) (stayed : List Bool) (goals : List Int) : ∀ (f k : Nat) {m : Ma}, m.s.Ok → (enterF ol stayed goals f k m).s.Ok := by
 intro f
 induction f with
 | zero => intro k m h; exact h
 | succ f ih => ?_
 intro k m h; simp only [enterF]; refine ih _ ?_
 split
 ·exact enterSt_ok h _
 exact h
theorem enterF_sz {ol : Ol} (hol : ol.Ok) (stayed : List Bool) (goals : List Int) : ∀ (f k : Nat) {m : Ma} {n : Nat}, m.Sz n → (enterF ol stayed goals f k m).Sz (n + 115202 * f) := by
 intro f
 induction f with
 | zero => intro k m n h; simpa [enterF] using h
 | succ f ih => ?_
 intro k m n h; simp only [enterF]
 have h1 : (if isDue ol.sts m.s.act stayed goals (k : Int) then enterSt ol m k else m : Ma).Sz (n + 115202) := by
  split
  ·exact enterSt_sz hol h _
  exact h.le (by omega)
 exact (ih (k + 1) h1).le (by omega)
theorem enter_ok {ol : Ol} {m : Ma} (h : m.s.Ok) (list : List Int) : (enter ol m list).s.Ok := enterF_ok _ _ _ _ _ h
theorem enter_sz {ol : Ol} (hol : ol.Ok) {m : Ma} {n : Nat} (h : m.Sz n) (list : List Int) : (enter ol m list).Sz (n + 1900000) := by
 have := enterF_sz hol m.s.act (goalsF ol m.s list) ol.sts.length 0 h; have h16 := hol.sts; exact this.le (by omega)
theorem rem_ok {ss : List St} {s : Sd} (left : List Bool) (h : s.Ok) : (rem ss s left).Ok := ⟨rem_wf left h.1, h.2⟩
theorem micro_ok {ol : Ol} {m : Ma} (h : m.s.Ok) (list : List Int) : (micro ol m list).s.Ok :=
 enter_ok (doTrs_ok _ _ (leaveF_ok _ _ _ (rem_ok _ h))) _
theorem micro_sz {ol : Ol} (hol : ol.Ok) {m : Ma} {n : Nat} (h : m.Sz n) {list : List Int} (hl : list.length ≤ 16) : (micro ol m list).Sz (n + 3900000) := by
 have h16 := hol.sts; have h1 : ({ m with s := rem ol.sts m.s (leftAll ol m.s list) } : Ma).Sz n := h; have h2 := leaveF_sz hol (leftAll ol m.s list) ol.sts.length h1; have h3 := doTrs_sz hol list h2; exact (enter_sz hol h3 list).le (by omega)
theorem round_ok {ol : Ol} {m : Ma} (h : m.s.Ok) : (round ol m).s.Ok := by
 unfold round
 split
 ·split
  ·exact micro_ok h _
  rename_i q _; exact micro_ok (m := { m with q := q }) h _
 exact micro_ok h _
theorem choose_16 {ol : Ol} (hol : ol.Ok) (s : Sd) (trg : Int) : (choose ol s trg).length ≤ 16 := by
 have := (choose_in ol s trg).2; have := hol.sts; omega
theorem round_sz {ol : Ol} (hol : ol.Ok) {m : Ma} {n : Nat} (h : m.Sz n) : (round ol m).Sz (n + 3900000) := by
 unfold round
 split
 ·split
  ·exact micro_sz hol h (choose_16 hol _ _)
  rename_i a q e; refine micro_sz hol (m := { m with q := q }) ?_ (choose_16 hol _ _); refine ⟨?_, h.2⟩; have := h.1; rw [e] at this; simp at this ⊢; omega
 exact micro_sz hol h (choose_16 hol _ _)
theorem take_okA {ss : List St} {a p t : ByteArray} {x y z : Int} : (take ss a p t x y z).2.Ok := by
 have h0 : noSd.Ok := ⟨noSd_wf, by simp [noSd], by simp [noSd]⟩
 unfold take
 split
 ·split
  ·split
   ·rename_i q
    simp only [Bool.and_eq_true, inB, decide_eq_true_eq] at q; obtain ⟨⟨⟨q1, q2⟩, q3⟩, q4⟩ := q; refine ⟨⟨takeActV_len ss a, takePastV_len ss p⟩, ⟨q2, q3, q4⟩, ?_⟩; show t.size ≤ 17; unfold areTm at q1
    split at q1
    ·simp at q1
    rename_i q5; simp only [Bool.or_eq_true, decide_eq_true_eq, not_or] at q5; omega
   exact h0
  exact h0
 exact h0
end Ch
def setA (l : List Bool) : Array Value := (l.map Value.bool).toArray
section
variable {w : World} {b : Nat} {l : List Bool}
theorem SeB.row (h : SeB w b [] l [] 91) : w.heap[b]? = some (.cells (setA l) 91 (0, 0)) := by unfold SeB at h; simpa [setA] using h
theorem SeB.ofRow (h : w.heap[b]? = some (.cells (setA l) 91 (0, 0))) : SeB w b [] l [] 91 := by unfold SeB; simpa [setA] using h
theorem setA_size (h : l.length = 16) : (setA l).size = 16 := by simp [setA, h]
theorem setA_info (h : l.length = 16) : (Tryz.prog.info? 91).map (·.size) = some (setA l).size := by rw [setA_size h]; exact Tryz.sizeSet
theorem setA_one (l : List Bool) : (setA l).all (·.oneCell') = true := by
 apply Array.all_eq_true_iff_forall_mem.2; intro x hx; simp only [setA, List.mem_toArray, List.mem_map] at hx; obtain ⟨a, _, rfl⟩ := hx; rfl
end
theorem Kp.cell0 {w w' : World} (k : Kp (fun _ => False) w w') {p : Addr} {v : Value} (h : w.cell? p = some v) : w'.cell? p = some v := by
 have hlt := World.block_lt_of_cell? w _ h; have e := k.block p.block hlt (fun x => x); unfold World.cell? at *; rw [e]; exact h
section
variable (w : World) (mb ob po : Nat) (s : Ch.Sd) (qv ov : Value) (ol : Ch.Ol)
theorem leaves_any (t : Nat) (ht : t < ol.trs.length) (hm : MaB w mb ob po s qv ov) (hw : s.Wf) (hp : Pl w ob po ol) (hol : ol.Ok) :
 Calls Tryz.prog 176 #[.pointer (some ⟨mb, 0, none⟩), .int .i64 t] w fun x w' => x = .returned (.agg (setA (Ch.leaves ol s t))) ∧ Kp (fun _ => False) w w' := by
 obtain ⟨ds, hds, hda⟩ := Tryz.undSet; have hl16 := hol.sts
 have ht' : (t : Int) < (ol.trs.length : Int) := by omega
 obtain ⟨a, ha⟩ : ∃ s, ol.trs[t]? = some s := ⟨_, List.getElem?_eq_getElem ht⟩
 have K2 : Kp (fun _ => False) w ((w.alloc (.cells zB16 91)).alloc (.cells zB16 91)) := ((Kp.refl _ _).alloc _).alloc _
 have hr2 : ((w.alloc (.cells zB16 91)).alloc (.cells zB16 91)).heap[w.heap.size]? = some (.cells zB16 91) := by
  rw [Below.heap_alloc _ _ _ (by simp)]; exact heap_alloc_new _ _
 have hv2 : ((w.alloc (.cells zB16 91)).alloc (.cells zB16 91)).heap[w.heap.size + 1]? = some (.cells zB16 91) := heap_alloc2_new w _ _
 have hsz2 : ((w.alloc (.cells zB16 91)).alloc (.cells zB16 91)).heap.size = w.heap.size + 2 := by simp
 have hmb := hm.lt; have cp : ((w.alloc (.cells zB16 91)).alloc (.cells zB16 91)).cell? ⟨mb, 0, none⟩ = some (.pointer (some ⟨ob, po, none⟩)) := MaB.plan (SdB.keep hm K2 (fun x => x)); have hm2 : MaB ((w.alloc (.cells zB16 91)).alloc (.cells zB16 91)) mb ob po s qv ov := SdB.keep hm K2 (fun x => x); have hp2 : Pl ((w.alloc (.cells zB16 91)).alloc (.cells zB16 91)) ob po ol := hp.keep K2 (fun _ _ _ _ _ x => x); obtain ⟨g, cap, ac, base, c3, cc, hac⟩ := hp2.tr ha; have c0 := cc 0 (by omega); have c1 := cc 1 (by omega); have c2 := cc 2 (by omega); have c4 := cc 4 (by omega); have c5 := cc 5 (by omega); have c6 := cc 6 (by omega); have c33 := cc 3 (by omega); simp only [List.getElem?_cons_succ, List.getElem?_cons_zero, Nat.add_zero] at c0 c1 c2 c33 c4 c5 c6; clear cc hac hp hm
 cases q1 : a.target == 45 with
 | true =>
   rw [show Ch.leaves ol s t = Ch.noSet by simp [Ch.leaves, ha, q1]]; clear hm2 hp2
   go_enter Tryz.func176, Tryz.ntmps176
   go_wp2_with fail
   generalize ((w.alloc (.cells zB16 91)).alloc (.cells zB16 91)) = w2 at *; refine bodyPost_ret (results_cell_row rfl _ _ w.heap.size 91 zB16 (0, 0) ds rfl hr2 hds (by cases ds <;> first | rfl | exact absurd hda (by simp [isAggD])) Tryz.sizeSet) rfl ?_; exact ⟨rfl, K2⟩
 | false => ?_
 rw [show Ch.leaves ol s t = Ch.leavesF ol.sts s.act (Ch.dom ol.sts a.state a.target) ol.sts.length 0 Ch.noSet by simp [Ch.leaves, ha, q1]]; have E1 := hid (domain_any ob po ((w.alloc (.cells zB16 91)).alloc (.cells zB16 91)).drew ol.sts a.state a.trig a.guard.var a.guard.sign a.guard.digit a.target ac hol.up (by exact hp2.str) (by omega))
 go_enter Tryz.func176, Tryz.ntmps176
 go_upto_region 4 with (fail)
 generalize hw2 : ((w.alloc (.cells zB16 91)).alloc (.cells zB16 91)) = w2 at *; clear hw2
 go_cut [6] from 21 to 35 (fun d wx => d = .int .i64 (Ch.dom ol.sts a.state a.target) ∧ Kp (fun _ => False) w2 wx)
 case first =>
  go_region_held3 (fun w' => w'.cell? ⟨mb, 0, none⟩ = some (.pointer (some ⟨ob, po, none⟩)) ∧ w'.cell? ⟨ob, po + 3, none⟩ = some (.slice (some ⟨g, 0, none⟩) ol.trs.length cap) ∧ w'.cell? ⟨g, t * 7, none⟩ = some (.int .i64 a.state) ∧ w'.cell? ⟨g, t * 7 + 1, none⟩ = some (.int .u8 a.trig) ∧ w'.cell? ⟨g, t * 7 + 2, none⟩ = some (.int .u8 a.guard.var) ∧ w'.cell? ⟨g, t * 7 + 3, none⟩ = some (.int .u8 a.guard.sign) ∧ w'.cell? ⟨g, t * 7 + 4, none⟩ = some (.int .i64 a.guard.digit) ∧ w'.cell? ⟨g, t * 7 + 5, none⟩ = some ac ∧ w'.cell? ⟨g, t * 7 + 6, none⟩ = some (.int .u8 a.target)) (first | exact ⟨cp, c3, c0, c1, c2, c33, c4, c5, c6⟩ | exact HS.out) ((go_at_call 222; refine cMo E1 ?_; rintro x w3 ⟨rfl, K3⟩; have H := hid K3; have HS := hid (And.intro (K3.cell0 cp) (And.intro (K3.cell0 c3) (And.intro (K3.cell0 c0) (And.intro (K3.cell0 c1) (And.intro (K3.cell0 c2) (And.intro (K3.cell0 c33) (And.intro (K3.cell0 c4) (And.intro (K3.cell0 c5) (K3.cell0 c6))))))))); clear E1 K3))
  all_goals (go_wp2_with fail; go_meet; exact ⟨rfl, ((Kp.refl (fun _ => False) w2).drewN 1).trans H.out⟩)
 case rest =>
  obtain ⟨rfl, KC⟩ := hcut; have hmc : MaB wc mb ob po s qv ov := SdB.keep hm2 KC (fun x => x); have hpc : Pl wc ob po ol := hp2.keep KC (fun _ _ _ _ _ x => x); have hrc := KC.at_ hr2 (fun x => x); have hvc : SeB wc (w.heap.size + 1) [] Ch.noSet [] 91 := SeB.ofRow (KC.at_ hv2 (fun x => x)); have KW := K2.trans KC
  have hnr : ∀ cur T, wc.heap[w.heap.size + 1]? = some (.cells cur T (0, 0)) → T = 91 := by
   intro cur T h; rw [SeB.row hvc] at h; simp at h; exact h.2.symm
  clear E1 hm2 hp2 hr2 hv2 K2 KC cp c0 c1 c2 c3 c4 c5 c6 c33 q1 ha; generalize hdm : Ch.dom ol.sts a.state a.target = dm at *; have HD := hid hdm; clear hdm
  go_wp2_with fail
  go_loopw [7] (fun i wr => ∃ (k : Nat) (l : List Bool), i = .int .i64 k ∧ k ≤ ol.sts.length ∧ l.length = 16 ∧ Hid (Ch.leavesF ol.sts s.act dm ol.sts.length 0 Ch.noSet = Ch.leavesF ol.sts s.act dm (ol.sts.length - k) k l) ∧ SeB wr (w.heap.size + 1) [] l [] 91 ∧ Kp (fun k => k = w.heap.size + 1) wc wr) (fun i _ => ol.sts.length - (intOf i).toNat)
  case atStart => exact ⟨0, Ch.noSet, rfl, Nat.zero_le _, rfl, hid rfl, hvc, Kp.refl _ _⟩
  case round =>
   obtain ⟨k, l, rfl, hk, h16, HE, h1, K1⟩ := hrel; have hmr : MaB wr mb ob po s qv ov := SdB.keep hmc K1 (fun x => by omega); have hpr : Pl wr ob po ol := hpc.keep K1 (fun i cur T hi hT x => by subst x; have := hnr _ _ hi; subst this; revert hT; unfold plT oT; decide); have hrr := K1.at_ hrc (fun x => by omega); have KX : Kp (fun _ => False) w wr := KW.trans' K1 (fun i hi x => by omega); have cp := hmr.plan; obtain ⟨ao, cap, c2⟩ := hpr.str.len
   by_cases hlt : k < ol.sts.length
   ·have hlt' : (k : Int) < (ol.sts.length : Int) := by omega
    have ef : ol.sts.length - k = (ol.sts.length - (k + 1)) + 1 := by omega
    have E1 := hid (has_any wr mb 1 [.pointer (some ⟨ob, po, none⟩)] s.act (sdTail s ++ [qv, ov]) 149 k hmr hw.1 rfl); have E2 := hid (isAbove_any ob po wr ol.sts dm k hol.up hpr.str (by omega)); have E3 := hid (put_any wr (w.heap.size + 1) 0 [] l [] 91 k h1 h16 rfl); have HK := hid (And.intro K1 h1)
    cases q1 : Ch.has s.act (k : Int) with
    | false =>
      rw [q1] at E1; have HF := hid (HE.out.trans (show _ = Ch.leavesF ol.sts s.act dm (ol.sts.length - (k + 1)) (k + 1) l by rw [ef]; simp only [Ch.leavesF]; rw [q1]; rfl)); clear HE ef K1 KX h1 hmr hpr hrr
      go_wp2_with fail
      refine cMo E1 ?_; rintro x w1 ⟨rfl, rfl⟩
      go_wp2_with fail
      go_roundw
      case rel => exact ⟨k + 1, l, by go_num, by omega, h16, HF, HK.out.2, HK.out.1⟩
      case measure => simp [intOf]; omega
    | true => ?_
    rw [q1] at E1
    cases q2 : Ch.isAbove ol.sts dm (k : Int) with
    | false =>
      rw [q2] at E2; have HF := hid (HE.out.trans (show _ = Ch.leavesF ol.sts s.act dm (ol.sts.length - (k + 1)) (k + 1) l by rw [ef]; simp only [Ch.leavesF]; rw [q1, q2]; rfl)); clear HE ef K1 KX h1 hmr hpr hrr
      go_wp2_with fail
      refine cMo E1 ?_; rintro x w1 ⟨rfl, rfl⟩
      go_wp2_with fail
      refine cMo E2 ?_; rintro x w1 ⟨rfl, rfl⟩
      go_wp2_with fail
      go_roundw
      case rel => exact ⟨k + 1, l, by go_num, by omega, h16, HF, HK.out.2, HK.out.1⟩
      case measure => simp [intOf]; omega
    | true => ?_
    rw [q2] at E2; have HF := hid (HE.out.trans (show _ = Ch.leavesF ol.sts s.act dm (ol.sts.length - (k + 1)) (k + 1) (Ch.putB l (k : Int) true) by rw [ef]; simp only [Ch.leavesF]; rw [q1, q2]; rfl)); clear HE ef K1 KX h1 hmr hpr hrr
    go_wp2_with fail
    refine cMo E1 ?_; rintro x w1 ⟨rfl, rfl⟩
    go_wp2_with fail
    refine cMo E2 ?_; rintro x w1 ⟨rfl, rfl⟩
    go_wp2_with fail
    refine cMo E3 ?_; rintro x w3 ⟨rfl, h3, K3⟩; have K4 := HK.out.1.trans K3; clear E1 E2 E3 HK K3
    go_wp2_with fail
    go_roundw
    case rel => exact ⟨k + 1, _, by go_num, by omega, by rw [Ch.putB_len]; exact h16, HF, h3, K4⟩
    case measure => simp [intOf]; omega
   have hge : ¬ (k : Int) < (ol.sts.length : Int) := by omega
   have HF := hid (HE.out.trans (show _ = l by rw [show ol.sts.length - k = 0 by omega]; rfl)); have hrow := h1.row; have hszI := setA_info h16; have hsz := setA_size h16; have hone := setA_one l; have KZ : Kp (fun _ => False) w (wr.setRow w.heap.size (setA l)) := KX.setRow (fun x => by omega) _; clear HE h1 K1 KX hmr hpr; generalize hL : setA l = L at *; have HL := hid hL; clear hL
   go_wp2_with (first | refine wpList_load_row rfl 91 (.tmp 5) rfl (w.heap.size + 1) rfl 91 L (0, 0) ds hrow hds (by cases ds <;> first | rfl | exact absurd hda (by simp [isAggD])) hszI ?_ | refine wpList_store_row rfl 91 (.tmp 4) (.tmp 65) rfl w.heap.size L rfl rfl 91 zB16 hrr hszI hsz.symm hone ?_)
   refine bodyPost_ret (results_cell_row rfl _ _ w.heap.size 91 L (0, 0) ds rfl (setRow_heap _ _ _ _ _ _ hrr) hds (by cases ds <;> first | rfl | exact absurd hda (by simp [isAggD])) hszI) rfl ?_; rw [HD.out, HF.out, HL.out]; exact ⟨rfl, KZ⟩
end
end Go.Proofs.YtnlbchmfcebeeaaGreat
