import Derived.Test.YtnlbchmfcebeeaaGreatTF3
import Derived.Test.YtnlbchmfcebeeaaGreatTZr
import Derived.Test.YtnlbchmfcebeeaaGreatTXq
set_option maxHeartbeats 12800000
set_option maxRecDepth 100000
namespace Go.Proofs.YtnlbchmfcebeeaaGreat
open Go.RowKit
namespace Ch
def goes (n : Nat) (t : ByteArray) (a : As) (b : Int) : As × ByteArray × Int:=if isEv b then cFire t a (strOfNums [b]) else cWait n t a
end Ch
theorem asInfo (a : Ch.As) : (Tryz.prog.info? 26).map (·.size) = some (asA a).size:=Tryz.sizeAs
section
variable (w : World)
theorem same_any (a : Ch.As) :
 Calls Tryz.prog 21 #[.agg (asA a),.agg (asA a)] w fun x w'=>x = .returned (.bool true) ∧ Kp (fun _=>False) w w':=by
 have K1 : Kp (fun _=>False) w ((w.alloc (.cells (asA a) 26)).alloc (.cells (asA a) 26)):=((Kp.refl _ _).alloc _).alloc _;unfold asA at *
 go_enter Tryz.func21,Tryz.ntmps21
 go_wp2;go_ret;exact ⟨rfl,K1⟩
theorem goes_any (n : Nat) (hn : n ≤ 1000) (t : ByteArray) (a : Ch.As) (b : Int) (ha : a.Sm) (hw : Ch.isEv b = false → Ch.lgE t a = 0 → (Ch.waitF (Ch.read t).2.2 n (Ch.tick (Ch.lgS t a)) []).isSome = true) :
 Calls Tryz.prog 30 #[.string t,.agg (asA a),.int .u8 b] w fun x w'=>x = .returned (.tuple #[.agg (asA (Ch.goes n t a b).1),.string (Ch.goes n t a b).2.1,.int .i64 (Ch.goes n t a b).2.2]) ∧ Kp (fun _=>False) w w':=by
 obtain ⟨da,hdA,hdAa⟩:=Tryz.undAs
 have hb1 : ((w.alloc (.cells (asA a) 26)).alloc (.cells y6S 26)).heap[w.heap.size]? = some (.cells (asA a) 26):=by
  rw [Below.heap_alloc _ _ _ (by simp)];exact heap_alloc_new _ _
 have hr1 : ((w.alloc (.cells (asA a) 26)).alloc (.cells y6S 26)).heap[w.heap.size + 1]? = some (.cells y6S 26):=heap_alloc2_new w _ _;have K1 : Kp (fun _=>False) w ((w.alloc (.cells (asA a) 26)).alloc (.cells y6S 26)):=((Kp.refl _ _).alloc _).alloc _;have aI:=asInfo a;have EW:=hid (fun W h=>cWait_any W n hn t a ha h);have EF:=hid (fun W ev=>cFire_any W t a ev ha);generalize hAA : asA a = AA at hb1 hr1 K1 aI EW EF ⊢;clear hAA
 by_cases q : Ch.isEv b = true
 ·rw [show Ch.goes n t a b = Ch.cFire t a (strOfNums [b]) by unfold Ch.goes;rw [if_pos q]]
  have q':=q;simp only [Ch.isEv,Bool.and_eq_true,decide_eq_true_eq] at q';obtain ⟨q1,q2⟩:=q'
  have E1:=fun W=>hid (EF.out W (strOfNums [b]))
  clear EW EF hw;generalize hgf : Ch.cFire t a (strOfNums [b]) = r at *;clear hgf;obtain ⟨ra,ro,re⟩:=r;have rO:=asOne ra;have rI:=asInfo ra;have rS : (asA ra).size = 6:=rfl;simp only at E1 ⊢;generalize asA ra = RA at *
  go_enter Tryz.func30,Tryz.ntmps30
  go_upto_region 2 with (fail)
  generalize (w.alloc (.cells AA 26)).alloc (.cells y6S 26) = w1 at *
  have oq : OwnsQ (w1.alloc (.cells #[.int .u8 b] 5)) 0 (.slice (some ⟨w1.heap.size,0,none⟩) 1 1) (byCells [b]) :=
   .inr ⟨w1.heap.size,0,1,#[.int .u8 b],rfl,Nat.zero_le _,heap_alloc_new _ _,by simp [byCells],by simp,by intro j u hj;simpa [byCells] using hj⟩
  have hcv:=run_textQ oq;have hr2 : (w1.alloc (.cells #[.int .u8 b] 5)).heap[w.heap.size + 1]? = some (.cells y6S 26):=(Below.heap_alloc _ _ _ (lt_of_block hr1)).trans hr1;have K2:=K1.alloc (.cells #[.int .u8 b] 5);clear oq hr1 K1
  go_wp2_with (refine wpList_load_row rfl 26 (.tmp 4) rfl w.heap.size rfl 26 AA (0,0) da hb1 hdA (by cases da <;> first | rfl | exact absurd hdAa (by simp [isAggD])) aI ?_)
  refine Calls.mono (Hid.out (E1 _)) ?_;rintro x w3 ⟨rfl,K3⟩;have hr3:=K3.at_ hr2 (fun x=>x);have KF : Kp (fun _=>False) w (w3.setRow (w.heap.size + 1) RA):=(K2.trans K3).setRow (fun x=>by omega) _;clear K2 K3 hr2 E1 hcv hb1
  go_wp2_with (refine wpList_store_row rfl 26 (.tmp 6) (.tmp 21) rfl (w.heap.size + 1) RA rfl rfl 26 y6S hr3 rI (by rw [rS];rfl) rO ?_)
  refine bodyPost_ret (results_cell_tmp2 rfl _ _ (w.heap.size + 1) 26 RA (0,0) da rfl (setRow_heap _ _ _ _ _ _ hr3) hdA hdAa rI) rfl ?_;exact ⟨rfl,KF⟩
 rw [show Ch.goes n t a b = Ch.cWait n t a by unfold Ch.goes;rw [if_neg q]]
 have E1:=fun W=>hid (EW.out W (hw (by simpa using q)))
 have key : ∀ (Q : Prop),(97 ≤ b → ¬ b ≤ 122 → Q) → (¬ 97 ≤ b → Q) → Q:=by
  intro Q h1 h2
  by_cases h : 97 ≤ b
  ·exact h1 h (fun h'=>q (by simp [Ch.isEv,h,h']))
  exact h2 h
 clear hw EW EF;generalize hgw : Ch.cWait n t a = r at *;clear hgw;obtain ⟨ra,ro,re⟩:=r;have rO:=asOne ra;have rI:=asInfo ra;have rS : (asA ra).size = 6:=rfl;simp only at E1 ⊢;generalize asA ra = RA at *;refine key _ (fun h1 h2=>?_) (fun h1=>?_)
 ·clear key q
  go_enter Tryz.func30,Tryz.ntmps30
  go_upto_region 3 with (fail)
  generalize (w.alloc (.cells AA 26)).alloc (.cells y6S 26) = w1 at *
  go_wp2_with (refine wpList_load_row rfl 26 (.tmp 4) rfl w.heap.size rfl 26 AA (0,0) da hb1 hdA (by cases da <;> first | rfl | exact absurd hdAa (by simp [isAggD])) aI ?_)
  refine Calls.mono (Hid.out (E1 w1)) ?_;rintro x w3 ⟨rfl,K3⟩;have hr3:=K3.at_ hr1 (fun x=>x);have KF : Kp (fun _=>False) w (w3.setRow (w.heap.size + 1) RA):=(K1.trans K3).setRow (fun x=>by omega) _;clear K1 K3 hr1 E1 hb1
  go_wp2_with (refine wpList_store_row rfl 26 (.tmp 6) (.tmp 27) rfl (w.heap.size + 1) RA rfl rfl 26 y6S hr3 rI (by rw [rS];rfl) rO ?_)
  refine bodyPost_ret (results_cell_tmp2 rfl _ _ (w.heap.size + 1) 26 RA (0,0) da rfl (setRow_heap _ _ _ _ _ _ hr3) hdA hdAa rI) rfl ?_;exact ⟨rfl,KF⟩
 clear key q
 go_enter Tryz.func30,Tryz.ntmps30
 go_upto_region 3 with (fail)
 generalize (w.alloc (.cells AA 26)).alloc (.cells y6S 26) = w1 at *
 go_wp2_with (refine wpList_load_row rfl 26 (.tmp 4) rfl w.heap.size rfl 26 AA (0,0) da hb1 hdA (by cases da <;> first | rfl | exact absurd hdAa (by simp [isAggD])) aI ?_)
 refine Calls.mono (Hid.out (E1 w1)) ?_;rintro x w3 ⟨rfl,K3⟩;have hr3:=K3.at_ hr1 (fun x=>x);have KF : Kp (fun _=>False) w (w3.setRow (w.heap.size + 1) RA):=(K1.trans K3).setRow (fun x=>by omega) _;clear K1 K3 hr1 E1 hb1
 go_wp2_with (refine wpList_store_row rfl 26 (.tmp 6) (.tmp 27) rfl (w.heap.size + 1) RA rfl rfl 26 y6S hr3 rI (by rw [rS];rfl) rO ?_)
 refine bodyPost_ret (results_cell_tmp2 rfl _ _ (w.heap.size + 1) 26 RA (0,0) da rfl (setRow_heap _ _ _ _ _ _ hr3) hdA hdAa rI) rfl ?_;exact ⟨rfl,KF⟩
end
namespace Ch
def beqB (a b : ByteArray) : Bool:=a.data.toList == b.data.toList
def beqAs (a b : As) : Bool:=beqB a.act b.act && beqB a.past b.past && beqB a.tm b.tm && (a.x == b.x) && (a.y == b.y) && (a.z == b.z)
theorem beqB_eq {a b : ByteArray} (h : beqB a b = true) : a = b:=by
 unfold beqB at h
 have h2 : a.data.toList = b.data.toList:=by simpa using h
 obtain ⟨x⟩:=a;obtain ⟨y⟩:=b;simp only [ByteArray.mk.injEq];exact Array.ext' h2
theorem beqAs_eq {a b : As} (h : beqAs a b = true) : a = b:=by
 unfold beqAs at h;simp only [Bool.and_eq_true,beq_iff_eq] at h;obtain ⟨⟨⟨⟨⟨h1,h2⟩,h3⟩,h4⟩,h5⟩,h6⟩:=h;obtain ⟨a1,a2,a3,a4,a5,a6⟩:=a;obtain ⟨b1,b2,b3,b4,b5,b6⟩:=b;simp only at *;rw [beqB_eq h1,beqB_eq h2,beqB_eq h3,h4,h5,h6]
def okR (r : As × ByteArray × Int) (want : As) (out : ByteArray) : Bool:=beqAs r.1 want && beqB r.2.1 out && (r.2.2 == 0)
theorem okR_eq {r : As × ByteArray × Int} {want : As} {out : ByteArray} (h : okR r want out = true) : r = (want,out,0):=by
 unfold okR at h;simp only [Bool.and_eq_true,beq_iff_eq] at h;obtain ⟨⟨h1,h2⟩,h3⟩:=h;obtain ⟨a,b,c⟩:=r;simp only at *;rw [beqAs_eq h1,beqB_eq h2,h3]
theorem lg_of {t : ByteArray} {ol : Ol} (hr : read t = (0,0,ol)) {a : As} (ht : (takeA ol.sts a).1 = true) : lgE t a = 0 ∧ lgS t a = (takeA ol.sts a).2:=by
 unfold lgE lgS;rw [hr];simp [ht]
theorem peek_one (b : Int) (h1 : 0 ≤ b) (h2 : b < 256) : peek (strOfNums [b]) 0 = b:=by
 have hs : (strOfNums [b]).size = 1:=strOfNums_size [b];unfold peek;rw [dif_pos (by omega)];have e : (strOfNums [b])[0]'(by omega) = UInt8.ofNat b.toNat:=rfl;rw [e];simp;omega
structure Good (ol : Ol) (s : Sd) : Prop where
 inv : Inv ol s
 pz : PastZ ol.sts s
 tl : TmL 49 s
 ok : s.Ok
 stb : Stb ol s
structure RdC (t : ByteArray) (ol : Ol) : Prop where
 rd : read t = (0,0,ol)
 ols : OlS ol
 aca : AcA ol
 nmb : NmB ol
theorem rdC_of {t : ByteArray} {ol : Ol} (h : read t = (0,0,ol)) (hB : NmB ol) : RdC t ol:=by
 have h0 : (read t).1 = 0:=by rw [h]
 have e : (read t).2.2 = ol:=by rw [h]
 exact ⟨h,by rw [← e];exact (read_ols h0).1,by rw [← e];exact read_aca h0,hB⟩
section
variable {t : ByteArray} {ol : Ol} (hR : RdC t ol)
include hR
theorem Good.take {s : Sd} (g : Good ol s) : takeA ol.sts (asOf ol.sts s) = (true,s) :=
 take_out (L:=ol.sts.map fun x=>⟨x.name,x.kind,x.parent,x.pos,[],[],[]⟩) (by rw [List.map_map];exact List.map_id _) hR.ols (fun k _=>hR.nmb k) g.inv g.pz g.tl g.ok.2.1.1 g.ok.2.1.2.1 g.ok.2.1.2.2
theorem Good.lg {s : Sd} (g : Good ol s) : lgE t (asOf ol.sts s) = 0 ∧ lgS t (asOf ol.sts s) = s:=by
 have h:=g.take hR;have:=lg_of hR.rd (a:=asOf ol.sts s) (by rw [h]);exact ⟨this.1,by rw [this.2,h]⟩
theorem finish_good {n : Nat} {m : Ma} (h : (finish ol n m).2.2 = 0) (hi : Inv ol m.s) (hp : PastZ ol.sts m.s ∧ m.s.past.length = 16) (ht : TmL 49 m.s) (ho : m.s.Ok) : Good ol (finish ol n m).1:=by
 have hs:=finish_stb h;have hk:=finish_ok ho n (ol:=ol)
 have e : (finish ol n m).1 = (rounds ol n m).s:=by
  unfold finish at h ⊢
  cases q : busy ol (rounds ol n m) with
  | true=>rw [q] at h;simp at h
  | false=>simp only [Bool.false_eq_true,if_false]
 refine ⟨?_,?_,?_,hk,hs⟩
 ·rw [e];exact rounds_inv hR.ols n hi
 ·rw [e];exact ((keeps_pz hR.ols.le).rounds hR.aca n hp).1
 rw [e];exact (keeps_tl (by omega) ol).rounds hR.aca n ht
theorem start_good (h : (mstart ol).2.2 = 0) : Good ol (mstart ol).1:=by
 unfold mstart at h ⊢;refine finish_good hR h (start_ref hR.ols).2 ?_ ?_ (enter_ok (blankSd_ok _) _)
 ·refine (keeps_pz hR.ols.le).enterF hR.aca _ _ _ _ (m:=⟨blankSd ol.sts,[],[]⟩) ⟨fun k hk=>?_,blankP_len _⟩
  show (blankP ol.sts).getD k 0 = 0;unfold blankP blankK
  by_cases q : k < 16
  ·simp [q,hk]
  simp [q]
 exact (keeps_tl (by omega) ol).enterF hR.aca _ _ _ _ (m:=⟨blankSd ol.sts,[],[]⟩) ⟨trivial,Nat.zero_le _⟩
theorem fire_good {s : Sd} (g : Good ol s) {ev : Int} (h : (mfire ol s ev).2.2 = 0) : Good ol (mfire ol s ev).1:=by
 unfold mfire at h ⊢;refine finish_good hR h (micro_inv hR.ols (m:=⟨s,[],[]⟩) g.inv ev) ((keeps_pz hR.ols.le).micro hR.aca (m:=⟨s,[],[]⟩) ⟨g.pz,g.ok.1.2⟩ _) ((keeps_tl (by omega) ol).micro hR.aca (m:=⟨s,[],[]⟩) g.tl _) (micro_ok (m:=⟨s,[],[]⟩) g.ok _)
end
theorem finish_err {ol : Ol} {n : Nat} {m : Ma} : (finish ol n m).2.2 = 0 ∨ (finish ol n m).2.2 = 9:=by
 unfold finish;split
 ·exact Or.inr rfl
 exact Or.inl rfl
theorem mstart_err (ol : Ol) : (mstart ol).2.2 = 0 ∨ (mstart ol).2.2 = 9:=finish_err
theorem mfire_err (ol : Ol) (s : Sd) (ev : Int) : (mfire ol s ev).2.2 = 0 ∨ (mfire ol s ev).2.2 = 9:=finish_err
theorem due_none {t : ByteArray} : ∀ (f k : Nat),dueF t f k = none → t.size ≤ k + 2 * f → TL 48 ((bys t).drop k) → TL 49 ((bys t).drop k):=by
 intro f
 induction f with
 | zero=>intro k _ h _;rw [List.drop_eq_nil_of_le (by rw [bys_len];omega)];trivial
 | succ f ih=>?_
 intro k h hz ht;simp only [dueF] at h
 split at h
 ·rename_i c
  rw [bys_drop2 c] at ht ⊢
  split at h
  ·cases h
  rename_i q
  have q' : peek t (k + 1) ≠ 48:=by simpa using q
  refine ⟨⟨ht.1.1,?_,ht.1.2.2⟩,ih (k + 2) h (by omega) ht.2⟩;have:=ht.1.2.1;omega
 rename_i c
 by_cases c2 : k < t.size
 ·have hl:=TL.even _ (Nat.le_refl _) ht
  rw [List.length_drop,bys_len] at hl;omega
 rw [List.drop_eq_nil_of_le (by rw [bys_len];omega)];trivial
structure Mid (ol : Ol) (s : Sd) : Prop where
 inv : Inv ol s
 pz : PastZ ol.sts s
 tl : TmL 48 s
 ok : s.Ok
 stb : Stb ol s
theorem Mid.due {ol : Ol} {s : Sd} (g : Mid ol s) : Mid ol (takeDue s).2.2:=by
 have hok:=takeDue_ok g.ok;have hst:=g.stb.av (takeDue_av s);unfold takeDue at hok hst ⊢
 split
 ·rename_i k hk
  have ha:=dueF_at _ _ _ _ hk
  have hw : WtR ol (asOf ol.sts s) s:=⟨rfl,g.inv,g.ok,g.tl⟩
  rw [hk] at hok hst;have he : k % 2 = 0:=(dueF_even _ _ _ _ hk rfl).1;exact ⟨(hw.due he ha.2).inv,g.pz,(hw.due he ha.2).tl,hok,hst⟩
 exact g
theorem Good.mid {ol : Ol} {s : Sd} (g : Good ol s) : Mid ol (tick s) :=
 ⟨g.inv.same ⟨rfl,rfl⟩,g.pz,tick_tl g.tl,tick_ok g.ok,g.stb.av ⟨rfl,rfl,rfl,rfl⟩⟩
theorem Good.sm {ol : Ol} {s : Sd} (g : Good ol s) : (asOf ol.sts s).Sm:=by
 have h1 : (outAct ol.sts s).size ≤ 16:=by unfold outAct;rw [strOfNums_size];have:=actK_len ol.sts s (min ol.sts.length 16);omega
 have h2 : (outPast ol.sts s).size ≤ 16:=by unfold outPast;rw [strOfNums_size];have:=pstK_len ol.sts s (min ol.sts.length 16);omega
 have h3:=g.tl.2;exact ⟨Nat.le_trans h1 (by decide),Nat.le_trans h2 (by decide),Nat.le_trans h3 (by decide)⟩
section
variable {t : ByteArray} {ol : Ol} (hR : RdC t ol)
include hR
theorem wait_good : ∀ (n : Nat) {s : Sd} {l : List Int} {r : Sd × ByteArray},Mid ol s → waitF ol n s l = some r → Good ol r.1:=by
 intro n
 induction n with
 | zero=>intro s l r _ h;simp [waitF] at h
 | succ n ih=>?_
 intro s l r g h;have gd:=g.due;simp only [waitF] at h
 split at h
 ·split at h
  ·rename_i c
   have c' : (mfire ol (takeDue s).2.2 (takeDue s).1).2.2 = 0:=by simpa using c
   refine ih ?_ h;generalize (takeDue s).2.2 = s2 at *;generalize (takeDue s).1 = ev at *;have hs:=finish_stb (by unfold mfire at c';exact c')
   have e : (mfire ol s2 ev).1 = (rounds ol 29 (micro ol ⟨s2,[],[]⟩ (choose ol s2 ev))).s:=by
    unfold mfire finish at c' ⊢
    cases q : busy ol (rounds ol 29 (micro ol ⟨s2,[],[]⟩ (choose ol s2 ev))) with
    | true=>rw [q] at c';simp at c'
    | false=>simp only [Bool.false_eq_true,if_false]
   refine ⟨?_,?_,?_,mfire_ok gd.ok ev,hs⟩
   ·rw [e];exact rounds_inv hR.ols 29 (micro_inv hR.ols (m:=⟨s2,[],[]⟩) gd.inv ev)
   ·rw [e];exact ((keeps_pz hR.ols.le).rounds hR.aca 29 ((keeps_pz hR.ols.le).micro hR.aca (m:=⟨s2,[],[]⟩) ⟨gd.pz,gd.ok.1.2⟩ _)).1
   rw [e];exact (keeps_tl (by omega) ol).rounds hR.aca 29 ((keeps_tl (by omega) ol).micro hR.aca (m:=⟨s2,[],[]⟩) gd.tl _)
  exact ih gd h
 rename_i c;simp at h;subst h
 have hn : dueF s.tm s.tm.size 0 = none:=by
  unfold takeDue at c
  cases q : dueF s.tm s.tm.size 0 with
  | none=>rfl
  | some k=>rw [q] at c;simp at c
 have e : (takeDue s).2.2 = s:=by unfold takeDue;rw [hn]
 simp only [e];have:=due_none s.tm.size 0 hn (by omega) (by simpa using g.tl.1);exact ⟨g.inv,g.pz,⟨by simpa using this,g.tl.2⟩,g.ok,g.stb⟩
theorem goes_good {s : Sd} (g : Good ol s) {b : Int} (h0 : 0 ≤ b) (h1 : b < 256) : ((∃ s' o,goes 17 t (asOf ol.sts s) b = (asOf ol.sts s',o,0) ∧ Good ol s') ∨ ∃ o,goes 17 t (asOf ol.sts s) b = (as0,o,9)) ∧
 (waitF (read t).2.2 17 (tick (lgS t (asOf ol.sts s))) []).isSome = true:=by
 obtain ⟨e1,e2⟩:=g.lg hR;have hw:=wait17 e1;refine ⟨?_,hw⟩;unfold goes
 split
 ·rename_i q
  unfold cFire;rw [e1,e2,hR.rd,peek_one b h0 h1,q];rw [show decide ((strOfNums [b]).size = 1) = true from by rw [strOfNums_size];rfl];simp only [bne_self_eq_false,Bool.false_eq_true,if_false,Bool.and_self,if_true]
  rcases mfire_err ol s b with e | e
  ·left
   refine ⟨(mfire ol s b).1,(mfire ol s b).2.1,?_,fire_good hR g e⟩;rw [e];rfl
  right
  refine ⟨⟨#[]⟩,?_⟩;rw [e];rfl
 left
 unfold cWait;rw [e1];rw [hR.rd] at hw;rw [e2] at hw ⊢;rw [hR.rd];simp only [bne_self_eq_false,Bool.false_eq_true,if_false];obtain ⟨r,hr⟩:=Option.isSome_iff_exists.1 hw;simp only at hr;rw [hr];exact ⟨r.1,r.2,rfl,wait_good hR 17 g.mid hr⟩
end
end Ch
end Go.Proofs.YtnlbchmfcebeeaaGreat
