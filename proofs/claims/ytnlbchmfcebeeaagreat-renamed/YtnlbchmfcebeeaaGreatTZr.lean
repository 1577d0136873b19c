import Derived.Test.YtnlbchmfcebeeaaGreatTF2
import Derived.Test.YtnlbchmfcebeeaaGreatTB1
import Derived.Test.YtnlbchmfcebeeaaGreatRows
import Derived.WalkKit
import Derived.ProofKit
import Derived.OpenShut
import Derived.ShutString
import Derived.ChangeOld
import Derived.Below
import Derived.Deep.Slices
import Derived.Test.YtnlbchmfcebeeaaGreatTZl
import Derived.Test.YtnlbchmfcebeeaaGreatTXe
import Derived.Test.YtnlbchmfcebeeaaGreatTZb
import Derived.Test.YtnlbchmfcebeeaaGreatTH1
import Derived.Test.YtnlbchmfcebeeaaGreatTF3
import Derived.Lib.ConvBytes
import Derived.Test.YtnlbchmfcebeeaaGreatTXq
set_option maxHeartbeats 12800000
set_option maxRecDepth 100000
namespace Go.Proofs.YtnlbchmfcebeeaaGreat
open Go.RowKit
structure OpV where
 kind : Int
 t : ByteArray
 e : ByteArray
 s : Ch.As
 n : Int
 at_ : Int
 rk : Int
 re : ByteArray
 ra : Int
def opL (o : OpV) : List Value:=[.int .i64 o.kind,.string o.t,.string o.e,.string o.s.act,.string o.s.past,.string o.s.tm,.int .i64 o.s.x,.int .i64 o.s.y,.int .i64 o.s.z,.int .i64 o.n,.int .i64 o.at_,.int .i64 o.rk,.string o.re,.int .i64 o.ra]
def ScR (w : World) (v : Value) (ops : List OpV) : Prop:=((∃ ao cap,v = .slice ao 0 cap) ∧ ops = []) ∨
 ∃ g off cap,v = .slice (some ⟨g,off,none⟩) ops.length cap ∧ ∀ (i : Nat) (o : OpV),ops[i]? = some o → ∀ (j : Nat) (u : Value),(opL o)[j]? = some u → w.cell? ⟨g,off + i * 14 + j,none⟩ = some u
theorem ScR.len {w : World} {v : Value} {ops : List OpV} (h : ScR w v ops) : ∃ ao cap,v = .slice ao ops.length cap:=by
 rcases h with ⟨⟨ao,cap,rfl⟩,rfl⟩ | ⟨g,off,cap,rfl,_⟩
 ·exact ⟨_,_,rfl⟩
 exact ⟨_,_,rfl⟩
theorem ScR.at_ {w : World} {v : Value} {ops : List OpV} (h : ScR w v ops) {i : Nat} {o : OpV} (ho : ops[i]? = some o) : ∃ g off cap,v = .slice (some ⟨g,off,none⟩) ops.length cap ∧ ∀ (j : Nat) (u : Value),(opL o)[j]? = some u → w.cell? ⟨g,off + i * 14 + j,none⟩ = some u:=by
 rcases h with ⟨_,rfl⟩ | ⟨g,off,cap,hv,hc⟩
 ·simp at ho
 exact ⟨g,off,cap,hv,hc i o ho⟩
def KB (B : Nat) (w w' : World) : Prop:=Kp (fun i=>B ≤ i) w w'
theorem ScR.keep {w w' : World} {v : Value} {ops : List OpV} (h : ScR w v ops) (k : KB w.heap.size w w') : ScR w' v ops:=by
 rcases h with h | ⟨g,off,cap,hv,hc⟩
 ·exact .inl h
 refine .inr ⟨g,off,cap,hv,fun i o ho j u hu=>?_⟩;have h1:=hc i o ho j u hu;have hb : g < w.heap.size:=World.block_lt_of_cell? w ⟨g,off + i * 14 + j,none⟩ h1;rw [← h1];exact World.cell?_of_block (k.block g hb (by omega))
open Go.ChangeShapes Go.WideShapes Go.ChangeAt Go.RowKit Go.Deep
section
variable {H : Type} {enc : TypeId × Value → H} {w : World} {base : Nat} {spare : Nat → Bool} {held : Bool}
structure OpV.Sm (o : OpV) : Prop where
 t : o.t.size ≤ maxLen
 e : o.e.size ≤ maxLen
 act : o.s.act.size ≤ maxLen
 past : o.s.past.size ≤ maxLen
 tm : o.s.tm.size ≤ maxLen
end
instance : Inhabited OpV:=⟨⟨0,⟨#[]⟩,⟨#[]⟩,⟨⟨#[]⟩,⟨#[]⟩,⟨#[]⟩,0,0,0⟩,0,0,0,⟨#[]⟩,0⟩⟩
namespace Ch
theorem TL.mono {lo lo' : Int} (h : lo' ≤ lo) : ∀ (n : Nat) {l : List Int},l.length ≤ n → TL lo l → TL lo' l:=by
 intro n
 induction n with
 | zero=>intro l hl _;cases l with | nil=>trivial | cons a l=>simp at hl
 | succ n ih=>?_
 intro l hl hT
 match l,hT with
 | [],_=>trivial
 | a :: b :: l,⟨⟨h1,h2,h3⟩,h4⟩=>exact ⟨⟨h1,by omega,h3⟩,ih (by simp at hl;omega) h4⟩
theorem tmF_tl {t : ByteArray} : ∀ (f k : Nat),tmF t f k = true → t.size ≤ k + f → (t.size - k) % 2 = 0 → TL 49 ((bys t).drop k):=by
 intro f
 induction f with
 | zero=>intro k _ h1 _;rw [List.drop_eq_nil_of_le (by rw [bys_len];omega)];trivial
 | succ f ih=>?_
 intro k h h1 h2
 by_cases c : k + 1 < t.size
 ·rw [bys_drop2 c]
  simp only [tmF,if_pos c] at h
  split at h
  ·rename_i q
   simp at q;refine ⟨⟨q.1.1,by omega,by omega⟩,ih (k + 2) h (by omega) (by omega)⟩
  simp at h
 rw [List.drop_eq_nil_of_le (by rw [bys_len];omega)];trivial
theorem tl_sent {t : ByteArray} (h : areTm t = true) : TL 49 (bys t) ∧ t.size ≤ 16:=by
 unfold areTm at h
 split at h
 ·simp at h
 rename_i c;simp at c;have:=tmF_tl t.size 0 h (by omega) (by omega);exact ⟨by simpa using this,by omega⟩
structure TkF (L : List RN) (ol : Ol) (a : As) (sd : Sd) (on : List Bool) : Prop where
 spread : spreadR L a.act = some on
 same : SameOn L.length on sd.act
 past : bys a.past = pastR ol.sts sd
 tm : sd.tm = a.tm
 x : sd.x = a.x
 y : sd.y = a.y
 z : sd.z = a.z
 tl : TmL 48 sd
end Ch
theorem bytes_kp (w : World) (e : TypeId) (s : ByteArray) : Kp (fun _=>False) w (Lib.bytesWorld w e s):=⟨rfl,rfl,rfl,by rw [Lib.bytesWorld_size];omega,fun k hk _=>Lib.bytesWorld_at_old w e s k hk⟩
namespace Ch
theorem lgS_take {t : ByteArray} {a : As} (h : lgE t a = 0) : lgS t a = (takeA (read t).2.2.sts a).2 ∧ (takeA (read t).2.2.sts a).1 = true:=by
 unfold lgE at h;unfold lgS
 split at h
 ·rename_i c;simp at c;exact absurd h c
 rename_i c;rw [if_neg c]
 split at h
 ·rename_i c2;rw [if_pos c2];exact ⟨rfl,c2⟩
 simp at h
theorem place_nm {ss : List St} {c : Int} (h : place ss c ≠ -2) : ∃ g : Nat,place ss c = g ∧ g < ss.length ∧ nmAt ss g = c:=by
 rcases placeF_spec c ss 0 with ⟨e,_⟩ | ⟨i,s,h1,h2,h3,_⟩
 ·exact absurd e h
 refine ⟨i,by unfold place;rw [h3];simp,(List.getElem?_eq_some_iff.1 h1).1,?_⟩;unfold nmAt;rw [h1];exact h2
theorem bys_byte (t : ByteArray) : ∀ x ∈ bys t,0 ≤ x ∧ x < 256:=fun x hx=>by
 unfold bys at hx;obtain ⟨b,_,rfl⟩:=List.mem_map.1 hx;have:=b.toNat_lt;omega
/-! A tick. -/
def decL : List Int → List Int
 | a :: b :: l=>a :: (b - 1) :: decL l
 | _=>[]
theorem tkF2_dec {t : ByteArray} : ∀ (f k : Nat) (acc : List Int),t.size ≤ k + 2 * f → (t.size - k) % 2 = 0 → tkF2 t f k acc = acc ++ decL ((bys t).drop k):=by
 intro f
 induction f with
 | zero=>intro k acc h _;rw [List.drop_eq_nil_of_le (by rw [bys_len];omega)];simp [tkF2,decL]
 | succ f ih=>?_
 intro k acc h h2
 by_cases c : k + 1 < t.size
 ·rw [bys_drop2 c]
  simp only [tkF2,if_pos c,decL];rw [ih (k + 2) _ (by omega) (by omega)];simp
 rw [List.drop_eq_nil_of_le (by rw [bys_len];omega)];simp only [tkF2,if_neg c,decL,List.append_nil]
theorem decL_tl : ∀ (n : Nat) {l : List Int},l.length ≤ n → TL 49 l → TL 48 (decL l) ∧ (decL l).length = l.length ∧ ∀ x ∈ decL l,0 ≤ x ∧ x < 256:=by
 intro n
 induction n with
 | zero=>intro l hl _;cases l with | nil=>exact ⟨trivial,rfl,by simp [decL]⟩ | cons a l=>simp at hl
 | succ n ih=>?_
 intro l hl hT
 match l,hT with
 | [],_=>exact ⟨trivial,rfl,by simp [decL]⟩
 | a :: b :: l,⟨⟨h1,h2,h3⟩,h4⟩ =>
   obtain ⟨g1,g2,g3⟩:=ih (by simp at hl;omega) h4;have h1':=h1;unfold isEv at h1;simp at h1;refine ⟨⟨⟨h1',by omega,by omega⟩,g1⟩,by simp [decL,g2],fun x hx=>?_⟩;simp only [decL,List.mem_cons] at hx
   rcases hx with rfl | rfl | hx
   ·omega
   ·omega
   exact g3 x hx
theorem tick_bys {s : Sd} (h : TmL 49 s) : bys (tick s).tm = decL (bys s.tm):=by
 have he : s.tm.size % 2 = 0:=by rw [← bys_len];exact TL.even _ (Nat.le_refl _) h.1
 show bys (strOfNums (tkF2 s.tm s.tm.size 0 [])) = _;rw [tkF2_dec _ _ _ (by omega) (by omega)];simp only [List.nil_append,List.drop_zero];exact bys_str (decL_tl _ (Nat.le_refl _) h.1).2.2
theorem tick_tl {s : Sd} (h : TmL 49 s) : TmL 48 (tick s):=by
 have hb:=tick_bys h;have hd:=decL_tl _ (Nat.le_refl _) h.1;refine ⟨by rw [hb];exact hd.1,?_⟩;rw [← bys_len,hb,hd.2.1,bys_len];exact h.2
theorem dcL_le : ∀ (n : Nat) {l : List Int},l.length ≤ n → dcL l ≤ l.length:=by
 intro n
 induction n with
 | zero=>intro l hl;cases l with | nil=>simp [dcL] | cons a l=>simp at hl
 | succ n ih=>?_
 intro l hl
 match l with
 | []=>simp [dcL]
 | [a]=>simp [dcL]
 | a :: b :: l =>
   have:=ih (l:=l) (by simp at hl;omega);simp only [dcL,List.length_cons]
   split <;> omega
theorem tm_tmp {s : Sd} (h : TmL 48 s) : TmP 16 s:=by
 refine ⟨by rw [← bys_len];exact TL.even _ (Nat.le_refl _) h.1,?_⟩;have:=dcL_le _ (Nat.le_refl (bys s.tm).length);rw [bys_len] at this;have:=h.2;omega
theorem read_aca {t : ByteArray} (h0 : (read t).1 = 0) : AcA (read t).2.2:=by
 obtain ⟨_,e,hq,_⟩:=read_ols h0;obtain ⟨L,_,hN⟩:=sim_chart hq;rw [e];exact aca_of hN (chart_t0 t)
theorem lgS_tl {t : ByteArray} {a : As} (h : lgE t a = 0) : TmL 49 (lgS t a):=by
 obtain ⟨e,h1⟩:=lgS_take h;rw [e];exact tl_sent (take_tm h1)
theorem lgE_read {t : ByteArray} {a : As} (h : lgE t a = 0) : (read t).1 = 0:=by
 unfold lgE at h
 split at h
 ·exact h
 rename_i c;simpa using c
theorem wait17 {t : ByteArray} {a : As} (h : lgE t a = 0) : (waitF (read t).2.2 17 (tick (lgS t a)) []).isSome = true :=
 waitF_some (read_aca (lgE_read h)) 16 [] (tm_tmp (tick_tl (lgS_tl h)))
structure WtR (ol : Ol) (a : As) (s : Sd) : Prop where
 out : a = asOf ol.sts s
 inv : Inv ol s
 ok : s.Ok
 tl : TmL 48 s
theorem past_byte {ol : Ol} (hB : NmB ol) {s : Sd} (hI : Inv ol s) : ∀ x ∈ pastR ol.sts s,0 ≤ x ∧ x < 256:=by
 intro x hx;obtain ⟨k,hk,rfl⟩:=List.mem_map.1 hx;obtain ⟨h1,hh⟩:=List.mem_filter.1 hk;have:=hI.past k (by simpa using h1) hh;unfold isPast at this
 split at this
 ·rename_i c;have : pastAt s k = 45:=by simpa using c
  omega
 unfold isChild at this
 cases q : stAt ol.sts (place ol.sts (pastAt s k)) with
 | none=>rw [q] at this;cases this
 | some y=>?_
 obtain ⟨i,e,_,_⟩:=stAt_some q;obtain ⟨g,_,_,hn⟩:=place_nm (ss:=ol.sts) (c:=pastAt s k) (by omega);rw [← hn];exact hB g
def cutT (t : ByteArray) (k : Nat) : ByteArray:=t.extract 0 k ++ t.extract (k + 2) t.size
theorem WtR.due {ol : Ol} {a : As} {s : Sd} (h : WtR ol a s) {k : Nat} (hk : k % 2 = 0) (hl : k + 1 < s.tm.size) : WtR ol { a with tm:=cutT s.tm k } { s with tm:=cutT s.tm k }:=by
 have hb : bys (cutT s.tm k) = (bys s.tm).take (2 * (k / 2)) ++ (bys s.tm).drop (2 * (k / 2 + 1)):=by
  unfold cutT;rw [bys_append,bys_ext,bys_ext,List.drop_zero,show k - 0 = 2 * (k / 2) by omega,show k + 2 = 2 * (k / 2 + 1) by omega]
  congr 1
  rw [List.take_of_length_le];rw [List.length_drop,bys_len];omega
 have hsz : (cutT s.tm k).size ≤ 16:=by
  unfold cutT;rw [ByteArray.size_append,ByteArray.size_extract,ByteArray.size_extract];have:=h.tl.2;omega
 refine ⟨by rw [h.out];rfl,h.inv.same ⟨rfl,rfl⟩,⟨h.ok.1,h.ok.2.1,by show (cutT s.tm k).size ≤ 17;omega⟩,⟨?_,hsz⟩⟩;show TL 48 (bys (cutT s.tm k));rw [hb];exact TL.append _ (Nat.le_refl _) (TL.take2 _ h.tl.1) (TL.drop2 _ h.tl.1)
def NoDue (t : ByteArray) (k : Nat) : Prop:=∃ f,dueF t t.size 0 = dueF t f k ∧ t.size ≤ k + 2 * f
theorem NoDue.hit {t : ByteArray} {k : Nat} (h : NoDue t k) (hk : k + 1 < t.size) (hd : (peek t (k + 1) != 48) = false) : dueF t t.size 0 = some k:=by
 obtain ⟨f,h1,h2⟩:=h
 match f,h1,h2 with
 | 0,_,h2=>omega
 | f + 1,h1,h2 =>
   have hd' : (peek t (k + 1) == 48) = true:=by simpa using hd
   simp only [dueF,if_pos hk,hd',if_true] at h1;exact h1
end Ch
theorem Ch.WtR.sm {ol : Ch.Ol} (hO : Ch.OlS ol) {a : Ch.As} {s : Ch.Sd} (h : Ch.WtR ol a s) : a.Sm:=by
 rw [h.out];have h16:=hO.le;refine ⟨?_,?_,?_⟩
 ·show (strOfNums _).size ≤ _
  rw [strOfNums_size];have:=Ch.actK_len ol.sts s (min ol.sts.length 16);omega
 ·show (strOfNums _).size ≤ _
  rw [strOfNums_size];have:=Ch.pstK_len ol.sts s (min ol.sts.length 16);omega
 show s.tm.size ≤ _;have:=h.tl.2;omega
end Go.Proofs.YtnlbchmfcebeeaaGreat
