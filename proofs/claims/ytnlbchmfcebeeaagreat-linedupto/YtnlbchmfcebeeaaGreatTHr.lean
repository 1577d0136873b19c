import Derived.Test.YtnlbchmfcebeeaaGreatRows
import Derived.ProofKit
import Derived.OpenShut
import Derived.ShutString
import Derived.ChangeOld
import Derived.Below
import Derived.Deep.Slices
import Derived.Test.YtnlbchmfcebeeaaGreatTZl
import Derived.Test.YtnlbchmfcebeeaaGreatTF3
import Derived.Lib.ConvBytes
import Derived.Test.YtnlbchmfcebeeaaGreatTBb
set_option maxHeartbeats 12800000
set_option maxRecDepth 100000
namespace Go.Proofs.YtnlbchmfcebeeaaGreat
open Go.Proofs.Tryz Ch
open Go.RowKit
structure UE where
 kind : Int
 t : ByteArray
 e : ByteArray
 s : As
 n : Int
 at_ : Int
 rk : Int
 re : ByteArray
 ra : Int
def KB (B : Nat) (w w' : World) : Prop:=Kp (fun i=>B <= i) w w'
open Go.ChangeShapes Go.WideShapes Go.ChangeAt Go.RowKit Go.Deep
instance : Inhabited UE:=⟨⟨0,⟨#[]⟩,⟨#[]⟩,⟨⟨#[]⟩,⟨#[]⟩,⟨#[]⟩,0,0,0⟩,0,0,0,⟨#[]⟩,0⟩⟩
namespace Ch
theorem Lk {t : ByteArray} : ∀ (f k : Nat),xe t f k = true -> t.size <= k + f -> (t.size - k) % 2 = 0 -> TL 49 ((ei t).drop k):=by
 intro f
 induction f with
 | zero=>intro k _ h1 _;rw [List.drop_eq_nil_of_le (by rw [bF];omega)];trivial
 | succ f ih=>?_
 intro k h h1 h2
 by_cases c : k + 1 < t.size
 ·rw [fy c]
  simp only [xe,if_pos c] at h
  split at h
  ·rename_i q
   simp at q;refine ⟨⟨q.1.1,by omega,by omega⟩,ih (k + 2) h (by omega) (by omega)⟩
  simp at h
 rw [List.drop_eq_nil_of_le (by rw [bF];omega)];trivial
theorem I3 {t : ByteArray} (h : fR t = true) : TL 49 (ei t) /\ t.size <= 16:=by
 unfold fR at h
 split at h
 ·simp at h
 rename_i c;simp at c;have:=Lk t.size 0 h (by omega) (by omega);exact ⟨by simpa using this,by omega⟩
end Ch
theorem yo (w : World) (e : TypeId) (s : ByteArray) : Kp (fun _=>False) w (Lib.bytesWorld w e s):=⟨rfl,rfl,rfl,by rw [Lib.bytesWorld_size];omega,fun k hk _=>Lib.bytesWorld_at_old w e s k hk⟩
namespace Ch
theorem Gh {t : ByteArray} {a : As} (h : pJ t a = 0) : nV t a = (takeA (read t).2.2.ag a).2 /\ (takeA (read t).2.2.ag a).1 = true:=by
 unfold pJ at h;unfold nV
 split at h
 ·rename_i c;simp at c;exact absurd h c
 rename_i c;rw [if_neg c]
 split at h
 ·rename_i c2;rw [if_pos c2];exact ⟨rfl,c2⟩
 simp at h
theorem Gi (t : ByteArray) : ∀ x ∈ ei t,0 <= x /\ x < 256:=fun x hx=>by
 unfold ei at hx;obtain ⟨b,_,rfl⟩:=List.mem_map.1 hx;have:=b.toNat_lt;omega
theorem I4 (t : ByteArray) : strOfNums (ei t) = t:=IT (jq (Gi t))
/-! A tick. -/
def pf : List Int -> List Int
 | a :: b :: l=>a :: (b - 1) :: pf l
 | _=>[]
theorem Gj {t : ByteArray} : ∀ (f k : Nat) (acc : List Int),t.size <= k + 2 * f -> (t.size - k) % 2 = 0 -> k6 t f k acc = acc ++ pf ((ei t).drop k):=by
 intro f
 induction f with
 | zero=>intro k acc h _;rw [List.drop_eq_nil_of_le (by rw [bF];omega)];simp [k6,pf]
 | succ f ih=>?_
 intro k acc h h2
 by_cases c : k + 1 < t.size
 ·rw [fy c]
  simp only [k6,if_pos c,pf];rw [ih (k + 2) _ (by omega) (by omega)];simp
 rw [List.drop_eq_nil_of_le (by rw [bF];omega)];simp only [k6,if_neg c,pf,List.append_nil]
theorem BP : ∀ (n : Nat) {l : List Int},l.length <= n -> TL 49 l -> TL 48 (pf l) /\ (pf l).length = l.length /\ ∀ x ∈ pf l,0 <= x /\ x < 256:=by
 intro n
 induction n with
 | zero=>intro l hl _;cases l with | nil=>exact ⟨trivial,rfl,by simp [pf]⟩ | cons a l=>simp at hl
 | succ n ih=>?_
 intro l hl hT
 match l,hT with
 | [],_=>exact ⟨trivial,rfl,by simp [pf]⟩
 | a :: b :: l,⟨⟨h1,h2,h3⟩,h4⟩ =>
   obtain ⟨g1,g2,g3⟩:=ih (by simp at hl;omega) h4;have h1':=h1;unfold bN at h1;simp at h1;refine ⟨⟨⟨h1',by omega,by omega⟩,g1⟩,by simp [pf,g2],fun x hx=>?_⟩;simp only [pf,List.mem_cons] at hx
   rcases hx with rfl | rfl | hx
   ·omega
   ·omega
   exact g3 x hx
theorem Gk {s : Sd} (h : Am 49 s) : ei (tick s).tm = pf (ei s.tm):=by
 have he : s.tm.size % 2 = 0:=by rw [<- bF];exact TL.even _ (Nat.le_refl _) h.1
 show ei (strOfNums (k6 s.tm s.tm.size 0 [])) = _;rw [Gj _ _ _ (by omega) (by omega)];simp only [List.nil_append,List.drop_zero];exact jq (BP _ (Nat.le_refl _) h.1).2.2
theorem BR {s : Sd} (h : Am 49 s) : Am 48 (tick s):=by
 have hb:=Gk h;have hd:=BP _ (Nat.le_refl _) h.1;refine ⟨by rw [hb];exact hd.1,?_⟩;rw [<- bF,hb,hd.2.1,bF];exact h.2
theorem Ll : ∀ (n : Nat) {l : List Int},l.length <= n -> lC l <= l.length:=by
 intro n
 induction n with
 | zero=>intro l hl;cases l with | nil=>simp [lC] | cons a l=>simp at hl
 | succ n ih=>?_
 intro l hl
 match l with
 | []=>simp [lC]
 | [a]=>simp [lC]
 | a :: b :: l =>
   have:=ih (l:=l) (by simp at hl;omega);simp only [lC,List.length_cons]
   split <;> omega
theorem Lm {s : Sd} (h : Am 48 s) : mR 16 s:=by
 refine ⟨by rw [<- bF];exact TL.even _ (Nat.le_refl _) h.1,?_⟩;have:=Ll _ (Nat.le_refl (ei s.tm).length);rw [bF] at this;have:=h.2;omega
theorem yp {t : ByteArray} (h0 : (read t).1 = 0) : wQ (read t).2.2:=by
 obtain ⟨_,e,hq,_⟩:=yh h0;obtain ⟨L,_,hN⟩:=uE hq;rw [e];exact Lf hN (yg t)
theorem Lo {t : ByteArray} {a : As} (h : pJ t a = 0) : Am 49 (nV t a):=by
 obtain ⟨e,h1⟩:=Gh h;rw [e];exact I3 (BK h1)
theorem Gl {t : ByteArray} {a : As} (h : pJ t a = 0) : (read t).1 = 0:=by
 unfold pJ at h
 split at h
 ·exact h
 rename_i c;simpa using c
theorem Gm {t : ByteArray} {a : As} (h : pJ t a = 0) : (cN (read t).2.2 17 (tick (nV t a)) []).isSome = true :=
 Ak (yp (Gl h)) 16 [] (Lm (BR (Lo h)))
structure Pk (ol : Ol) (a : As) (s : Sd) : Prop where
 out : a = bC ol.ag s
 inv : Inv ol s
 ok : s.Ok
 tl : Am 48 s
def yq (t : ByteArray) (k : Nat) : ByteArray:=t.extract 0 k ++ t.extract (k + 2) t.size
theorem Pk.due {ol : Ol} {a : As} {s : Sd} (h : Pk ol a s) {k : Nat} (hk : k % 2 = 0) (hl : k + 1 < s.tm.size) : Pk ol { a with tm:=yq s.tm k } { s with tm:=yq s.tm k }:=by
 have hb : ei (yq s.tm k) = (ei s.tm).take (2 * (k / 2)) ++ (ei s.tm).drop (2 * (k / 2 + 1)):=by
  unfold yq;rw [kq,qJ,qJ,List.drop_zero,show k - 0 = 2 * (k / 2) by omega,show k + 2 = 2 * (k / 2 + 1) by omega]
  congr 1
  rw [List.take_of_length_le];rw [List.length_drop,bF];omega
 have hsz : (yq s.tm k).size <= 16:=by
  unfold yq;rw [ByteArray.size_append,ByteArray.size_extract,ByteArray.size_extract];have:=h.tl.2;omega
 refine ⟨by rw [h.out];rfl,h.inv.same ⟨rfl,rfl⟩,⟨h.ok.1,h.ok.2.1,by show (yq s.tm k).size <= 17;omega⟩,⟨?_,hsz⟩⟩;show TL 48 (ei (yq s.tm k));rw [hb];exact TL.append _ (Nat.le_refl _) (TL.take2 _ h.tl.1) (TL.drop2 _ h.tl.1)
def goes (n : Nat) (t : ByteArray) (a : As) (b : Int) : As × ByteArray × Int:=if bN b then pL t a (strOfNums [b]) else pK n t a
end Ch
theorem wq (a : As) : (prog.info? 26).map (·.size) = some (bq a).size:=bo
section
variable (w : World)
theorem iV (a : As) :
 Calls prog 21 #[.agg (bq a),.agg (bq a)] w fun x w'=>x = .returned (.bool true) /\ Kp (fun _=>False) w w':=by
 have K1 : Kp (fun _=>False) w ((w.alloc (.cells (bq a) 26)).alloc (.cells (bq a) 26)):=((Kp.refl _ _).alloc _).alloc _;unfold bq at *
 go_enter func21,ntmps21
 go_wp2;go_ret;exact ⟨rfl,K1⟩
end
namespace Ch
def Dx (a b : ByteArray) : Bool:=a.data.toList == b.data.toList
def Gn (a b : As) : Bool:=Dx a.act b.act && Dx a.past b.past && Dx a.tm b.tm && (a.x == b.x) && (a.y == b.y) && (a.z == b.z)
theorem qK {a b : ByteArray} (h : Dx a b = true) : a = b:=by
 unfold Dx at h
 have h2 : a.data.toList = b.data.toList:=by simpa using h
 obtain ⟨x⟩:=a;obtain ⟨y⟩:=b;simp only [ByteArray.mk.injEq];exact Array.ext' h2
theorem Gp {a b : As} (h : Gn a b = true) : a = b:=by
 unfold Gn at h;simp only [Bool.and_eq_true,beq_iff_eq] at h;obtain ⟨⟨⟨⟨⟨h1,h2⟩,h3⟩,h4⟩,h5⟩,h6⟩:=h;obtain ⟨a1,a2,a3,a4,a5,a6⟩:=a;obtain ⟨b1,b2,b3,b4,b5,b6⟩:=b;simp only at *;rw [qK h1,qK h2,qK h3,h4,h5,h6]
def Sx (r : As × ByteArray × Int) (want : As) (out : ByteArray) : Bool:=Gn r.1 want && Dx r.2.1 out && (r.2.2 == 0)
theorem Aq {r : As × ByteArray × Int} {want : As} {out : ByteArray} (h : Sx r want out = true) : r = (want,out,0):=by
 unfold Sx at h;simp only [Bool.and_eq_true,beq_iff_eq] at h;obtain ⟨⟨h1,h2⟩,h3⟩:=h;obtain ⟨a,b,c⟩:=r;simp only at *;rw [Gp h1,qK h2,h3]
theorem Nx {t : ByteArray} {ol : Ol} (hr : read t = (0,0,ol)) {a : As} (ht : (takeA ol.ag a).1 = true) : pJ t a = 0 /\ nV t a = (takeA ol.ag a).2:=by
 unfold pJ nV;rw [hr];simp [ht]
structure Good (ol : Ol) (s : Sd) : Prop where
 inv : Inv ol s
 pz : yl ol.ag s
 tl : Am 49 s
 ok : s.Ok
 Pm : JJ ol s
structure sf (t : ByteArray) (ol : Ol) : Prop where
 rd : read t = (0,0,ol)
 Gq : BH ol
 Hq : wQ ol
 UF : Sw ol
theorem Lq {t : ByteArray} {ol : Ol} (h : read t = (0,0,ol)) (hB : Sw ol) : sf t ol:=by
 have h0 : (read t).1 = 0:=by rw [h]
 have e : (read t).2.2 = ol:=by rw [h]
 exact ⟨h,by rw [<- e];exact (yh h0).1,by rw [<- e];exact yp h0,hB⟩
section
variable {t : ByteArray} {ol : Ol} (hR : sf t ol)
include hR
theorem Good.take {s : Sd} (g : Good ol s) : takeA ol.ag (bC ol.ag s) = (true,s) :=
 Gc (L:=ol.ag.map fun x=>⟨x.name,x.kind,x.parent,x.pos,[],[],[]⟩) (by rw [List.map_map];exact List.map_id _) hR.Gq (fun k _=>hR.UF k) g.inv g.pz g.tl g.ok.2.1.1 g.ok.2.1.2.1 g.ok.2.1.2.2
theorem Good.lg {s : Sd} (g : Good ol s) : pJ t (bC ol.ag s) = 0 /\ nV t (bC ol.ag s) = s:=by
 have h:=g.take hR;have:=Nx hR.rd (a:=bC ol.ag s) (by rw [h]);exact ⟨this.1,by rw [this.2,h]⟩
theorem pM {n : Nat} {m : Ma} (h : (finish ol n m).2.2 = 0) (hi : Inv ol m.s) (hp : yl ol.ag m.s /\ m.s.past.length = 16) (ht : Am 49 m.s) (ho : m.s.Ok) : Good ol (finish ol n m).1:=by
 have hs:=sd h;have hk:=me ho n (ol:=ol)
 have e : (finish ol n m).1 = (rounds ol n m).s:=by
  unfold finish at h ⊢
  cases q : busy ol (rounds ol n m) with
  | true=>rw [q] at h;simp at h
  | false=>simp only [Bool.false_eq_true,if_false]
 refine ⟨?_,?_,?_,hk,hs⟩
 ·rw [e];exact r9 hR.Gq n hi
 ·rw [e];exact ((lE hR.Gq.le).rounds hR.Hq n hp).1
 rw [e];exact (lD (by omega) ol).rounds hR.Hq n ht
theorem Ar (h : (mstart ol).2.2 = 0) : Good ol (mstart ol).1:=by
 unfold mstart at h ⊢;refine pM hR h (Dl hR.Gq).2 ?_ ?_ (nK (mJ _) _)
 ·refine (lE hR.Gq.le).cL hR.Hq _ _ _ _ (m:=⟨bp ol.ag,[],[]⟩) ⟨fun k hk=>?_,c_ _⟩
  show (b_ ol.ag).getD k 0 = 0;unfold b_ dZ
  by_cases q : k < 16
  ·simp [q,hk]
  simp [q]
 exact (lD (by omega) ol).cL hR.Hq _ _ _ _ (m:=⟨bp ol.ag,[],[]⟩) ⟨trivial,Nat.zero_le _⟩
theorem ph {s : Sd} (g : Good ol s) {ev : Int} (h : (aL ol s ev).2.2 = 0) : Good ol (aL ol s ev).1:=by
 unfold aL at h ⊢;refine pM hR h (jY hR.Gq (m:=⟨s,[],[]⟩) g.inv ev) ((lE hR.Gq.le).dE hR.Hq (m:=⟨s,[],[]⟩) ⟨g.pz,g.ok.1.2⟩ _) ((lD (by omega) ol).dE hR.Hq (m:=⟨s,[],[]⟩) g.tl _) (jP (m:=⟨s,[],[]⟩) g.ok _)
end
theorem sk {ol : Ol} {n : Nat} {m : Ma} : (finish ol n m).2.2 = 0 \/ (finish ol n m).2.2 = 9:=by
 unfold finish;split
 ·exact Or.inr rfl
 exact Or.inl rfl
theorem gR (ol : Ol) : (mstart ol).2.2 = 0 \/ (mstart ol).2.2 = 9:=sk
theorem uU (ol : Ol) (s : Sd) (ev : Int) : (aL ol s ev).2.2 = 0 \/ (aL ol s ev).2.2 = 9:=sk
theorem Gs {t : ByteArray} : ∀ (f k : Nat),jA t f k = none -> t.size <= k + 2 * f -> TL 48 ((ei t).drop k) -> TL 49 ((ei t).drop k):=by
 intro f
 induction f with
 | zero=>intro k _ h _;rw [List.drop_eq_nil_of_le (by rw [bF];omega)];trivial
 | succ f ih=>?_
 intro k h hz ht;simp only [jA] at h
 split at h
 ·rename_i c
  rw [fy c] at ht ⊢
  split at h
  ·cases h
  rename_i q
  have q' : af t (k + 1) ≠ 48:=by simpa using q
  refine ⟨⟨ht.1.1,?_,ht.1.2.2⟩,ih (k + 2) h (by omega) ht.2⟩;have:=ht.1.2.1;omega
 rename_i c
 by_cases c2 : k < t.size
 ·have hl:=TL.even _ (Nat.le_refl _) ht
  rw [List.length_drop,bF] at hl;omega
 rw [List.drop_eq_nil_of_le (by rw [bF];omega)];trivial
structure Mid (ol : Ol) (s : Sd) : Prop where
 inv : Inv ol s
 pz : yl ol.ag s
 tl : Am 48 s
 ok : s.Ok
 Pm : JJ ol s
theorem Mid.due {ol : Ol} {s : Sd} (g : Mid ol s) : Mid ol (aQ s).2.2:=by
 have hok:=iR g.ok;have hst:=g.Pm.av (Ap s);unfold aQ at hok hst ⊢
 split
 ·rename_i k hk
  have ha:=qF _ _ _ _ hk
  have hw : Pk ol (bC ol.ag s) s:=⟨rfl,g.inv,g.ok,g.tl⟩
  rw [hk] at hok hst;have he : k % 2 = 0:=(pd _ _ _ _ hk rfl).1;exact ⟨(hw.due he ha.2).inv,g.pz,(hw.due he ha.2).tl,hok,hst⟩
 exact g
theorem Good.mid {ol : Ol} {s : Sd} (g : Good ol s) : Mid ol (tick s) :=
 ⟨g.inv.same ⟨rfl,rfl⟩,g.pz,BR g.tl,qG g.ok,g.Pm.av ⟨rfl,rfl,rfl,rfl⟩⟩
theorem Good.sm {ol : Ol} {s : Sd} (g : Good ol s) : (bC ol.ag s).Sm:=by
 have h1 : (eY ol.ag s).size <= 16:=by unfold eY;rw [strOfNums_size];have:=xj ol.ag s (min ol.ag.length 16);omega
 have h2 : (fJ ol.ag s).size <= 16:=by unfold fJ;rw [strOfNums_size];have:=xk ol.ag s (min ol.ag.length 16);omega
 have h3:=g.tl.2;exact ⟨Nat.le_trans h1 (by decide),Nat.le_trans h2 (by decide),Nat.le_trans h3 (by decide)⟩
section
variable {t : ByteArray} {ol : Ol} (hR : sf t ol)
include hR
theorem Dy : ∀ (n : Nat) {s : Sd} {l : List Int} {r : Sd × ByteArray},Mid ol s -> cN ol n s l = some r -> Good ol r.1:=by
 intro n
 induction n with
 | zero=>intro s l r _ h;simp [cN] at h
 | succ n ih=>?_
 intro s l r g h;have gd:=g.due;simp only [cN] at h
 split at h
 ·split at h
  ·rename_i c
   have c' : (aL ol (aQ s).2.2 (aQ s).1).2.2 = 0:=by simpa using c
   refine ih ?_ h;generalize (aQ s).2.2 = s2 at *;generalize (aQ s).1 = ev at *;have hs:=sd (by unfold aL at c';exact c')
   have e : (aL ol s2 ev).1 = (rounds ol 29 (dE ol ⟨s2,[],[]⟩ (choose ol s2 ev))).s:=by
    unfold aL finish at c' ⊢
    cases q : busy ol (rounds ol 29 (dE ol ⟨s2,[],[]⟩ (choose ol s2 ev))) with
    | true=>rw [q] at c';simp at c'
    | false=>simp only [Bool.false_eq_true,if_false]
   refine ⟨?_,?_,?_,jR gd.ok ev,hs⟩
   ·rw [e];exact r9 hR.Gq 29 (jY hR.Gq (m:=⟨s2,[],[]⟩) gd.inv ev)
   ·rw [e];exact ((lE hR.Gq.le).rounds hR.Hq 29 ((lE hR.Gq.le).dE hR.Hq (m:=⟨s2,[],[]⟩) ⟨gd.pz,gd.ok.1.2⟩ _)).1
   rw [e];exact (lD (by omega) ol).rounds hR.Hq 29 ((lD (by omega) ol).dE hR.Hq (m:=⟨s2,[],[]⟩) gd.tl _)
  exact ih gd h
 rename_i c;simp at h;subst h
 have hn : jA s.tm s.tm.size 0 = none:=by
  unfold aQ at c
  cases q : jA s.tm s.tm.size 0 with
  | none=>rfl
  | some k=>rw [q] at c;simp at c
 have e : (aQ s).2.2 = s:=by unfold aQ;rw [hn]
 simp only [e];have:=Gs s.tm.size 0 hn (by omega) (by simpa using g.tl.1);exact ⟨g.inv,g.pz,⟨by simpa using this,g.tl.2⟩,g.ok,g.Pm⟩
end
def rn (n : Nat) (c : Int) : Int:=if cm c then 65 + (c - 65 + (n : Int)) % 26 else c
section
variable {n : Nat}
def UG (n : Nat) (s : St) : St:={ s with name:=rn n s.name }
def mS (n : Nat) (ss : List St) : List St:=ss.map (UG n)
end
end Ch
def Ny (w : World) (g : Nat) (l : List Int) : Prop:=∃ C : Array Value,w.heap[g]? = some (.cells C 5 (C.size,C.size + 1)) /\ l.length <= C.size /\ ∀ (j : Nat) (x : Int),l[j]? = some x -> C[j]? = some (Value.int .u8 x)
section
variable {w : World} {g : Nat} {l : List Int}
theorem Ny.cell (h : Ny w g l) {j : Nat} {x : Int} (hj : l[j]? = some x) : w.cell? ⟨g,j,none⟩ = some (.int .u8 x):=by
 obtain ⟨C,h1,_,h3⟩:=h;rw [World.cell?,h1];exact h3 j x hj
theorem Ny.new (w : World) (s : ByteArray) : Ny (Lib.bytesWorld w 5 s) w.heap.size (ei s):=by
 refine ⟨_,Lib.bytesWorld_at_new w 5 s,?_,fun j x hj=>?_⟩
 ·simp [Lib.bytesCells,bF]
 have hl:=(List.getElem?_eq_some_iff.1 hj).1;rw [bF] at hl;have:=Lib.bytesWorld_cell w 5 s j hl;rw [World.cell?,Lib.bytesWorld_at_new] at this
 have e : x = ((s.data.toList.getD j 0).toNat : Int):=by
  unfold ei at hj;rw [List.getElem?_map] at hj
  have h2 : s.data.toList[j]? = some (s.data.toList.getD j 0):=by simp [List.getD,hl]
  rw [h2] at hj;simpa using hj.symm
 rw [e];exact this
end
end Go.Proofs.YtnlbchmfcebeeaaGreat
