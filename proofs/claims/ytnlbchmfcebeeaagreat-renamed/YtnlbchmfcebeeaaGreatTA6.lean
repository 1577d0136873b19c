import Derived.Test.YtnlbchmfcebeeaaGreatTA4
import Derived.Test.YtnlbchmfcebeeaaGreatTA5
set_option maxHeartbeats 12800000
set_option maxRecDepth 100000
namespace Go.Proofs.YtnlbchmfcebeeaaGreat
open Go.RowKit
namespace Ch
def stAt (ss : List St) (i : Int) : Option St:=match i with | .ofNat k=>ss[k]? | .negSucc _=>none
theorem stAt_nat (ss : List St) (k : Nat) : stAt ss (k : Int) = ss[k]?:=rfl
theorem stAt_some {ss : List St} {i : Int} {s : St} (h : stAt ss i = some s) : ∃ k : Nat,i = k ∧ ss[k]? = some s ∧ k < ss.length:=by
 cases i with
 | ofNat k=>exact ⟨k,rfl,h,by have:=(List.getElem?_eq_some_iff.1 (show ss[k]? = some s from h)).1;exact this⟩
 | negSucc k=>simp [stAt] at h
theorem stAt_none {ss : List St} {i : Int} (h : stAt ss i = none) : i < 0 ∨ (0 ≤ i ∧ (ss.length : Int) ≤ i):=by
 cases i with
 | ofNat k=>right;have : ss[k]? = none:=h;have:=List.getElem?_eq_none_iff.1 this;simp;omega
 | negSucc k=>left;omega
def kindAt (ss : List St) (i : Int) : Int:=match stAt ss i with | some s=>s.kind | none=>2
def parAt (ss : List St) (i : Int) : Int:=match stAt ss i with | some s=>s.parent | none=>-1
def isChild (ss : List St) (i parent : Int) : Bool:=match stAt ss i with | some s=>s.parent == parent && s.kind != 5 | none=>false
def placeF (c : Int) : List St → Nat → Int
 | [],_=>-2
 | s :: l,k=>if s.name == c then k else placeF c l (k + 1)
def place (ss : List St) (c : Int) : Int:=placeF c ss 0
def firstChildF (ss : List St) (parent : Int) : Nat → Nat → Int
 | 0,_=>-2
 | f + 1,k=>if isChild ss k parent then k else firstChildF ss parent f (k + 1)
def firstChild (ss : List St) (parent : Int) : Int:=firstChildF ss parent ss.length 0
def isMis (ss : List St) (i : Int) : Bool:=match stAt ss i with
 | some s=>if s.kind == 5 || s.kind == 4 then kindAt ss s.parent == 3 else if s.kind == 3 || s.kind == 2 then firstChild ss i == -2 else false
 | none=>false
def firstAtF (p : Nat → St → Bool) : List St → Nat → Int
 | [],_=>-2
 | s :: l,k=>if p k s then s.pos else firstAtF p l (k + 1)
def firstTwice (ss : List St) : Int:=firstAtF (fun k s=>decide (place ss s.name < (k : Int))) ss 0
def firstMis (ss : List St) : Int:=firstAtF (fun k _=>isMis ss k) ss 0
def firstUnk (ss : List St) : List Us → Int
 | []=>-2
 | u :: l=>if place ss u.name == -2 then u.pos else firstUnk ss l
end Ch
def StR (w : World) (ob oo : Nat) (ss : List Ch.St) : Prop:=∃ sv base,w.cell? ⟨ob,oo + 2,none⟩ = some sv ∧ w.ownsRow base 155 4 sv ss.length (stCells ss)
theorem StR.at_ {w : World} {ob oo : Nat} {ss : List Ch.St} (h : StR w ob oo ss) {k : Nat} {s : Ch.St} (hs : ss[k]? = some s) :
 ∃ g cap,w.cell? ⟨ob,oo + 2,none⟩ = some (.slice (some ⟨g,0,none⟩) ss.length cap) ∧ w.cell? ⟨g,k * 4,none⟩ = some (.int .u8 s.name) ∧ w.cell? ⟨g,k * 4 + 1,none⟩ = some (.int .i64 s.pos) ∧
  w.cell? ⟨g,k * 4 + 2,none⟩ = some (.int .i64 s.kind) ∧ w.cell? ⟨g,k * 4 + 3,none⟩ = some (.int .i64 s.parent):=by
 obtain ⟨sv,base,hc,ho⟩:=h;have hk:=(List.getElem?_eq_some_iff.1 hs).1;obtain ⟨g,cap,rfl⟩:=own_form ho (by omega);obtain ⟨a0,a1,a2,a3⟩:=stCells_at ss k s hs;exact ⟨g,cap,hc,(ho.cellAt (k * 4) (by omega)).trans a0,(ho.cellAt (k * 4 + 1) (by omega)).trans a1,(ho.cellAt (k * 4 + 2) (by omega)).trans a2,(ho.cellAt (k * 4 + 3) (by omega)).trans a3⟩
theorem StR.len {w : World} {ob oo : Nat} {ss : List Ch.St} (h : StR w ob oo ss) : ∃ ao cap,w.cell? ⟨ob,oo + 2,none⟩ = some (.slice ao ss.length cap):=by
 obtain ⟨sv,base,hc,ho⟩:=h
 rcases ho.2 with ⟨hv,hn⟩ | ⟨g,cap,_,hv,_⟩
 ·rw [hn];exact ⟨_,_,by rw [hc,hv]⟩
 exact ⟨_,_,by rw [hc,hv]⟩
section
variable (ob oo : Nat) (w : World) (ss : List Ch.St)
theorem kind_any (i : Int) (h : StR w ob oo ss) (_hl : ss.length ≤ 1000) :
 Calls Tryz.prog 163 #[.pointer (some ⟨ob,oo,none⟩),.int .i64 i] w fun x w'=>x = .returned (.int .i64 (Ch.kindAt ss i)) ∧ w' = w:=by
 unfold Ch.kindAt
 cases hs : Ch.stAt ss i with
 | none =>
   obtain ⟨ao,cap,c2⟩:=h.len
   rcases Ch.stAt_none hs with h1 | ⟨h0,h1⟩
   ·clear hs h
    go_enter Tryz.func163,Tryz.ntmps163
    go_wp2;go_ret;exact ⟨rfl,rfl⟩
   have hd : decide (i < 0) = false:=by simp;omega
   clear hs h
   go_enter Tryz.func163,Tryz.ntmps163
   go_wp2;go_ret;exact ⟨rfl,rfl⟩
 | some s=>?_
 obtain ⟨k,rfl,hk,hlt⟩:=Ch.stAt_some hs;obtain ⟨g,cap,c2,a0,a1,a2,a3⟩:=h.at_ hk
 have hd : decide ((k : Int) < 0) = false:=by simp
 have hlt' : (k : Int) < (ss.length : Int):=by omega
 clear hs hk h
 go_enter Tryz.func163,Tryz.ntmps163
 go_wp2;go_ret;exact ⟨rfl,rfl⟩
theorem isChild_any (i parent : Int) (h : StR w ob oo ss) (_hl : ss.length ≤ 1000) :
 Calls Tryz.prog 162 #[.pointer (some ⟨ob,oo,none⟩),.int .i64 i,.int .i64 parent] w fun x w'=>x = .returned (.bool (Ch.isChild ss i parent)) ∧ w' = w:=by
 unfold Ch.isChild
 cases hs : Ch.stAt ss i with
 | none =>
   obtain ⟨ao,cap,c2⟩:=h.len
   rcases Ch.stAt_none hs with h1 | ⟨h0,h1⟩
   ·clear hs h
    go_enter Tryz.func162,Tryz.ntmps162
    go_wp2;go_ret;exact ⟨rfl,rfl⟩
   have hd : decide (i < 0) = false:=by simp;omega
   clear hs h
   go_enter Tryz.func162,Tryz.ntmps162
   go_wp2;go_ret;exact ⟨rfl,rfl⟩
 | some s=>?_
 obtain ⟨k,rfl,hk,hlt⟩:=Ch.stAt_some hs;obtain ⟨g,cap,c2,a0,a1,a2,a3⟩:=h.at_ hk
 have hd : decide ((k : Int) < 0) = false:=by simp
 have hlt' : (k : Int) < (ss.length : Int):=by omega
 clear hs hk h
 cases q1 : s.parent == parent with
 | false =>
   go_enter Tryz.func162,Tryz.ntmps162
   go_wp2;go_ret;exact ⟨by simp [q1],rfl⟩
 | true=>?_
 cases q2 : s.kind != 5 with
 | false =>
   go_enter Tryz.func162,Tryz.ntmps162
   go_wp2;go_ret;exact ⟨by simp [q1,q2],rfl⟩
 | true=>?_
 go_enter Tryz.func162,Tryz.ntmps162
 go_wp2;go_ret;exact ⟨by simp [q1,q2],rfl⟩
theorem place_any (c : Int) (h : StR w ob oo ss) (hl : ss.length ≤ 1000) :
 Calls Tryz.prog 158 #[.pointer (some ⟨ob,oo,none⟩),.int .u8 c] w fun x w'=>x = .returned (.int .i64 (Ch.place ss c)) ∧ w' = w:=by
 go_enter Tryz.func158,Tryz.ntmps158
 go_wp2_with fail
 go_loop [5] (fun i=>∃ k : Nat,i = .int .i64 k ∧ k ≤ ss.length ∧ Hid (Ch.place ss c = Ch.placeF c (ss.drop k) k)) (fun i=>ss.length - (intOf i).toNat)
 case atStart=>exact ⟨0,rfl,Nat.zero_le _,hid rfl⟩
 case round =>
  obtain ⟨k,rfl,hk,HE⟩:=hrel
  by_cases hlt : k < ss.length
  ·obtain ⟨s,hs⟩ : ∃ s,ss[k]? = some s:=⟨_,List.getElem?_eq_getElem hlt⟩
   obtain ⟨g,cap,c2,a0,a1,a2,a3⟩:=h.at_ hs
   have hlt' : (k : Int) < (ss.length : Int):=by omega
   have ed : ss.drop k = s :: ss.drop (k + 1):=by
    rw [List.drop_eq_getElem_cons hlt];congr 1;exact (List.getElem?_eq_some_iff.1 hs).2
   cases q : s.name == c with
   | true =>
     have HF:=hid (HE.out.trans (show _ = ((k : Nat) : Int) by rw [ed];simp [Ch.placeF,q]));clear ed hs HE;go_wp2;go_ret;exact ⟨by rw [HF.out];rfl,rfl⟩
   | false=>?_
   have HF:=hid (HE.out.trans (show _ = Ch.placeF c (ss.drop (k + 1)) (k + 1) by rw [ed];simp [Ch.placeF,q]));clear ed hs HE;go_wp2
   go_round
   case rel=>exact ⟨k + 1,by go_num,by omega,HF⟩
   case measure=>simp [intOf];omega
  obtain ⟨ao,cap,c2⟩:=h.len;have HF:=hid (HE.out.trans (show _ = (-2 : Int) by rw [List.drop_eq_nil_of_le (by omega)];rfl))
  have hge : ¬ (k : Int) < (ss.length : Int):=by omega
  clear HE;go_wp2;go_ret;exact ⟨by rw [HF.out];rfl,rfl⟩
theorem firstChild_any (parent : Int) (h : StR w ob oo ss) (hl : ss.length ≤ 1000) :
 Calls Tryz.prog 217 #[.pointer (some ⟨ob,oo,none⟩),.int .i64 parent] w fun x w'=>x = .returned (.int .i64 (Ch.firstChild ss parent)) ∧ w' = w:=by
 obtain ⟨ao,cap,c2⟩:=h.len
 go_enter Tryz.func217,Tryz.ntmps217
 go_wp2_with fail
 go_loop [5] (fun i=>∃ k : Nat,i = .int .i64 k ∧ k ≤ ss.length ∧ Hid (Ch.firstChild ss parent = Ch.firstChildF ss parent (ss.length - k) k)) (fun i=>ss.length - (intOf i).toNat)
 case atStart=>exact ⟨0,rfl,Nat.zero_le _,hid rfl⟩
 case round =>
  obtain ⟨k,rfl,hk,HE⟩:=hrel;have E:=hid (isChild_any ob oo w ss k parent h hl)
  by_cases hlt : k < ss.length
  ·have hlt' : (k : Int) < (ss.length : Int):=by omega
   have ef : ss.length - k = (ss.length - (k + 1)) + 1:=by omega
   cases q : Ch.isChild ss k parent with
   | true =>
     have HF:=hid (HE.out.trans (show _ = ((k : Nat) : Int) by rw [ef];simp [Ch.firstChildF,q]));rw [q] at E;clear ef HE
     go_wp2_with fail
     refine hm E ?_;rintro x w1 ⟨rfl,rfl⟩;go_wp2;go_ret;exact ⟨by rw [HF.out];rfl,rfl⟩
   | false=>?_
   have HF:=hid (HE.out.trans (show _ = Ch.firstChildF ss parent (ss.length - (k + 1)) (k + 1) by rw [ef];simp [Ch.firstChildF,q]));rw [q] at E;clear ef HE
   go_wp2_with fail
   refine hm E ?_;rintro x w1 ⟨rfl,rfl⟩;go_wp2
   go_round
   case rel=>exact ⟨k + 1,by go_num,by omega,HF⟩
   case measure=>simp [intOf];omega
  have HF:=hid (HE.out.trans (show _ = (-2 : Int) by rw [show ss.length - k = 0 by omega];rfl))
  have hge : ¬ (k : Int) < (ss.length : Int):=by omega
  clear HE E
  go_wp2_with fail
  go_ret;exact ⟨by rw [HF.out];rfl,rfl⟩
theorem isMis_any (k : Nat) (hlt : k < ss.length) (h : StR w ob oo ss) (hl : ss.length ≤ 1000) :
 Calls Tryz.prog 159 #[.pointer (some ⟨ob,oo,none⟩),.int .i64 k] w fun x w'=>x = .returned (.bool (Ch.isMis ss k)) ∧ w' = w:=by
 obtain ⟨s,hs⟩ : ∃ s,ss[k]? = some s:=⟨_,List.getElem?_eq_getElem hlt⟩
 obtain ⟨g,cap,c2,a0,a1,a2,a3⟩:=h.at_ hs
 have hlt' : (k : Int) < (ss.length : Int):=by omega
 have hsk : Ch.stAt ss (k : Int) = some s:=hs;have E1:=hid (kind_any ob oo w ss s.parent h hl);have E2:=hid (firstChild_any ob oo w ss (k : Int) h hl)
 cases q5 : s.kind == 5 with
 | true =>
   rw [show Ch.isMis ss k = (Ch.kindAt ss s.parent == 3) by simp [Ch.isMis,hsk,q5]];clear hs hsk h
   go_enter Tryz.func159,Tryz.ntmps159
   go_wp2_with fail
   refine hm E1 ?_;rintro x w1 ⟨rfl,rfl⟩;go_wp2;go_ret;exact ⟨rfl,rfl⟩
 | false=>?_
 cases q4 : s.kind == 4 with
 | true =>
   rw [show Ch.isMis ss k = (Ch.kindAt ss s.parent == 3) by simp [Ch.isMis,hsk,q5,q4]];clear hs hsk h
   go_enter Tryz.func159,Tryz.ntmps159
   go_wp2_with fail
   refine hm E1 ?_;rintro x w1 ⟨rfl,rfl⟩;go_wp2;go_ret;exact ⟨rfl,rfl⟩
 | false=>?_
 cases q3 : s.kind == 3 with
 | true =>
   rw [show Ch.isMis ss k = (Ch.firstChild ss k == -2) by simp [Ch.isMis,hsk,q5,q4,q3]];clear hs hsk h
   go_enter Tryz.func159,Tryz.ntmps159
   go_wp2_with fail
   refine hm E2 ?_;rintro x w1 ⟨rfl,rfl⟩;go_wp2;go_ret;exact ⟨rfl,rfl⟩
 | false=>?_
 cases q2 : s.kind == 2 with
 | true =>
   rw [show Ch.isMis ss k = (Ch.firstChild ss k == -2) by simp [Ch.isMis,hsk,q5,q4,q3,q2]];clear hs hsk h
   go_enter Tryz.func159,Tryz.ntmps159
   go_wp2_with fail
   refine hm E2 ?_;rintro x w1 ⟨rfl,rfl⟩;go_wp2;go_ret;exact ⟨rfl,rfl⟩
 | false=>?_
 rw [show Ch.isMis ss k = false by simp [Ch.isMis,hsk,q5,q4,q3,q2]];clear hs hsk h E1 E2
 go_enter Tryz.func159,Tryz.ntmps159
 go_wp2;go_ret;exact ⟨rfl,rfl⟩
theorem firstTwice_any (h : StR w ob oo ss) (hl : ss.length ≤ 1000) :
 Calls Tryz.prog 112 #[.pointer (some ⟨ob,oo,none⟩)] w fun x w'=>x = .returned (.int .i64 (Ch.firstTwice ss)) ∧ w' = w:=by
 go_enter Tryz.func112,Tryz.ntmps112
 go_wp2_with fail
 go_loop [3] (fun i=>∃ k : Nat,i = .int .i64 k ∧ k ≤ ss.length ∧ Hid (Ch.firstTwice ss = Ch.firstAtF (fun k s=>decide (Ch.place ss s.name < (k : Int))) (ss.drop k) k)) (fun i=>ss.length - (intOf i).toNat)
 case atStart=>exact ⟨0,rfl,Nat.zero_le _,hid rfl⟩
 case round =>
  obtain ⟨k,rfl,hk,HE⟩:=hrel
  by_cases hlt : k < ss.length
  ·obtain ⟨s,hs⟩ : ∃ s,ss[k]? = some s:=⟨_,List.getElem?_eq_getElem hlt⟩
   obtain ⟨g,cap,c2,a0,a1,a2,a3⟩:=h.at_ hs
   have hlt' : (k : Int) < (ss.length : Int):=by omega
   have ed : ss.drop k = s :: ss.drop (k + 1):=by
    rw [List.drop_eq_getElem_cons hlt];congr 1;exact (List.getElem?_eq_some_iff.1 hs).2
   have E:=hid (place_any ob oo w ss s.name h hl)
   cases q : decide (Ch.place ss s.name < (k : Int)) with
   | true =>
     have HF:=hid (HE.out.trans (show _ = s.pos by rw [ed];simp [Ch.firstAtF];intro x;simp at q;omega));clear ed hs HE
     go_wp2_with fail
     refine hm E ?_;rintro x w1 ⟨rfl,rfl⟩;go_wp2;go_ret;exact ⟨by rw [HF.out];rfl,rfl⟩
   | false=>?_
   have HF:=hid (HE.out.trans (show _ = Ch.firstAtF (fun k s=>decide (Ch.place ss s.name < (k : Int))) (ss.drop (k + 1)) (k + 1) by rw [ed];simp [Ch.firstAtF];intro x;simp at q;omega));clear ed hs HE
   go_wp2_with fail
   refine hm E ?_;rintro x w1 ⟨rfl,rfl⟩;go_wp2
   go_round
   case rel=>exact ⟨k + 1,by go_num,by omega,HF⟩
   case measure=>simp [intOf];omega
  obtain ⟨ao,cap,c2⟩:=h.len;have HF:=hid (HE.out.trans (show _ = (-2 : Int) by rw [List.drop_eq_nil_of_le (by omega)];rfl))
  have hge : ¬ (k : Int) < (ss.length : Int):=by omega
  clear HE
  go_wp2_with fail
  go_ret;exact ⟨by rw [HF.out];rfl,rfl⟩
theorem firstMis_any (h : StR w ob oo ss) (hl : ss.length ≤ 1000) :
 Calls Tryz.prog 113 #[.pointer (some ⟨ob,oo,none⟩)] w fun x w'=>x = .returned (.int .i64 (Ch.firstMis ss)) ∧ w' = w:=by
 go_enter Tryz.func113,Tryz.ntmps113
 go_wp2_with fail
 go_loop [3] (fun i=>∃ k : Nat,i = .int .i64 k ∧ k ≤ ss.length ∧ Hid (Ch.firstMis ss = Ch.firstAtF (fun k _=>Ch.isMis ss k) (ss.drop k) k)) (fun i=>ss.length - (intOf i).toNat)
 case atStart=>exact ⟨0,rfl,Nat.zero_le _,hid rfl⟩
 case round =>
  obtain ⟨k,rfl,hk,HE⟩:=hrel
  by_cases hlt : k < ss.length
  ·obtain ⟨s,hs⟩ : ∃ s,ss[k]? = some s:=⟨_,List.getElem?_eq_getElem hlt⟩
   obtain ⟨g,cap,c2,a0,a1,a2,a3⟩:=h.at_ hs
   have hlt' : (k : Int) < (ss.length : Int):=by omega
   have ed : ss.drop k = s :: ss.drop (k + 1):=by
    rw [List.drop_eq_getElem_cons hlt];congr 1;exact (List.getElem?_eq_some_iff.1 hs).2
   have E:=hid (isMis_any ob oo w ss k hlt h hl)
   cases q : Ch.isMis ss k with
   | true =>
     have HF:=hid (HE.out.trans (show _ = s.pos by rw [ed];simp [Ch.firstAtF,q]));rw [q] at E;clear ed hs HE
     go_wp2_with fail
     refine hm E ?_;rintro x w1 ⟨rfl,rfl⟩;go_wp2;go_ret;exact ⟨by rw [HF.out];rfl,rfl⟩
   | false=>?_
   have HF:=hid (HE.out.trans (show _ = Ch.firstAtF (fun k _=>Ch.isMis ss k) (ss.drop (k + 1)) (k + 1) by rw [ed];simp [Ch.firstAtF,q]));rw [q] at E;clear ed hs HE
   go_wp2_with fail
   refine hm E ?_;rintro x w1 ⟨rfl,rfl⟩;go_wp2
   go_round
   case rel=>exact ⟨k + 1,by go_num,by omega,HF⟩
   case measure=>simp [intOf];omega
  obtain ⟨ao,cap,c2⟩:=h.len;have HF:=hid (HE.out.trans (show _ = (-2 : Int) by rw [List.drop_eq_nil_of_le (by omega)];rfl))
  have hge : ¬ (k : Int) < (ss.length : Int):=by omega
  clear HE
  go_wp2_with fail
  go_ret;exact ⟨by rw [HF.out];rfl,rfl⟩
end
theorem usCells_at (us : List Ch.Us) (k : Nat) (u : Ch.Us) (h : us[k]? = some u) :
 (usCells us)[k * 2]? = some (.int .u8 u.name) ∧ (usCells us)[k * 2 + 1]? = some (.int .i64 u.pos):=by
 induction us generalizing k with
 | nil=>simp at h
 | cons a l ih=>?_
 cases k with
 | zero=>simp at h;subst h;simp [usCells]
 | succ k=>?_
 have:=ih k (by simpa using h)
 have e : usCells (a :: l) = [.int .u8 a.name,.int .i64 a.pos] ++ usCells l:=by simp [usCells]
 rw [e]
 have q : ∀ j,([Value.int .u8 a.name,.int .i64 a.pos] ++ usCells l)[(k + 1) * 2 + j]? = (usCells l)[k * 2 + j]?:=by
  intro j;rw [List.getElem?_append_right (by simp;omega)]
  congr 1
  simp;omega
 exact ⟨by simpa using (q 0).trans (by simpa using this.1),(q 1).trans this.2⟩
namespace Ch
def judge (ss : List St) (us : List Us) : Int × Int :=
 if 16 < ss.length then (3,match ss[16]? with | some s=>s.pos | none=>0)
 else if firstTwice ss != -2 then (4,firstTwice ss)
 else if firstMis ss != -2 then (5,firstMis ss)
 else if firstUnk ss us != -2 then (6,firstUnk ss us)
 else (0,0)
end Ch
section
variable (ob oo : Nat) (w : World) (ss : List Ch.St)
theorem firstUnk_any (uv : Value) (us : List Ch.Us) (base : Nat) (ho : w.ownsRow base 242 2 uv us.length (usCells us)) (hu : us.length ≤ 1000) (h : StR w ob oo ss) (hl : ss.length ≤ 1000) :
 Calls Tryz.prog 114 #[.pointer (some ⟨ob,oo,none⟩),uv] w fun x w'=>x = .returned (.int .i64 (Ch.firstUnk ss us)) ∧ w' = w:=by
 obtain ⟨ao,cap,rfl⟩:=own_len ho
 go_enter Tryz.func114,Tryz.ntmps114
 go_wp2_with fail
 go_loop [5] (fun i=>∃ k : Nat,i = .int .i64 k ∧ k ≤ us.length ∧ Hid (Ch.firstUnk ss us = Ch.firstUnk ss (us.drop k))) (fun i=>us.length - (intOf i).toNat)
 case atStart=>exact ⟨0,rfl,Nat.zero_le _,hid rfl⟩
 case round =>
  obtain ⟨k,rfl,hk,HE⟩:=hrel
  by_cases hlt : k < us.length
  ·obtain ⟨u,hs⟩ : ∃ s,us[k]? = some s:=⟨_,List.getElem?_eq_getElem hlt⟩
   obtain ⟨g,cap',hg⟩:=own_form ho (by omega);simp only [Value.slice.injEq,true_and] at hg;obtain ⟨rfl,rfl⟩:=hg;obtain ⟨z0,z1⟩:=usCells_at us k u hs;have a0:=(ho.cellAt (k * 2) (by omega)).trans z0;have a1:=(ho.cellAt (k * 2 + 1) (by omega)).trans z1
   have hlt' : (k : Int) < (us.length : Int):=by omega
   have ed : us.drop k = u :: us.drop (k + 1):=by
    rw [List.drop_eq_getElem_cons hlt];congr 1;exact (List.getElem?_eq_some_iff.1 hs).2
   have E:=hid (place_any ob oo w ss u.name h hl)
   cases q : Ch.place ss u.name == -2 with
   | true =>
     have HF:=hid (HE.out.trans (show _ = u.pos by rw [ed];simp [Ch.firstUnk,q]));clear ed hs HE ho z0 z1
     go_wp2_with fail
     refine hm E ?_;rintro x w1 ⟨rfl,rfl⟩;go_wp2;go_ret;exact ⟨by rw [HF.out];rfl,rfl⟩
   | false=>?_
   have HF:=hid (HE.out.trans (show _ = Ch.firstUnk ss (us.drop (k + 1)) by rw [ed];simp [Ch.firstUnk,q]));clear ed hs HE ho z0 z1
   go_wp2_with fail
   refine hm E ?_;rintro x w1 ⟨rfl,rfl⟩;go_wp2
   go_round
   case rel=>exact ⟨k + 1,by go_num,by omega,HF⟩
   case measure=>simp [intOf];omega
  have HF:=hid (HE.out.trans (show _ = (-2 : Int) by rw [List.drop_eq_nil_of_le (by omega)];rfl))
  have hge : ¬ (k : Int) < (us.length : Int):=by omega
  clear HE
  go_wp2_with fail
  go_ret;exact ⟨by rw [HF.out];rfl,rfl⟩
theorem StR.keep {ob oo : Nat} {w w' : World} {ss : List Ch.St} {S : Nat → Prop} (h : StR w ob oo ss) (k : Kp S w w') (h1 : ¬ S ob) (h2 : ∀ i cur,w.heap[i]? = some (.cells cur 155 (0,0)) → ¬ S i) : StR w' ob oo ss:=by
 obtain ⟨sv,base,hc,ho⟩:=h;refine ⟨sv,base,?_,k.owns ho (fun i hi=>by obtain ⟨cur,hg⟩:=own_block ho hi;exact h2 i cur hg)⟩;rw [World.cell?_of_block (k.block ob (World.block_lt_of_cell? w _ hc) h1)];exact hc
theorem StR.alloc {ob oo : Nat} {w : World} {ss : List Ch.St} (h : StR w ob oo ss) (o : Obj) : StR (w.alloc o) ob oo ss :=
 h.keep (S:=fun _=>False) ((Kp.refl _ _).alloc _) (fun x=>x) (fun _ _ _ x=>x)
theorem judge_any (uv : Value) (us : List Ch.Us) (base : Nat) (ho : w.ownsRow base 242 2 uv us.length (usCells us)) (hu : us.length ≤ 1000) (h : StR w ob oo ss) (hl : ss.length ≤ 1000) :
 Calls Tryz.prog 69 #[.pointer (some ⟨ob,oo,none⟩),uv] w fun x w'=>x = .returned (.agg #[.int .i64 (Ch.judge ss us).1,.int .i64 (Ch.judge ss us).2]) ∧ Kp (fun _=>False) w w':=by
 have ha:=h.alloc (.cells #[.int .i64 0,.int .i64 0] 145);have hoa:=ho.alloc (.cells #[.int .i64 0,.int .i64 0] 145);clear h ho
 by_cases h16 : 16 < ss.length
 ·obtain ⟨s,hs⟩ : ∃ s,ss[16]? = some s:=⟨_,List.getElem?_eq_getElem h16⟩
  obtain ⟨g,cap,c2,a0,a1,a2,a3⟩:=ha.at_ hs;simp only [Nat.reduceMul,Nat.reduceAdd] at a0 a1 a2 a3
  have h16' : (16 : Int) < (ss.length : Int):=by omega
  rw [show Ch.judge ss us = (3,s.pos) by unfold Ch.judge;rw [if_pos h16,hs]];clear hs ha hoa
  go_enter Tryz.func69,Tryz.ntmps69
  go_wp2_with fail
  exact bodyPost_ret (v:=.agg #[.int .i64 3,.int .i64 s.pos]) (by simp [results,Tryz.results69,go_sem]) rfl ⟨rfl,(Kp.refl _ _).alloc _⟩
 have h16' : ¬ (16 : Int) < (ss.length : Int):=by omega
 obtain ⟨ao,cap,c2⟩:=ha.len;have E1:=hid (firstTwice_any ob oo _ ss ha hl);have E2:=hid (firstMis_any ob oo _ ss ha hl);have E3:=hid (firstUnk_any ob oo _ ss uv us base hoa hu ha hl);clear ha hoa
 cases q1 : Ch.firstTwice ss != -2 with
 | true =>
   rw [show Ch.judge ss us = (4,Ch.firstTwice ss) by unfold Ch.judge;rw [if_neg h16,if_pos q1]]
   go_enter Tryz.func69,Tryz.ntmps69
   go_wp2_with fail
   refine hm E1 ?_;rintro x w1 ⟨rfl,rfl⟩
   go_wp2_with fail
   exact bodyPost_ret (v:=.agg #[.int .i64 4,.int .i64 (Ch.firstTwice ss)]) (by simp [results,Tryz.results69,go_sem]) rfl ⟨rfl,(Kp.refl _ _).alloc _⟩
 | false=>?_
 have q1' : ¬ (Ch.firstTwice ss != -2) = true:=by simp [q1]
 cases q2 : Ch.firstMis ss != -2 with
 | true =>
   rw [show Ch.judge ss us = (5,Ch.firstMis ss) by unfold Ch.judge;rw [if_neg h16,if_neg q1',if_pos q2]];clear q1'
   go_enter Tryz.func69,Tryz.ntmps69
   go_wp2_with fail
   refine hm E1 ?_;rintro x w1 ⟨rfl,rfl⟩
   go_wp2_with fail
   refine hm E2 ?_;rintro x w1 ⟨rfl,rfl⟩
   go_wp2_with fail
   exact bodyPost_ret (v:=.agg #[.int .i64 5,.int .i64 (Ch.firstMis ss)]) (by simp [results,Tryz.results69,go_sem]) rfl ⟨rfl,(Kp.refl _ _).alloc _⟩
 | false=>?_
 have q2' : ¬ (Ch.firstMis ss != -2) = true:=by simp [q2]
 cases q3 : Ch.firstUnk ss us != -2 with
 | true =>
   rw [show Ch.judge ss us = (6,Ch.firstUnk ss us) by unfold Ch.judge;rw [if_neg h16,if_neg q1',if_neg q2',if_pos q3]];clear q1' q2'
   go_enter Tryz.func69,Tryz.ntmps69
   go_wp2_with fail
   refine hm E1 ?_;rintro x w1 ⟨rfl,rfl⟩
   go_wp2_with fail
   refine hm E2 ?_;rintro x w1 ⟨rfl,rfl⟩
   go_wp2_with fail
   refine hm E3 ?_;rintro x w1 ⟨rfl,rfl⟩
   go_wp2_with fail
   exact bodyPost_ret (v:=.agg #[.int .i64 6,.int .i64 (Ch.firstUnk ss us)]) (by simp [results,Tryz.results69,go_sem]) rfl ⟨rfl,(Kp.refl _ _).alloc _⟩
 | false=>?_
 have q3' : ¬ (Ch.firstUnk ss us != -2) = true:=by simp [q3]
 rw [show Ch.judge ss us = (0,0) by unfold Ch.judge;rw [if_neg h16,if_neg q1',if_neg q2',if_neg q3']];clear q1' q2' q3'
 go_enter Tryz.func69,Tryz.ntmps69
 go_wp2_with fail
 refine hm E1 ?_;rintro x w1 ⟨rfl,rfl⟩
 go_wp2_with fail
 refine hm E2 ?_;rintro x w1 ⟨rfl,rfl⟩
 go_wp2_with fail
 refine hm E3 ?_;rintro x w1 ⟨rfl,rfl⟩
 go_wp2_with fail
 exact bodyPost_ret (v:=.agg #[.int .i64 0,.int .i64 0]) (by simp [results,Tryz.results69,go_sem]) rfl ⟨rfl,(Kp.refl _ _).alloc _⟩
end
end Go.Proofs.YtnlbchmfcebeeaaGreat
