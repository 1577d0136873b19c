import Derived.Test.YtnlbchmfcebeeaaGreatTLg
import Derived.Laws.BytesArg
import Derived.Deep.CutRange
set_option maxHeartbeats 12800000
set_option maxRecDepth 100000
namespace Go.Proofs.YtnlbchmfcebeeaaGreat
open Go.Proofs.Tryz Ch
open Go.RowKit
theorem wX (a b : List Int) : strOfNums (a ++ b) = strOfNums a ++ strOfNums b:=by
 apply ByteArray.ext;apply Array.toList_inj.1;rw [ByteArray.data_append,Array.toList_append,strOfNums_data,strOfNums_data,strOfNums_data,List.map_append]
theorem ez {P : Program} (a b : List Int) (h : a.length + b.length <= 1000000) (w : World) : Sem.run P (Op.stringOp BinOp.add (strOfNums a) (strOfNums b)) w = .ok (.string (strOfNums (a ++ b))) w:=by
 rw [wX];exact run_string_add_sum w _ _ (by rw [strOfNums_size,strOfNums_size];omega)
namespace Ch
def Bj (c : Int) (n : Nat) : Nat:=(if c < 0 then (-(c + 1)).toNat else c.toNat) % n
theorem Ei (c : Int) {n : Nat} (h : 1 <= n) : Bj c n < n:=Nat.mod_lt _ (by omega)
end Ch
section
variable (w : World)
theorem Cr (c : Int) (h1 : -9223372036854775808 <= c) (h2 : c <= 9223372036854775807) (n : Nat) (hn : 1 <= n) (Ke : n <= 1000) :
 Calls prog 24 #[.int .i64 c,.int .i64 n] w fun x w'=>x = .returned (.int .i64 (Bj c n)) /\ w' = w:=by
 unfold Bj
 by_cases hc : c < 0
 ·rw [if_pos hc]
  have e : (-(c + 1)).tmod (n : Int) = (((-(c + 1)).toNat % n : Nat) : Int):=by
   rw [Int.tmod_eq_emod_of_nonneg (by omega)]
   have : -(c + 1) = (((-(c + 1)).toNat : Nat) : Int):=by omega
   rw [this];simp
  generalize (-(c + 1)).toNat % n = r at *
  have hn0 : ¬ ((n : Int) = 0):=by omega
  go_enter func24,ntmps24
  go_wp2;go_ret;simp
 rw [if_neg hc]
 have e : c.tmod (n : Int) = ((c.toNat % n : Nat) : Int):=by
  rw [Int.tmod_eq_emod_of_nonneg (by omega)]
  have : c = ((c.toNat : Nat) : Int):=by omega
  rw [this];simp
 generalize c.toNat % n = r at *
 have hn0 : ¬ ((n : Int) = 0):=by omega
 go_enter func24,ntmps24
 go_wp2;go_ret;simp
theorem kW (w : World) (c : Int) : Sem.run prog (convert 47 9 (.slice (some ⟨w.heap.size,0,none⟩) 1 1)) (w.alloc (.cells #[.int .u8 c] 5)) = .ok (.string (strOfNums [c])) (w.alloc (.cells #[.int .u8 c] 5)) :=
 run_convert_bytes_arg (P:=prog) (w.alloc (.cells #[.int .u8 c] 5)) 47 5 underlying47 underlying5 w.heap.size 0 1 1 [c] rfl (by
  intro i hi
  match i,hi with
  | 0,_=>simp) 9 underlying9
theorem wrap_u8 {c : Int} (h0 : 0 <= c) (h1 : c <= 255) : IntKind.wrap .u8 c = c:=by unfold IntKind.wrap;simp [IntKind.bits,IntKind.signed];omega
theorem gH (i : Nat) (hi : i <= 9) :
 Calls prog 25 #[.int .i64 i] w fun x w'=>x = .returned (.string (strOfNums [48 + (i : Int)])) /\ Kp (fun _=>False) w w':=by
 have hcv:=kW w (48 + (i : Int));have hw8 : IntKind.wrap .u8 (48 + (i : Int)) = 48 + (i : Int):=wrap_u8 (by omega) (by omega);have K1 : Kp (fun _=>False) w (w.alloc (.cells #[.int .u8 (48 + (i : Int))] 5)):=(Kp.refl _ _).alloc _
 go_enter func25,ntmps25
 go_wp2;go_ret;exact ⟨rfl,K1⟩
theorem kX (i : Nat) (hi : i <= 25) :
 Calls prog 50 #[.int .i64 i] w fun x w'=>x = .returned (.string (strOfNums [65 + (i : Int)])) /\ Kp (fun _=>False) w w':=by
 have hcv:=kW w (65 + (i : Int));have hw8 : IntKind.wrap .u8 (65 + (i : Int)) = 65 + (i : Int):=wrap_u8 (by omega) (by omega);have K1 : Kp (fun _=>False) w (w.alloc (.cells #[.int .u8 (65 + (i : Int))] 5)):=(Kp.refl _ _).alloc _
 go_enter func50,ntmps50
 go_wp2;go_ret;exact ⟨rfl,K1⟩
end
def fh (l : List (Int × Int)) : List Value:=l.flatMap fun a=>[.int .i64 a.1,.int .i64 a.2]
theorem vu (l : List (Int × Int)) (a : Int × Int) : fh (l ++ [a]) = fh l ++ [.int .i64 a.1,.int .i64 a.2]:=by simp [fh]
theorem zy (us : List (Int × Int)) (k : Nat) (q p : Int) (h : us[k]? = some (q,p)) :
 (fh us)[k * 2]? = some (.int .i64 q) /\ (fh us)[k * 2 + 1]? = some (.int .i64 p):=by
 induction us generalizing k with
 | nil=>simp at h
 | cons a l ih=>?_
 cases k with
 | zero=>simp at h;subst h;simp [fh]
 | succ k=>?_
 have:=ih k (by simpa using h)
 have e : fh (a :: l) = [.int .i64 a.1,.int .i64 a.2] ++ fh l:=by simp [fh]
 rw [e]
 have q : ∀ j,([Value.int .i64 a.1,.int .i64 a.2] ++ fh l)[(k + 1) * 2 + j]? = (fh l)[k * 2 + j]?:=by
  intro j;rw [List.getElem?_append_right (by simp;omega)]
  congr 1
  simp;omega
 exact ⟨by simpa using (q 0).trans (by simpa using this.1),(q 1).trans this.2⟩
def kY (w : World) (B : Nat) (v : Value) (n : Nat) : Prop:=((∃ ao cap,v = .slice ao 0 cap) /\ n = 0) \/
 ∃ g off cap,v = .slice (some ⟨g,off,none⟩) n cap /\ g < B /\ ∀ j,j < n -> ∃ x : Int,w.cell? ⟨g,off + j,none⟩ = some (.int .i64 x) /\ -9223372036854775808 <= x /\ x <= 9223372036854775807
theorem kY.keep {w w' : World} {B : Nat} {v : Value} {n : Nat} (h : kY w B v n) (k : Below B w w') : kY w' B v n:=by
 rcases h with h | ⟨g,off,cap,e,hg,hc⟩
 ·exact .inl h
 refine .inr ⟨g,off,cap,e,hg,fun j hj=>?_⟩;obtain ⟨x,hx,hb⟩:=hc j hj;refine ⟨x,?_,hb⟩;rw [World.cell?] at hx ⊢;rw [k.block g hg];exact hx
theorem kY.len {w : World} {B : Nat} {v : Value} {n : Nat} (h : kY w B v n) : ∃ ao cap,v = .slice ao n cap:=by
 rcases h with ⟨⟨ao,cap,rfl⟩,rfl⟩ | ⟨g,off,cap,rfl,_⟩
 ·exact ⟨_,_,rfl⟩
 exact ⟨_,_,rfl⟩
structure Mk (w : World) (B b : Nat) (lv : Value) (n a : Nat) (P : List (Int × Int)) (room : Nat) (pv : Value) : Prop where
 low : B <= b
 blk : w.heap[b]? = some (.cells #[lv,.int .i64 a,pv,.int .i64 room] 102 (0,0))
 pts : w.ownsRow B 113 2 pv P.length (fh P)
 ints : kY w B lv n
 Mx : n <= maxLen
section
variable {w : World} {B b : Nat} {lv : Value} {n a : Nat} {P : List (Int × Int)} {room : Nat} {pv : Value}
theorem Mk.lt (h : Mk w B b lv n a P room pv) : b < w.heap.size:=lt_of_block h.blk
theorem Mk.jy (h : Mk w B b lv n a P room pv) : B <= w.heap.size:=by have:=h.lt;have:=h.low;omega
theorem Mk.c0 (h : Mk w B b lv n a P room pv) : w.cell? ⟨b,0,none⟩ = some lv:=by rw [World.cell?,h.blk];rfl
theorem Mk.c1 (h : Mk w B b lv n a P room pv) : w.cell? ⟨b,1,none⟩ = some (.int .i64 a):=by rw [World.cell?,h.blk];rfl
theorem Mk.c2 (h : Mk w B b lv n a P room pv) : w.cell? ⟨b,2,none⟩ = some pv:=by rw [World.cell?,h.blk];rfl
theorem Mk.c3 (h : Mk w B b lv n a P room pv) : w.cell? ⟨b,3,none⟩ = some (.int .i64 room):=by rw [World.cell?,h.blk];rfl
theorem Mk.free (h : Mk w B b lv n a P room pv) (i : Nat) : w.frozen? ⟨b,i,none⟩ = false:=by simp [World.frozen?,h.blk]
theorem Mk.ne (h : Mk w B b lv n a P room pv) : pv.ownBlock ≠ some b:=own_ne h.pts h.blk (by decide)
theorem Mk.keep {S : Nat -> Prop} {w' : World} (h : Mk w B b lv n a P room pv) (k : Kp S w w') (hb : ¬ S b) (hp : ∀ i,pv.ownBlock = some i -> ¬ S i) (hS : ∀ i,S i -> B <= i) : Mk w' B b lv n a P room pv :=
 ⟨h.low,k.at_ h.blk hb,k.owns h.pts hp,h.ints.keep (k.below h.jy hS),h.Mx⟩
theorem Mk.au {w' : World} (h : Mk w B b lv n a P room pv) (k : Kp (fun _=>False) w w') : Mk w' B b lv n a P room pv:=h.keep k (fun x=>x) (fun _ _ x=>x) (fun _ x=>x.elim)
theorem Mk.drewN (h : Mk w B b lv n a P room pv) (m : Nat) : Mk (w.drewN m) B b lv n a P room pv:=h.au ((Kp.refl _ _).drewN m)
theorem bu {w' : World} (k : Kp (fun _=>False) w w') (hB : B <= w.heap.size) : Below B w w':=k.below hB (fun _ x=>x.elim)
theorem Mk.set1 (h : Mk w B b lv n a P room pv) (c : Nat) : Mk (w.setCell ⟨b,1,none⟩ (.int .i64 c)) B b lv n c P room pv:=by
 have hne:=h.ne;have K : Kp (fun k=>k = b) w (w.setCell ⟨b,1,none⟩ (.int .i64 c)):=(Kp.refl _ _).setCell (by intro _;rfl) _;refine ⟨h.low,?_,K.owns h.pts (fun i e x=>hne (by rw [<- x];exact e)),h.ints.keep (K.below h.jy (fun i x=>by have:=h.low;omega)),h.Mx⟩;rw [ah _ h.blk];rfl
theorem Mk.H6 (h : Mk w B b lv n a P room pv) (c : Nat) : Mk (w.setCell ⟨b,3,none⟩ (.int .i64 c)) B b lv n a P c pv:=by
 have hne:=h.ne;have K : Kp (fun k=>k = b) w (w.setCell ⟨b,3,none⟩ (.int .i64 c)):=(Kp.refl _ _).setCell (by intro _;rfl) _;refine ⟨h.low,?_,K.owns h.pts (fun i e x=>hne (by rw [<- x];exact e)),h.ints.keep (K.below h.jy (fun i x=>by have:=h.low;omega)),h.Mx⟩;rw [ah _ h.blk];rfl
theorem Mk.wY (h : Mk w B b lv n a P room pv) (i : Nat) (v : Value) : Below B w (w.setCell ⟨b,i,none⟩ v) :=
 ((Kp.refl (fun k=>k = b) _).setCell (by intro _;rfl) _).below h.jy (fun i x=>by have:=h.low;omega)
end
section
variable (w : World) {B b : Nat} {lv : Value} {n a : Nat} {P : List (Int × Int)} {room : Nat} {pv : Value}
theorem bO (h : Mk w B b lv n a P room pv) (m : Nat) (hm1 : 1 <= m) (hm : m <= 1000) (ha : a <= 1000000) :
 Calls prog 74 #[.pointer (some ⟨b,0,none⟩),.int .i64 m] w fun x w'=>∃ r a' : Nat,x = .returned (.int .i64 r) /\ r < m /\ a' <= a + 1 /\ Mk w' B b lv n a' P room pv /\ Below B w w':=by
 have H:=hid h;have c0:=h.c0;have c1:=h.c1;have f1:=h.free 1;have Kf:=h.Mx
 rcases h.ints with ⟨⟨ao,cap,rfl⟩,rfl⟩ | ⟨g,off,cap,rfl,hg,hc⟩
 ·clear h Kf
  go_enter func74,ntmps74
  go_wp2;go_ret;exact ⟨0,a,rfl,by omega,by omega,H.out,Below.refl _ _⟩
 by_cases hn : n = 0
 ·subst hn
  clear h Kf hc
  go_enter func74,ntmps74
  go_wp2;go_ret;exact ⟨0,a,rfl,by omega,by omega,H.out,Below.refl _ _⟩
 obtain ⟨x,hx,hb1,hb2⟩:=hc (a % n) (Nat.mod_lt _ (by omega))
 have hmod : (a : Int).tmod (n : Int) = ((a % n : Nat) : Int):=by rw [Int.tmod_eq_emod_of_nonneg (by omega)];simp
 have hlt : a % n < n:=Nat.mod_lt _ (by omega)
 have hlt' : ((a % n : Nat) : Int) < (n : Int):=by omega
 generalize a % n = j at *;have E:=hid (fun k : Nat=>Cr (w.drewN k) x hb1 hb2 m hm1 hm);have hr:=Ei x hm1;generalize Bj x m = r at *
 have hn0 : ¬ ((n : Int) = 0):=by omega
 clear h hc hb1 hb2;unfold maxLen at Kf
 go_enter func74,ntmps74
 go_upto_region 3 with (fail)
 go_quiet ((go_at_call 24;exact Calls.quiet_of_same (Hid.out E _)))
 go_wp2;go_ret;rename_i k1;refine ⟨r,a + 1,rfl,hr,Nat.le_refl _,(H.out.drewN _).set1 (a + 1),?_⟩;exact (bu ((Kp.refl _ _).drewN _) H.out.jy).trans ((H.out.drewN _).wY 1 _)
end
theorem aM {P : Program} (a b c : List Int) (hc : a ++ b = c) (h : a.length + b.length <= 1000000) (w : World) : Sem.run P (Op.stringOp BinOp.add (strOfNums a) (strOfNums b)) w = .ok (.string (strOfNums c)) w:=by
 rw [<- hc];exact ez a b h w
def PO (T : List Int -> Prop) (len cnt : Nat) (w w' : World) (B b : Nat) (lv : Value) (n a : Nat) (P : List (Int × Int)) (room : Nat) (pv : Value) (x : Ending) : Prop :=
 ∃ (L : List Int) (a' : Nat),x = .returned (.string (strOfNums L)) /\ T L /\ L.length <= len /\ a' <= a + cnt /\ Mk w' B b lv n a' P room pv /\ Below B w w'
section
variable (w : World) {B b : Nat} {lv : Value} {n a : Nat} {P : List (Int × Int)} {room : Nat} {pv : Value}
theorem q_ (h : Mk w B b lv n a P room pv) (ha : a <= 1000000) :
 Calls prog 169 #[.pointer (some ⟨b,0,none⟩)] w fun x w'=>∃ r a' : Nat,x = .returned (.string (strOfNums [97 + (r : Int)])) /\ r < 4 /\ a' <= a + 1 /\ Mk w' B b lv n a' P room pv /\ Below B w w':=by
 have E:=hid (bO w h 4 (by omega) (by omega) ha);clear h
 go_enter func169,ntmps169
 go_wp2_with fail
 refine hm E ?_;rintro x w1 ⟨r,a1,rfl,hr,ha1,M1,B1⟩;have hcv:=kW w1 (97 + (r : Int));have hw8 : IntKind.wrap .u8 (97 + (r : Int)) = 97 + (r : Int):=wrap_u8 (by omega) (by omega);have K1 : Kp (fun _=>False) w1 (w1.alloc (.cells #[.int .u8 (97 + (r : Int))] 5)):=(Kp.refl _ _).alloc _;have H:=hid (ae (M1.au K1) (B1.trans (bu K1 M1.jy)));clear M1 B1 E K1;go_wp2;go_ret;exact ⟨r,a1,rfl,hr,ha1,H.out.1,H.out.2⟩
theorem oG (h : Mk w B b lv n a P room pv) (ha : a <= 900000) :
 Calls prog 121 #[.pointer (some ⟨b,0,none⟩)] w fun x w'=>PO dX 6 9 w w' B b lv n a P room pv x:=by
 have E0:=hid (bO w h 3 (by omega) (by omega) (by omega));clear h
 go_enter func121,ntmps121
 go_wp2_with fail
 refine hm E0 ?_;rintro x w1 ⟨k0,a1,rfl,hk0,ha1,M1,B1⟩;have H1:=hid (ae M1 B1);clear E0 M1 B1
 go_wp2_with fail
 go_loopw [3,4] (fun s kv wr=>∃ (L : List Int) (k a' : Nat),s = .string (strOfNums L) /\ kv = .int .i64 k /\ k <= 2 /\ L.length + 3 * k <= 6 /\ Hid (dX L /\ a' + 4 * k <= a + 9 /\ Mk wr B b lv n a' P room pv /\ Below B w wr)) (fun _ kv _=>(intOf kv).toNat)
 case atStart=>exact ⟨[],k0,a1,rfl,rfl,by omega,by simp;omega,hid ⟨.nil,by omega,H1.out.1,H1.out.2⟩⟩
 case round =>
  obtain ⟨L,k,a2,rfl,rfl,hk,hl,HG⟩:=hrel;clear H1
  by_cases hk1 : 0 < k
  ·have Kg : (0 : Int) < (k : Int):=by omega
   have ha2:=HG.out.2.1;have E1:=hid (q_ wr HG.out.2.2.1 (by omega))
   go_wp2_with fail
   refine hm E1 ?_;rintro x w3 ⟨e,a3,rfl,he,Kh,M3,B3⟩;have E2:=hid (bO w3 M3 3 (by omega) (by omega) (by omega));clear E1 M3
   go_wp2_with fail
   refine hm E2 ?_;rintro x w4 ⟨v,a4,rfl,hv,th,M4,B4⟩;have hcv:=kW w4 (120 + (v : Int));have hw8 : IntKind.wrap .u8 (120 + (v : Int)) = 120 + (v : Int):=wrap_u8 (by omega) (by omega);have K5 : Kp (fun _=>False) w4 (w4.alloc (.cells #[.int .u8 (120 + (v : Int))] 5)):=(Kp.refl _ _).alloc _;have M5:=M4.au K5;have B5:=((HG.out.2.2.2.trans B3).trans B4).trans (bu K5 M4.jy);have E3:=hid (bO _ M5 9 (by omega) (by omega) (by omega));clear E2 M4 M5 K5 B3 B4
   go_wp2_with fail
   refine hm E3 ?_;rintro x w6 ⟨d,a6,rfl,hd,My,M6,B6⟩;have E4:=hid (bO w6 M6 8 (by omega) (by omega) (by omega));clear E3 M6 hcv hw8
   go_wp2_with fail
   refine hm E4 ?_;rintro x w7 ⟨r,a7,rfl,hr,VM,M7,B7⟩;have HM:=hid (ae M7 ((B5.trans B6).trans B7));have HA:=hid HG.out.1;clear E4 M7 B7 B6 B5 HG
   have hev : bN (97 + (e : Int)) = true:=by unfold bN;simp;omega
   have OQ : fK (120 + (v : Int)) = true:=by unfold fK;simp;omega
   have hdg : eQ 48 (48 + (d : Int)) = true:=by unfold eQ;simp;omega
   have HV:=hid (ae hev (ae OQ hdg));clear hev OQ hdg
   have OR : r = 0 \/ r = 1 \/ r = 2 \/ r = 3 \/ r = 4 \/ r = 5 \/ r = 6 \/ r = 7:=by omega
   rcases OR with rfl | rfl | rfl | rfl | rfl | rfl | rfl | rfl
   ·have hd1 : ∀ w',Sem.run prog (Op.stringOp BinOp.add (strOfNums L) ⟨#[33]⟩) w' = .ok (.string (strOfNums (L ++ [33]))) w':=ez L [33] (by simp;omega)
    have hd2 : ∀ w',Sem.run prog (Op.stringOp BinOp.add (strOfNums (L ++ [33])) (strOfNums [97 + (e : Int)])) w' = .ok (.string (strOfNums (L ++ [33,97 + (e : Int)]))) w':=aM (L ++ [33]) [97 + (e : Int)] (L ++ [33,97 + (e : Int)]) (by simp) (by simp;omega);have HH:=hid (show dX (L ++ [33,97 + (e : Int)]) by exact HA.out.snoc (.ev (by simp) HV.out.1))
    go_wp2_with fail
    go_roundw
    case rel=>exact ⟨L ++ [33,97 + (e : Int)],k - 1,a7,rfl,by go_num,by omega,by simp;omega,hid ⟨HH.out,by omega,HM.out.1,HM.out.2⟩⟩
    case measure=>simp [intOf];omega
   ·have hmod : (d : Int).tmod 4 = ((d % 4 : Nat) : Int):=by rw [Int.tmod_eq_emod_of_nonneg (by omega)];simp
    have hq : d % 4 < 4:=Nat.mod_lt _ (by omega);generalize d % 4 = q at hmod hq
    have E5 : Hid (Calls prog 25 #[.int .i64 (1 + (q : Int))] w7 fun x w'=>x = .returned (.string (strOfNums [48 + (1 + (q : Int))])) /\ Kp (fun _=>False) w7 w'):=by
     have:=gH w7 (1 + q) (by omega);rw [show ((1 + q : Nat) : Int) = 1 + (q : Int) by omega] at this;exact hid this
    have hd1 : ∀ w',Sem.run prog (Op.stringOp BinOp.add (strOfNums L) ⟨#[64]⟩) w' = .ok (.string (strOfNums (L ++ [64]))) w':=ez L [64] (by simp;omega);have hd2 : ∀ w',Sem.run prog (Op.stringOp BinOp.add (strOfNums (L ++ [64])) (strOfNums [97 + (e : Int)])) w' = .ok (.string (strOfNums (L ++ [64,97 + (e : Int)]))) w':=aM (L ++ [64]) [97 + (e : Int)] (L ++ [64,97 + (e : Int)]) (by simp) (by simp;omega);have hd3 : ∀ w',Sem.run prog (Op.stringOp BinOp.add (strOfNums (L ++ [64,97 + (e : Int)])) (strOfNums [48 + (1 + (q : Int))])) w' = .ok (.string (strOfNums (L ++ [64,97 + (e : Int),48 + (1 + (q : Int))]))) w':=aM (L ++ [64,97 + (e : Int)]) [48 + (1 + (q : Int))] (L ++ [64,97 + (e : Int),48 + (1 + (q : Int))]) (by simp) (by simp;omega)
    have oH : eQ 49 (48 + (1 + (q : Int))) = true:=by unfold eQ;simp;omega
    have HH:=hid (show dX (L ++ [64,97 + (e : Int),48 + (1 + (q : Int))]) by exact HA.out.snoc (.tm HV.out.1 oH));clear oH
    go_wp2_with fail
    refine hm E5 ?_;rintro x w8 ⟨rfl,K8⟩;have Bk:=hid (ae (HM.out.1.au K8) (HM.out.2.trans (bu K8 HM.out.1.jy)));clear K8 E5
    go_wp2_with fail
    go_roundw
    case rel=>exact ⟨L ++ [64,97 + (e : Int),48 + (1 + (q : Int))],k - 1,a7,rfl,by go_num,by omega,by simp;omega,hid ⟨HH.out,by omega,Bk.out.1,Bk.out.2⟩⟩
    case measure=>simp [intOf];omega
   ·have hd1 : ∀ w',Sem.run prog (Op.stringOp BinOp.add (strOfNums L) ⟨#[126]⟩) w' = .ok (.string (strOfNums (L ++ [126]))) w':=ez L [126] (by simp;omega)
    have hd2 : ∀ w',Sem.run prog (Op.stringOp BinOp.add (strOfNums (L ++ [126])) (strOfNums [97 + (e : Int)])) w' = .ok (.string (strOfNums (L ++ [126,97 + (e : Int)]))) w':=aM (L ++ [126]) [97 + (e : Int)] (L ++ [126,97 + (e : Int)]) (by simp) (by simp;omega);have HH:=hid (show dX (L ++ [126,97 + (e : Int)]) by exact HA.out.snoc (.ev (by simp) HV.out.1))
    go_wp2_with fail
    go_roundw
    case rel=>exact ⟨L ++ [126,97 + (e : Int)],k - 1,a7,rfl,by go_num,by omega,by simp;omega,hid ⟨HH.out,by omega,HM.out.1,HM.out.2⟩⟩
    case measure=>simp [intOf];omega
   ·have E5:=hid (gH w7 d (by omega))
    have hd1 : ∀ w',Sem.run prog (Op.stringOp BinOp.add (strOfNums L) ⟨#[43]⟩) w' = .ok (.string (strOfNums (L ++ [43]))) w':=ez L [43] (by simp;omega);have hd2 : ∀ w',Sem.run prog (Op.stringOp BinOp.add (strOfNums (L ++ [43])) (strOfNums [120 + (v : Int)])) w' = .ok (.string (strOfNums (L ++ [43,120 + (v : Int)]))) w':=aM (L ++ [43]) [120 + (v : Int)] (L ++ [43,120 + (v : Int)]) (by simp) (by simp;omega);have hd3 : ∀ w',Sem.run prog (Op.stringOp BinOp.add (strOfNums (L ++ [43,120 + (v : Int)])) (strOfNums [48 + (d : Int)])) w' = .ok (.string (strOfNums (L ++ [43,120 + (v : Int),48 + (d : Int)]))) w':=aM (L ++ [43,120 + (v : Int)]) [48 + (d : Int)] (L ++ [43,120 + (v : Int),48 + (d : Int)]) (by simp) (by simp;omega);have HH:=hid (show dX (L ++ [43,120 + (v : Int),48 + (d : Int)]) by exact HA.out.snoc (.vr (by simp) HV.out.2.1 HV.out.2.2))
    go_wp2_with fail
    refine hm E5 ?_;rintro x w8 ⟨rfl,K8⟩;have Bk:=hid (ae (HM.out.1.au K8) (HM.out.2.trans (bu K8 HM.out.1.jy)));clear K8 E5
    go_wp2_with fail
    go_roundw
    case rel=>exact ⟨L ++ [43,120 + (v : Int),48 + (d : Int)],k - 1,a7,rfl,by go_num,by omega,by simp;omega,hid ⟨HH.out,by omega,Bk.out.1,Bk.out.2⟩⟩
    case measure=>simp [intOf];omega
   ·have E5:=hid (gH w7 d (by omega))
    have hd1 : ∀ w',Sem.run prog (Op.stringOp BinOp.add (strOfNums L) ⟨#[43]⟩) w' = .ok (.string (strOfNums (L ++ [43]))) w':=ez L [43] (by simp;omega);have hd2 : ∀ w',Sem.run prog (Op.stringOp BinOp.add (strOfNums (L ++ [43])) (strOfNums [120 + (v : Int)])) w' = .ok (.string (strOfNums (L ++ [43,120 + (v : Int)]))) w':=aM (L ++ [43]) [120 + (v : Int)] (L ++ [43,120 + (v : Int)]) (by simp) (by simp;omega);have hd3 : ∀ w',Sem.run prog (Op.stringOp BinOp.add (strOfNums (L ++ [43,120 + (v : Int)])) (strOfNums [48 + (d : Int)])) w' = .ok (.string (strOfNums (L ++ [43,120 + (v : Int),48 + (d : Int)]))) w':=aM (L ++ [43,120 + (v : Int)]) [48 + (d : Int)] (L ++ [43,120 + (v : Int),48 + (d : Int)]) (by simp) (by simp;omega);have HH:=hid (show dX (L ++ [43,120 + (v : Int),48 + (d : Int)]) by exact HA.out.snoc (.vr (by simp) HV.out.2.1 HV.out.2.2))
    go_wp2_with fail
    refine hm E5 ?_;rintro x w8 ⟨rfl,K8⟩;have Bk:=hid (ae (HM.out.1.au K8) (HM.out.2.trans (bu K8 HM.out.1.jy)));clear K8 E5
    go_wp2_with fail
    go_roundw
    case rel=>exact ⟨L ++ [43,120 + (v : Int),48 + (d : Int)],k - 1,a7,rfl,by go_num,by omega,by simp;omega,hid ⟨HH.out,by omega,Bk.out.1,Bk.out.2⟩⟩
    case measure=>simp [intOf];omega
   ·have E5:=hid (gH w7 d (by omega))
    have hd1 : ∀ w',Sem.run prog (Op.stringOp BinOp.add (strOfNums L) ⟨#[45]⟩) w' = .ok (.string (strOfNums (L ++ [45]))) w':=ez L [45] (by simp;omega);have hd2 : ∀ w',Sem.run prog (Op.stringOp BinOp.add (strOfNums (L ++ [45])) (strOfNums [120 + (v : Int)])) w' = .ok (.string (strOfNums (L ++ [45,120 + (v : Int)]))) w':=aM (L ++ [45]) [120 + (v : Int)] (L ++ [45,120 + (v : Int)]) (by simp) (by simp;omega);have hd3 : ∀ w',Sem.run prog (Op.stringOp BinOp.add (strOfNums (L ++ [45,120 + (v : Int)])) (strOfNums [48 + (d : Int)])) w' = .ok (.string (strOfNums (L ++ [45,120 + (v : Int),48 + (d : Int)]))) w':=aM (L ++ [45,120 + (v : Int)]) [48 + (d : Int)] (L ++ [45,120 + (v : Int),48 + (d : Int)]) (by simp) (by simp;omega);have HH:=hid (show dX (L ++ [45,120 + (v : Int),48 + (d : Int)]) by exact HA.out.snoc (.vr (by simp) HV.out.2.1 HV.out.2.2))
    go_wp2_with fail
    refine hm E5 ?_;rintro x w8 ⟨rfl,K8⟩;have Bk:=hid (ae (HM.out.1.au K8) (HM.out.2.trans (bu K8 HM.out.1.jy)));clear K8 E5
    go_wp2_with fail
    go_roundw
    case rel=>exact ⟨L ++ [45,120 + (v : Int),48 + (d : Int)],k - 1,a7,rfl,by go_num,by omega,by simp;omega,hid ⟨HH.out,by omega,Bk.out.1,Bk.out.2⟩⟩
    case measure=>simp [intOf];omega
   ·have E5:=hid (gH w7 d (by omega))
    have hd1 : ∀ w',Sem.run prog (Op.stringOp BinOp.add (strOfNums L) ⟨#[61]⟩) w' = .ok (.string (strOfNums (L ++ [61]))) w':=ez L [61] (by simp;omega);have hd2 : ∀ w',Sem.run prog (Op.stringOp BinOp.add (strOfNums (L ++ [61])) (strOfNums [120 + (v : Int)])) w' = .ok (.string (strOfNums (L ++ [61,120 + (v : Int)]))) w':=aM (L ++ [61]) [120 + (v : Int)] (L ++ [61,120 + (v : Int)]) (by simp) (by simp;omega);have hd3 : ∀ w',Sem.run prog (Op.stringOp BinOp.add (strOfNums (L ++ [61,120 + (v : Int)])) (strOfNums [48 + (d : Int)])) w' = .ok (.string (strOfNums (L ++ [61,120 + (v : Int),48 + (d : Int)]))) w':=aM (L ++ [61,120 + (v : Int)]) [48 + (d : Int)] (L ++ [61,120 + (v : Int),48 + (d : Int)]) (by simp) (by simp;omega);have HH:=hid (show dX (L ++ [61,120 + (v : Int),48 + (d : Int)]) by exact HA.out.snoc (.vr (by simp) HV.out.2.1 HV.out.2.2))
    go_wp2_with fail
    refine hm E5 ?_;rintro x w8 ⟨rfl,K8⟩;have Bk:=hid (ae (HM.out.1.au K8) (HM.out.2.trans (bu K8 HM.out.1.jy)));clear K8 E5
    go_wp2_with fail
    go_roundw
    case rel=>exact ⟨L ++ [61,120 + (v : Int),48 + (d : Int)],k - 1,a7,rfl,by go_num,by omega,by simp;omega,hid ⟨HH.out,by omega,Bk.out.1,Bk.out.2⟩⟩
    case measure=>simp [intOf];omega
   have hd1 : ∀ w',Sem.run prog (Op.stringOp BinOp.add (strOfNums L) ⟨#[35]⟩) w' = .ok (.string (strOfNums (L ++ [35]))) w':=ez L [35] (by simp;omega);have hd2 : ∀ w',Sem.run prog (Op.stringOp BinOp.add (strOfNums (L ++ [35])) (strOfNums [97 + (e : Int)])) w' = .ok (.string (strOfNums (L ++ [35,97 + (e : Int)]))) w':=aM (L ++ [35]) [97 + (e : Int)] (L ++ [35,97 + (e : Int)]) (by simp) (by simp;omega);have HH:=hid (show dX (L ++ [35,97 + (e : Int)]) by exact HA.out.snoc (.ev (by simp) HV.out.1))
   go_wp2_with fail
   go_roundw
   case rel=>exact ⟨L ++ [35,97 + (e : Int)],k - 1,a7,rfl,by go_num,by omega,by simp;omega,hid ⟨HH.out,by omega,HM.out.1,HM.out.2⟩⟩
   case measure=>simp [intOf];omega
  have Kg : ¬ (0 : Int) < (k : Int):=by omega
  go_wp2;go_ret;exact ⟨L,a2,rfl,HG.out.1,by omega,by have:=HG.out.2.1;omega,HG.out.2.2.1,HG.out.2.2.2⟩
theorem vv (h : Mk w B b lv n a P room pv) (hP : 1 <= P.length) (oJ : P.length <= 16) (ha : a <= 900000) :
 Calls prog 170 #[.pointer (some ⟨b,0,none⟩)] w fun x w'=>PO (fun L=>∃ c,L = [c] /\ Jz P.length c) 1 2 w w' B b lv n a P room pv x:=by
 have E0:=hid (bO w h 9 (by omega) (by omega) (by omega));clear h
 go_enter func170,ntmps170
 go_wp2_with fail
 refine hm E0 ?_;rintro x w1 ⟨r,a1,rfl,hr,ha1,M1,B1⟩;clear E0
 by_cases h0 : r = 0
 ·subst h0
  have H:=hid (ae M1 B1);clear M1 B1;go_wp2;go_ret;exact ⟨[46],a1,rfl,⟨_,rfl,Or.inl rfl⟩,by simp,by omega,H.out.1,H.out.2⟩
 by_cases h1 : r = 1
 ·subst h1
  have c2:=M1.c2;obtain ⟨RZ,Mz,hpv⟩:=b7 M1.pts;rw [hpv] at c2;have E1:=hid (bO w1 M1 P.length (by omega) (by omega) (by omega));clear M1 hpv
  go_wp2_with fail
  refine hm E1 ?_;rintro x w2 ⟨i,a2,rfl,hi,ha2,M2,B2⟩;have E2:=hid (kX w2 i (by omega));clear E1
  go_wp2_with fail
  refine hm E2 ?_;rintro x w3 ⟨rfl,K3⟩;have H:=hid (ae (M2.au K3) ((B1.trans B2).trans (bu K3 M2.jy)));clear E2 M2 B1 B2 K3;go_wp2;go_ret;exact ⟨[65 + (i : Int)],a2,rfl,⟨_,rfl,Or.inr (Or.inr (Or.inr ⟨by omega,by omega⟩))⟩,by simp,by omega,H.out.1,H.out.2⟩
 by_cases h2 : r = 2
 ·subst h2
  have H:=hid (ae M1 B1);clear M1 B1;go_wp2;go_ret;exact ⟨[122],a1,rfl,⟨_,rfl,Or.inr (Or.inl rfl)⟩,by simp,by omega,H.out.1,H.out.2⟩
 have h0' : ¬ (r : Int) = 0:=by omega
 have h1' : ¬ (r : Int) = 1:=by omega
 have h2' : ¬ (r : Int) = 2:=by omega
 have E1:=hid (q_ w1 M1 (by omega));clear M1 h0 h1 h2
 go_wp2_with fail
 refine hm E1 ?_;rintro x w2 ⟨e,a2,rfl,he,ha2,M2,B2⟩;have H:=hid (ae M2 (B1.trans B2));clear E1 M2 B1 B2;go_wp2;go_ret;exact ⟨[97 + (e : Int)],a2,rfl,⟨_,rfl,Or.inr (Or.inr (Or.inl ⟨by omega,by omega⟩))⟩,by simp,by omega,H.out.1,H.out.2⟩
end
section
variable (w : World) {B b : Nat} {lv : Value} {n a : Nat} {P : List (Int × Int)} {room : Nat} {pv : Value}
theorem pW (h : Mk w B b lv n a P room pv) (hP : 1 <= P.length) (oJ : P.length <= 16) (ha : a <= 800000) :
 Calls prog 122 #[.pointer (some ⟨b,0,none⟩)] w fun x w'=>PO (D8 P.length) 14 17 w w' B b lv n a P room pv x:=by
 have E0:=hid (vv w h hP oJ (by omega));clear h
 go_enter func122,ntmps122
 go_wp2_with fail
 refine hm E0 ?_;rintro x w1 ⟨L1,a1,rfl,⟨c,rfl,hc⟩,_,ha1,M1,B1⟩;have hd1 : ∀ w',Sem.run prog (Op.stringOp BinOp.add ⟨#[58]⟩ (strOfNums [c])) w' = .ok (.string (strOfNums [58,c])) w':=aM [58] [c] [58,c] rfl (by simp);have E1:=hid (bO w1 M1 3 (by omega) (by omega) (by omega));have HC:=hid hc;clear E0 M1 hc
 go_wp2_with fail
 refine hm E1 ?_;rintro x w2 ⟨g,a2,rfl,hg,ha2,M2,B2⟩;have HM:=hid (ae M2 (B1.trans B2));clear E1 hd1 M2 B1 B2
 go_upto_region 3 with (fail)
 go_cut [20] from 15 to 19 (fun q wx=>∃ q' : Bool,q = .bool q' /\ wx = w2)
 case first =>
  by_cases g0 : g = 0
  ·subst g0
   go_wp2_with fail
   go_meet
   exact ⟨_,rfl,rfl⟩
  have g0' : ¬ (g : Int) = 0:=by omega
  go_wp2_with fail
  go_meet
  exact ⟨_,rfl,rfl⟩
 case rest =>
  obtain ⟨q,rfl,rfl⟩:=hcut
  go_upto_if 20 with (fail)
  go_cut [3,5,6,7] from 21 to 42 (fun s _ _ _ wx=>∃ (G : List Int) (a' : Nat),s = .string (strOfNums (58 :: c :: G)) /\ G.length <= 4 /\ a' <= a + 6 /\ Hid (H7 G /\ Mk wx B b lv n a' P room pv /\ Below B w wx))
  case first =>
   cases q with
   | false =>
     go_wp2_with fail
     go_meet
     exact ⟨[],a2,rfl,by simp,by omega,hid ⟨.none,HM.out⟩⟩
   | true=>?_
   have E2:=hid (bO wc HM.out.1 3 (by omega) (by omega) (by omega))
   go_wp2_with fail
   refine hm E2 ?_;rintro x w3 ⟨k,a3,rfl,hk,Kh,M3,B3⟩;have E3:=hid (bO w3 M3 3 (by omega) (by omega) (by omega));clear E2 M3
   go_wp2_with fail
   refine hm E3 ?_;rintro x w4 ⟨v,a4,rfl,hv,th,M4,B4⟩;clear E3;have hcv:=kW w4 (120 + (v : Int));have hw8 : IntKind.wrap .u8 (120 + (v : Int)) = 120 + (v : Int):=wrap_u8 (by omega) (by omega);have K5 : Kp (fun _=>False) w4 (w4.alloc (.cells #[.int .u8 (120 + (v : Int))] 5)).drew:=((Kp.refl _ _).alloc _).drew;have M5:=M4.au K5;have B5:=((HM.out.2.trans B3).trans B4).trans (bu K5 M4.jy);have E4:=hid (bO _ M5 6 (by omega) (by omega) (by omega));clear M4 B3 B4 K5 M5;have h1 : ∀ w',Sem.run prog (Op.stringOp BinOp.add (strOfNums [58,c]) ⟨#[63]⟩) w' = .ok (.string (strOfNums [58,c,63])) w':=aM [58,c] [63] [58,c,63] rfl (by simp);have h2 : ∀ w',Sem.run prog (Op.stringOp BinOp.add (strOfNums [58,c,63]) (strOfNums [120 + (v : Int)])) w' = .ok (.string (strOfNums [58,c,63,120 + (v : Int)])) w':=aM [58,c,63] [120 + (v : Int)] [58,c,63,120 + (v : Int)] rfl (by simp);have h3 : ∀ w',Sem.run prog (Op.stringOp BinOp.add (strOfNums [58,c,63,120 + (v : Int)]) (strOfNums [60 + (k : Int)])) w' = .ok (.string (strOfNums [58,c,63,120 + (v : Int),60 + (k : Int)])) w':=aM [58,c,63,120 + (v : Int)] [60 + (k : Int)] [58,c,63,120 + (v : Int),60 + (k : Int)] rfl (by simp)
   have h4 : ∀ (d : Nat) w',Sem.run prog (Op.stringOp BinOp.add (strOfNums [58,c,63,120 + (v : Int),60 + (k : Int)]) (strOfNums [48 + (d : Int)])) w' = .ok (.string (strOfNums [58,c,63,120 + (v : Int),60 + (k : Int),48 + (d : Int)])) w':=fun d=>aM [58,c,63,120 + (v : Int),60 + (k : Int)] [48 + (d : Int)] [58,c,63,120 + (v : Int),60 + (k : Int),48 + (d : Int)] rfl (by simp)
   have hsl : (⟨#[60,61,62]⟩ : ByteArray).extract k (k + 1) = strOfNums [60 + (k : Int)]:=by
    have : k = 0 \/ k = 1 \/ k = 2:=by omega
    rcases this with rfl | rfl | rfl <;> rfl
   have PQ : (⟨#[60,61,62]⟩ : ByteArray).size = 3:=rfl
   have hk3 : (k : Int) + 1 <= 3:=by omega
   have hk5 : (k : Int) <= (k : Int) + 1:=by omega
   have hwk : IntKind.i64.wrap ((k : Int) + 1) = (k : Int) + 1:=by rw [IntKind.wrap_i64];omega
   go_upto_region 7 with (fail)
   clear hcv hw8;refine aB (fun _=>True) (by kernel_rfl) ?_;refine tj 0 29 (.string (strOfNums [58,c])) trivial ?_;refine tl 1 30 (.string (strOfNums [58,c,63])) rfl (fun w' _=>by simp [execOp,Act.eval,go_sem,h1]) trivial ?_;refine tj 2 31 (.string (strOfNums [120 + (v : Int)])) trivial ?_;refine tl 3 32 (.string (strOfNums [58,c,63,120 + (v : Int)])) rfl (fun w' _=>by simp [execOp,Act.eval,go_sem,h2]) trivial ?_;refine tj 4 33 (.string ⟨#[60,61,62]⟩) trivial ?_;refine tj 5 34 (.int .i64 (k : Int)) trivial ?_;refine tj 6 35 (.int .i64 (k : Int)) trivial ?_;refine tl 7 36 (.int .i64 ((k : Int) + 1)) rfl (fun w' _=>by simp [execOp,Act.eval,go_sem,hwk]) trivial ?_;refine tl 8 37 (.string (strOfNums [60 + (k : Int)])) rfl (fun w' _=>by simp [execOp,Act.eval,go_sem,hsl,PQ,hk3,hk5]) trivial ?_;refine tl 9 38 (.string (strOfNums [58,c,63,120 + (v : Int),60 + (k : Int)])) rfl (fun w' _=>by simp [execOp,Act.eval,go_sem,h3]) trivial ?_;refine tj 10 39 (.pointer (some ⟨b,0,none⟩)) trivial ?_;refine dO 11 ?_;refine cA (some 40) rfl 74 #[.pointer (some ⟨b,0,none⟩),.int .i64 6] (by simp [execOp,Act.eval,go_sem]) (fun y w'=>∃ r a' : Nat,y = .int .i64 r /\ r < 6 /\ a' <= a4 + 1 /\ Mk w' B b lv n a' P room pv /\ Below B (w4.alloc (.cells #[.int .u8 (120 + (v : Int))] 5)).drew w') (E4.out.mono fun e w' he=>?_) ?_
   ·obtain ⟨r,a',rfl,q1,q2,q3,q4⟩:=he
    exact ⟨_,rfl,r,a',rfl,q1,q2,q3,q4⟩
   rintro _ w6 ⟨d,a6,rfl,hd,My,M6,B6⟩;refine ⟨trivial,?_⟩;simp only [Act.put,pA,pB,pC];refine dO 12 ?_;refine bD (some 41) rfl 25 #[.int .i64 d] (by simp [execOp,Act.eval,go_sem]) _ (fun w'=>Kp (fun _=>False) w6 w') (gH w6 d (by omega)) ?_;intro w7 K7;refine ⟨trivial,?_⟩;simp only [Act.put,pA,pB,pC];refine tl 13 42 (.string (strOfNums [58,c,63,120 + (v : Int),60 + (k : Int),48 + (d : Int)])) rfl (fun w' _=>by simp [execOp,Act.eval,go_sem,h4 d]) trivial ?_;refine tj 14 3 (.string (strOfNums [58,c,63,120 + (v : Int),60 + (k : Int),48 + (d : Int)])) trivial ?_;refine wpAnyH_done (by kernel_rfl) (NoPanic.normal ?_) _;have hgd : H7 [63,120 + (v : Int),60 + (k : Int),48 + (d : Int)]:=.some (by unfold fK;simp;omega) (by unfold pV;simp;omega) (by unfold eQ;simp;omega);have M7:=M6.au K7;have B7:=(B5.trans B6).trans (bu K7 M6.jy)
   go_wp2_with fail
   go_meet
   exact ⟨[63,120 + (v : Int),60 + (k : Int),48 + (d : Int)],a6,rfl,by simp,by omega,hid ⟨hgd,M7,B7⟩⟩
  case rest =>
   obtain ⟨G,a5,rfl,hG,OS,HG⟩:=hcut;have E5:=hid (oG wc HG.out.2.1 (by omega))
   go_wp2_with fail
   refine hm E5 ?_;rintro x w8 ⟨A,a8,rfl,hA,OT,TM,M8,B8⟩;have HA:=hid hA;have E6:=hid (bO w8 M8 5 (by omega) (by omega) (by omega));clear E5 M8 hA
   go_wp2_with fail
   refine hm E6 ?_;rintro x w9 ⟨no,a9,rfl,hno,VN,M9,B9⟩;have c2:=M9.c2;obtain ⟨RZ,Mz,hpv⟩:=b7 M9.pts;rw [hpv] at c2;have E7:=hid (bO w9 M9 P.length (by omega) (by omega) (by omega));have PR:=hid (ae M9 ((HG.out.2.2.trans B8).trans B9));clear E6 M9 B8 B9 hpv HM;have h1 : ∀ w',Sem.run prog (Op.stringOp BinOp.add (strOfNums (58 :: c :: G)) (strOfNums A)) w' = .ok (.string (strOfNums (58 :: c :: (G ++ A)))) w':=aM (58 :: c :: G) A (58 :: c :: (G ++ A)) (by simp) (by simp;omega)
   by_cases TN : no = 0
   ·subst TN
    have h2 : ∀ w',Sem.run prog (Op.stringOp BinOp.add (strOfNums (58 :: c :: (G ++ A))) ⟨#[62,45]⟩) w' = .ok (.string (strOfNums (58 :: c :: (G ++ (A ++ [62,45]))))) w':=aM (58 :: c :: (G ++ A)) [62,45] (58 :: c :: (G ++ (A ++ [62,45]))) (by simp) (by simp;omega);clear E7;go_wp2;go_ret;exact ⟨58 :: c :: (G ++ (A ++ [62,45])),a9,rfl,.tr HC.out HG.out.1 HA.out (Or.inl rfl),by simp;omega,by omega,PR.out.1,PR.out.2⟩
   have TP : ¬ (no : Int) = 0:=by omega
   have h2 : ∀ w',Sem.run prog (Op.stringOp BinOp.add (strOfNums (58 :: c :: (G ++ A))) ⟨#[62]⟩) w' = .ok (.string (strOfNums (58 :: c :: (G ++ (A ++ [62]))))) w':=aM (58 :: c :: (G ++ A)) [62] (58 :: c :: (G ++ (A ++ [62]))) (by simp) (by simp;omega)
   go_wp2_with fail
   refine hm E7 ?_;rintro x D9 ⟨i,ql,rfl,hi,TQ,PS,B10⟩;have E8:=hid (kX D9 i (by omega));clear E7;have h3 : ∀ w',Sem.run prog (Op.stringOp BinOp.add (strOfNums (58 :: c :: (G ++ (A ++ [62])))) (strOfNums [65 + (i : Int)])) w' = .ok (.string (strOfNums (58 :: c :: (G ++ (A ++ [62,65 + (i : Int)]))))) w':=aM (58 :: c :: (G ++ (A ++ [62]))) [65 + (i : Int)] (58 :: c :: (G ++ (A ++ [62,65 + (i : Int)]))) (by simp) (by simp;omega)
   go_wp2_with fail
   refine hm E8 ?_;rintro x Ki ⟨rfl,PT⟩;have MD:=hid (ae (PS.au PT) ((PR.out.2.trans B10).trans (bu PT PS.jy)));clear E8 PS B10 PT;go_wp2;go_ret;exact ⟨58 :: c :: (G ++ (A ++ [62,65 + (i : Int)])),ql,rfl,.tr HC.out HG.out.1 HA.out (Or.inr ⟨by omega,by omega⟩),by simp;omega,by omega,MD.out.1,MD.out.2⟩
def TR (w w' : World) (B b : Nat) (lv : Value) (n a : Nat) (P : List (Int × Int)) (room : Nat) (pv : Value) (x : Ending) : Prop :=
 ∃ (L : List Int) (a' room' : Nat),x = .returned (.string (strOfNums L)) /\ mC P.length L /\ room' + L.length = room /\ a' <= a + 55 /\ Mk w' B b lv n a' P room' pv /\ Below B w w'
theorem rh (h : Mk w B b lv n a P room pv) (hP : 1 <= P.length) (oJ : P.length <= 16) (ha : a <= 700000) (hroom : room <= 1000) :
 Calls prog 76 #[.pointer (some ⟨b,0,none⟩)] w fun x w'=>TR w w' B b lv n a P room pv x:=by
 have E0:=hid (bO w h 4 (by omega) (by omega) (by omega));clear h
 go_enter func76,ntmps76
 go_wp2_with fail
 refine hm E0 ?_;rintro x w1 ⟨k0,a1,rfl,hk0,ha1,M1,B1⟩;have H1:=hid (ae M1 B1);clear E0 M1 B1
 go_wp2_with fail
 go_loopw [3,4] (fun s kv wr=>∃ (L : List Int) (k a' room' : Nat),s = .string (strOfNums L) /\ kv = .int .i64 k /\ k <= 3 /\ room' + L.length = room /\ Hid (mC P.length L /\ a' + 18 * k <= a + 55 /\ Mk wr B b lv n a' P room' pv /\ Below B w wr)) (fun _ kv _=>(intOf kv).toNat)
 case atStart=>exact ⟨[],k0,a1,room,rfl,rfl,by omega,by simp,hid ⟨.nil,by omega,H1.out.1,H1.out.2⟩⟩
 case round =>
  obtain ⟨L,k,a2,room',rfl,rfl,hk,hl,HG⟩:=hrel;clear H1
  by_cases hk1 : 0 < k
  ·have Kg : (0 : Int) < (k : Int):=by omega
   have ha2:=HG.out.2.1;have E1:=hid (bO wr HG.out.2.2.1 4 (by omega) (by omega) (by omega))
   go_wp2_with fail
   refine hm E1 ?_;rintro x w3 ⟨r,a3,rfl,hr,Kh,M3,B3⟩;clear E1
   -- what is behind the switch
   have tail : ∀ (w5 : World) (T : List Int) (a5 : Nat),T.length <= 14 -> D8 P.length T -> a5 <= a3 + 17 -> Mk w5 B b lv n a5 P room' pv -> Below B w w5 ->
    (T.length <= room' -> mC P.length (L ++ T) /\ Mk (w5.setCell ⟨b,3,none⟩ (.int .i64 ((room' : Int) - (T.length : Int)))) B b lv n a5 P (room' - T.length) pv /\ Below B w (w5.setCell ⟨b,3,none⟩ (.int .i64 ((room' : Int) - (T.length : Int))))):=by
    intro w5 T a5 h1 h2 h3 h4 h5 h6
    have e : ((room' - T.length : Nat) : Int) = (room' : Int) - (T.length : Int):=by omega
    have:=h4.H6 (room' - T.length);rw [e] at this;exact ⟨HG.out.1.snoc h2,this,h5.trans (h4.wY 3 _)⟩
   have HT:=hid tail;have HI:=hid HG.out.1;have HB:=hid (HG.out.2.2.2.trans B3);clear tail HG B3
   by_cases r0 : r = 0
   ·subst r0
    have E2:=hid (oG w3 M3 (by omega));clear M3
    go_wp2_with fail
    refine hm E2 ?_;rintro x w4 ⟨A,a4,rfl,hA,OT,th,M4,B4⟩;clear E2;have h1 : ∀ w',Sem.run prog (Op.stringOp BinOp.add ⟨#[94]⟩ (strOfNums A)) w' = .ok (.string (strOfNums (94 :: A))) w':=aM [94] A (94 :: A) rfl (by simp;omega);have h2 : ∀ w',Sem.run prog (Op.stringOp BinOp.add (strOfNums (94 :: A)) ⟨#[59]⟩) w' = .ok (.string (strOfNums (94 :: (A ++ [59])))) w':=aM (94 :: A) [59] (94 :: (A ++ [59])) (by simp) (by simp;omega);have HX : Hid ((94 :: (A ++ [59])).length <= 14 /\ D8 P.length (94 :: (A ++ [59])) /\ Mk w4 B b lv n a4 P room' pv /\ Below B w w4):=hid ⟨by simp;omega,.bl (by simp) hA,M4,HB.out.trans B4⟩;clear hA M4 B4;generalize hT : (94 :: (A ++ [59])) = T at h2 HX;clear hT;have hsz : (strOfNums T).size = (T).length:=strOfNums_size _;have c3:=HX.out.2.2.1.c3;have f3:=HX.out.2.2.1.free 3;have Ej:=HX.out.1
    by_cases hle : (T).length <= room'
    ·have Cs : (((T).length : Nat) : Int) <= (room' : Int):=by omega
     have hadd : ∀ w',Sem.run prog (Op.stringOp BinOp.add (strOfNums L) (strOfNums T)) w' = .ok (.string (strOfNums (L ++ T))) w':=ez L _ (by omega);have HF:=hid (HT.out w4 T a4 Ej HX.out.2.1 (by omega) HX.out.2.2.1 HX.out.2.2.2 hle)
     have hla : (L ++ T).length = L.length + (T).length:=by simp
     have Kj:=hid hla;clear hla
     go_wp2_with fail
     go_roundw
     case rel=>exact ⟨L ++ T,k - 1,a4,room' - (T).length,rfl,by go_num,by omega,by have:=Kj.out;omega,hid ⟨HF.out.1,by omega,HF.out.2.1,HF.out.2.2⟩⟩
     case measure=>simp [intOf];omega
    have Cs : ¬ (((T).length : Nat) : Int) <= (room' : Int):=by omega
    go_wp2_with fail
    go_roundw
    case rel=>exact ⟨L,k - 1,a4,room',rfl,by go_num,by omega,hl,hid ⟨HI.out,by omega,HX.out.2.2.1,HX.out.2.2.2⟩⟩
    case measure=>simp [intOf];omega
   by_cases r1 : r = 1
   ·subst r1
    have E2:=hid (oG w3 M3 (by omega));clear M3
    go_wp2_with fail
    refine hm E2 ?_;rintro x w4 ⟨A,a4,rfl,hA,OT,th,M4,B4⟩;clear E2;have h1 : ∀ w',Sem.run prog (Op.stringOp BinOp.add ⟨#[36]⟩ (strOfNums A)) w' = .ok (.string (strOfNums (36 :: A))) w':=aM [36] A (36 :: A) rfl (by simp;omega);have h2 : ∀ w',Sem.run prog (Op.stringOp BinOp.add (strOfNums (36 :: A)) ⟨#[59]⟩) w' = .ok (.string (strOfNums (36 :: (A ++ [59])))) w':=aM (36 :: A) [59] (36 :: (A ++ [59])) (by simp) (by simp;omega);have HX : Hid ((36 :: (A ++ [59])).length <= 14 /\ D8 P.length (36 :: (A ++ [59])) /\ Mk w4 B b lv n a4 P room' pv /\ Below B w w4):=hid ⟨by simp;omega,.bl (by simp) hA,M4,HB.out.trans B4⟩;clear hA M4 B4;generalize hT : (36 :: (A ++ [59])) = T at h2 HX;clear hT;have hsz : (strOfNums T).size = (T).length:=strOfNums_size _;have c3:=HX.out.2.2.1.c3;have f3:=HX.out.2.2.1.free 3;have Ej:=HX.out.1
    by_cases hle : (T).length <= room'
    ·have Cs : (((T).length : Nat) : Int) <= (room' : Int):=by omega
     have hadd : ∀ w',Sem.run prog (Op.stringOp BinOp.add (strOfNums L) (strOfNums T)) w' = .ok (.string (strOfNums (L ++ T))) w':=ez L _ (by omega);have HF:=hid (HT.out w4 T a4 Ej HX.out.2.1 (by omega) HX.out.2.2.1 HX.out.2.2.2 hle)
     have hla : (L ++ T).length = L.length + (T).length:=by simp
     have Kj:=hid hla;clear hla
     go_wp2_with fail
     go_roundw
     case rel=>exact ⟨L ++ T,k - 1,a4,room' - (T).length,rfl,by go_num,by omega,by have:=Kj.out;omega,hid ⟨HF.out.1,by omega,HF.out.2.1,HF.out.2.2⟩⟩
     case measure=>simp [intOf];omega
    have Cs : ¬ (((T).length : Nat) : Int) <= (room' : Int):=by omega
    go_wp2_with fail
    go_roundw
    case rel=>exact ⟨L,k - 1,a4,room',rfl,by go_num,by omega,hl,hid ⟨HI.out,by omega,HX.out.2.2.1,HX.out.2.2.2⟩⟩
    case measure=>simp [intOf];omega
   have r0' : ¬ (r : Int) = 0:=by omega
   have r1' : ¬ (r : Int) = 1:=by omega
   have E2:=hid (pW w3 M3 hP oJ (by omega));clear M3 r0 r1
   go_wp2_with fail
   refine hm E2 ?_;rintro x w4 ⟨T,a4,rfl,hA,OT,th,M4,B4⟩;clear E2;have HX : Hid (T.length <= 14 /\ D8 P.length T /\ Mk w4 B b lv n a4 P room' pv /\ Below B w w4):=hid ⟨OT,hA,M4,HB.out.trans B4⟩;clear hA M4 B4;have hsz : (strOfNums T).size = (T).length:=strOfNums_size _;have c3:=HX.out.2.2.1.c3;have f3:=HX.out.2.2.1.free 3;have Ej:=HX.out.1
   by_cases hle : (T).length <= room'
   ·have Cs : (((T).length : Nat) : Int) <= (room' : Int):=by omega
    have hadd : ∀ w',Sem.run prog (Op.stringOp BinOp.add (strOfNums L) (strOfNums T)) w' = .ok (.string (strOfNums (L ++ T))) w':=ez L _ (by omega);have HF:=hid (HT.out w4 T a4 Ej HX.out.2.1 (by omega) HX.out.2.2.1 HX.out.2.2.2 hle)
    have hla : (L ++ T).length = L.length + (T).length:=by simp
    have Kj:=hid hla;clear hla
    go_wp2_with fail
    go_roundw
    case rel=>exact ⟨L ++ T,k - 1,a4,room' - (T).length,rfl,by go_num,by omega,by have:=Kj.out;omega,hid ⟨HF.out.1,by omega,HF.out.2.1,HF.out.2.2⟩⟩
    case measure=>simp [intOf];omega
   have Cs : ¬ (((T).length : Nat) : Int) <= (room' : Int):=by omega
   go_wp2_with fail
   go_roundw
   case rel=>exact ⟨L,k - 1,a4,room',rfl,by go_num,by omega,hl,hid ⟨HI.out,by omega,HX.out.2.2.1,HX.out.2.2.2⟩⟩
   case measure=>simp [intOf];omega
  have Kg : ¬ (0 : Int) < (k : Int):=by omega
  go_wp2;go_ret;exact ⟨L,a2,room',rfl,HG.out.1,hl,by have:=HG.out.2.1;omega,HG.out.2.2.1,HG.out.2.2.2⟩
end
end Go.Proofs.YtnlbchmfcebeeaaGreat
