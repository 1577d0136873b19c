import Derived.Test.YtnlbchmfcebeeaaGreatTV1
import Derived.Test.YtnlbchmfcebeeaaGreatTV2
import Derived.Test.YtnlbchmfcebeeaaGreatTH1
import Derived.Test.YtnlbchmfcebeeaaGreatTBc
import Derived.Test.YtnlbchmfcebeeaaGreatTBa
import Derived.Test.YtnlbchmfcebeeaaGreatTXe
import Derived.Deep.RegionHeld3
set_option maxHeartbeats 12800000
set_option maxRecDepth 100000
namespace Go.Proofs.YtnlbchmfcebeeaaGreat
open Go.RowKit
namespace Ch
theorem built_rdc {P : List (Int × Int)} {L : List Int} (hP : PtOk P) (hW : Wr P none 0 P.length L) (hL : L.length ≤ 215) : ∃ ol,RdC (strOfNums L) ol ∧ RdOk P ol:=by
 have hs : (strOfNums L).size = L.length:=strOfNums_size L;obtain ⟨_,ol,hr,ho⟩:=built_read hP hW (has_str (hW.byte hP.len)) hs.symm (by omega);refine ⟨ol,rdC_of hr (fun k=>?_),ho⟩;unfold nmAt
 cases q : ol.sts[k]? with
 | none=>simp
 | some s=>?_
 have h1:=(ho.at_ k s q).2;have h2:=(List.getElem?_eq_some_iff.1 q).1;have:=hP.len;have:=ho.len;simp only;omega
end Ch
def PtB (w : World) (pg : Nat) (P : List (Int × Int)) : Prop:=∃ cur : Array Value,w.heap[pg]? = some (.cells cur 113 (0,0)) ∧ cur.toList.take (P.length * 2) = ptCells P
section
variable {w w' : World} {pg : Nat} {P : List (Int × Int)}
theorem PtB.keep {S : Nat → Prop} (h : PtB w pg P) (k : Kp S w w') (hs : ¬ S pg) : PtB w' pg P:=by
 obtain ⟨cur,h1,h2⟩:=h;exact ⟨cur,k.at_ h1 hs,h2⟩
theorem PtB.keep0 (h : PtB w pg P) (k : Kp (fun _=>False) w w') : PtB w' pg P:=h.keep k (fun x=>x)
theorem PtB.lt (h : PtB w pg P) : pg < w.heap.size:=by
 obtain ⟨cur,h1,_⟩:=h;exact lt_of_block h1
theorem PtB.at_ (h : PtB w pg P) {k : Nat} {q p : Int} (hk : P[k]? = some (q,p)) : w.cell? ⟨pg,k * 2,none⟩ = some (.int .i64 q) ∧ w.cell? ⟨pg,k * 2 + 1,none⟩ = some (.int .i64 p):=by
 obtain ⟨cur,h1,h2⟩:=h;have hlt:=(List.getElem?_eq_some_iff.1 hk).1;have hc:=ptCells_at P k q p hk;rw [← h2] at hc
 have hj : ∀ j v,j < P.length * 2 → (cur.toList.take (P.length * 2))[j]? = some v → w.cell? ⟨pg,j,none⟩ = some v:=by
  intro j v hj hv;rw [List.getElem?_take_of_lt hj] at hv;rw [World.cell?,h1];simpa using hv
 exact ⟨hj _ _ (by omega) hc.1,hj _ _ (by omega) hc.2⟩
theorem PtB.ne {sb : Nat} {a : Ch.As} (h : PtB w pg P) (hs : AsR w sb a) : pg ≠ sb:=by
 obtain ⟨cur,h1,_⟩:=h;intro e;subst e;unfold AsR at hs;rw [h1] at hs;simp only [Option.some.injEq,Obj.cells.injEq] at hs;exact absurd hs.2.1 (by decide)
theorem PtB.of {B : Nat} {pv : Value} (h : w.ownsRow B 113 2 pv P.length (ptCells P)) (hP : 1 ≤ P.length) : ∃ pg pcap,pv = .slice (some ⟨pg,0,none⟩) P.length pcap ∧ PtB w pg P:=by
 rcases h.2 with ⟨_,e2⟩ | ⟨g,cap,cur,e1,_,e3,_,_,_,e4⟩
 ·omega
 exact ⟨g,cap,e1,cur,e3,e4⟩
theorem NdR.told {g n k : Nat} {ss : List Ch.St} (h : NdR w g n k ss) {i : Nat} {s : Ch.St} (hi : i < k) (hs : ss[i]? = some s) :
 w.cell? ⟨g,i * 3,none⟩ = some (.string (strOfNums [s.name])) ∧ w.cell? ⟨g,i * 3 + 1,none⟩ = some (.int .i64 s.kind) ∧ w.cell? ⟨g,i * 3 + 2,none⟩ = some (.int .i64 s.parent):=by
 obtain ⟨C,hC,_,hx⟩:=h;have h0:=hx i s hi hs 0 (by omega);have h1:=hx i s hi hs 1 (by omega);have h2:=hx i s hi hs 2 (by omega);refine ⟨?_,?_,?_⟩
 ·rw [World.cell?,hC];exact h0
 ·rw [World.cell?,hC];exact h1
 rw [World.cell?,hC];exact h2
end
section
variable (w : World)
theorem grown_any {T : ByteArray} {ol : Ch.Ol} {P : List (Int × Int)} {pg pcap : Nat} (hR : Ch.RdC T ol) (hO : Ch.RdOk P ol) (hP : PtB w pg P) :
 Calls Tryz.prog 28 #[.string T,.slice (some ⟨pg,0,none⟩) P.length pcap] w fun x w'=>x = .returned (.bool true) ∧ Kp (fun _=>False) w w':=by
 have E0:=cTree_any w T;rw [hR.rd] at E0;simp only at E0;replace E0:=hid E0;have h16:=hR.ols.le;rw [hO.len] at h16
 go_enter Tryz.func28,Tryz.ntmps28
 go_wp2_with fail
 refine hm E0 ?_;rintro x w1 ⟨v,rfl,_,hv,K1⟩;obtain ⟨g,rfl,hg,hN⟩:=hv trivial;rw [hO.len] at hN ⊢;have HN:=hid (And.intro hN (hP.keep0 K1));have HO:=hid hO;clear E0 hv hN hP hR hO
 go_wp2_with fail
 go_loopw [7] (fun i wr=>∃ k : Nat,i = .int .i64 k ∧ k ≤ P.length ∧ Kp (fun _=>False) w1 wr) (fun i _=>P.length - (intOf i).toNat)
 case atStart=>exact ⟨0,rfl,Nat.zero_le _,Kp.refl _ _⟩
 case round =>
  obtain ⟨k,rfl,hk,KW⟩:=hrel
  by_cases hlt : k < P.length
  ·have hlt' : (k : Int) < (P.length : Int):=by omega
   obtain ⟨s,hs⟩ : ∃ s,ol.sts[k]? = some s:=⟨_,List.getElem?_eq_getElem (by rw [HO.out.len];exact hlt)⟩
   obtain ⟨hk1,hk2⟩:=HO.out.at_ k s hs;obtain ⟨z0,z1,z2⟩:=HN.out.1.told hlt hs;replace z0:=KW.cellF z0;replace z1:=KW.cellF z1;replace z2:=KW.cellF z2;rw [hk2] at z0;obtain ⟨y0,y1⟩:=HN.out.2.at_ hk1;replace y0:=KW.cellF y0;replace y1:=KW.cellF y1;have E:=hid (mletter_any wr.drew k (by omega));have HK:=hid KW;clear KW hs hk1 hk2
   go_upto_region 7 with (fail)
   go_region_held3 (fun w'=>w'.cell? ⟨g,k * 3,none⟩ = some (.string (strOfNums [65 + (k : Int)])) ∧ w'.cell? ⟨g,k * 3 + 1,none⟩ = some (.int .i64 s.kind) ∧ w'.cell? ⟨g,k * 3 + 2,none⟩ = some (.int .i64 s.parent) ∧ w'.cell? ⟨pg,k * 2,none⟩ = some (.int .i64 s.kind) ∧ w'.cell? ⟨pg,k * 2 + 1,none⟩ = some (.int .i64 s.parent)) (first | exact ⟨z0,z1,z2,y0,y1⟩ | exact HS.out) ((go_at_call 50;refine hm E ?_;rintro y w5 ⟨rfl,K5⟩;have H:=hid K5;have HS:=hid (And.intro (K5.cellF z0) (And.intro (K5.cellF z1) (And.intro (K5.cellF z2) (And.intro (K5.cellF y0) (K5.cellF y1)))));clear E K5))
   have K6:=HK.out.drew.trans H.out;clear H HS z0 z1 z2 y0 y1
   go_wp2_with fail
   go_roundw
   case rel=>exact ⟨k + 1,by go_num,by omega,K6⟩
   case measure=>simp [intOf];omega
  have hlt' : ¬ (k : Int) < (P.length : Int):=by omega
  go_wp2;go_ret;exact ⟨rfl,K1.trans KW⟩
end
namespace Ch
def onL (al : List Nat) (n : Nat) : List Bool:=(List.range n).map fun c=>decide (c ∈ al)
theorem onL_len (al : List Nat) (n : Nat) : (onL al n).length = n:=by simp [onL]
theorem onL_nil (n : Nat) : onL [] n = List.replicate n false:=by
 apply List.ext_getElem
 ·simp [onL]
 intro i h1 h2;simp [onL]
theorem onL_snoc {al : List Nat} {n i : Nat} : (onL al n).set i true = onL (al ++ [i]) n:=by
 apply List.ext_getElem
 ·simp [onL]
 intro j h1 h2;rw [List.getElem_set]
 by_cases e : i = j
 ·subst e;simp [onL]
 rw [if_neg e];simp only [onL,List.getElem_map,List.getElem_range,List.mem_append,List.mem_singleton]
 congr 1
 simp only [eq_iff_iff]
 constructor
 ·exact fun h=>.inl h
 rintro (h | h)
 ·exact h
 exact absurd h.symm e
structure Names (A : ByteArray) (al : List Nat) (n : Nat) : Prop where
 size : A.size = al.length
 at_ : ∀ (k i : Nat) (h : k < A.size),al[k]? = some i → (((A[k]'h).toNat : Nat) : Int) = 65 + (i : Int)
 lt : ∀ i ∈ al,i < n
 up : al.Pairwise (· < ·)
 le : n ≤ 16
theorem names_of {al : List Nat} {n : Nat} (h1 : ∀ i ∈ al,i < n) (h2 : al.Pairwise (· < ·)) (h3 : n ≤ 16) : Names (strOfNums (al.map fun i : Nat=>65 + (i : Int))) al n:=by
 refine ⟨by rw [strOfNums_size];simp,fun k i h hk=>?_,h1,h2,h3⟩;obtain ⟨hlt,e⟩:=List.getElem?_eq_some_iff.1 hk;rw [str_at _ _ h (by simpa using hlt)];have:=h1 i (List.mem_of_getElem? hk);simp only [List.getElem_map,e];rw [UInt8.toNat_ofNat'];omega
theorem Names.above {A : ByteArray} {al : List Nat} {n : Nat} (h : Names A al n) {k i : Nat} (hk : al[k]? = some i) {j c : Nat} (hj : al[j]? = some c) (hkj : k < j) : i < c:=by
 obtain ⟨h1,e1⟩:=List.getElem?_eq_some_iff.1 hk;obtain ⟨h2,e2⟩:=List.getElem?_eq_some_iff.1 hj;have:=List.pairwise_iff_getElem.1 h.up k j h1 h2 hkj;rw [e1,e2] at this;exact this
end Ch
section
variable (w : World)
theorem active_any {A : ByteArray} {al : List Nat} {n pg pcap : Nat} (hA : Ch.Names A al n) (hal : al.length ≤ 16) :
 Calls Tryz.prog 51 #[.string A,.slice (some ⟨pg,0,none⟩) n pcap] w fun x w'=>x = .returned (.tuple #[.slice (some ⟨w.heap.size,0,none⟩) n n,.bool true]) ∧ OnB w' w.heap.size (Ch.onL al n) ∧ Kp (fun _=>False) w w':=by
 obtain ⟨i0,hi,hz0,hz1,hz2⟩:=info_parts Tryz.infoBool;have hn16:=hA.le;have hAs:=hA.size;have HA:=hid hA;clear hA
 go_enter Tryz.func51,Tryz.ntmps51
 go_wp2_with (at_make;refine wpList_make_full w rfl (.tmp 11) (.tmp 11) 68 rfl w.heap.size 4 i0 (.bool false) 1 Tryz.underlying68 hi hz0 hz1 .i64 .i64 n n n rfl rfl rfl rfl ?c1 ?c2 (Nat.le_refl _) ?_)
 case c1=>rw [hz2];omega
 case c2=>unfold maxLen;omega
 intro w4 o4 g4;have K4 : Kp (fun _=>False) w w4:=(Kp.refl _ _).grown g4 (fun i hi _=>by simp at hi);have hon4:=OnB.made o4;rw [← Ch.onL_nil] at hon4;clear o4 g4;generalize hg : w.heap.size = g at *
 go_wp2_with fail
 go_loopw [7,8] (fun lv kv wr=>∃ (k : Nat) (last : Int),lv = .int .i64 last ∧ kv = .int .i64 k ∧ k ≤ A.size ∧ -1 ≤ last ∧ last < 16 ∧ Hid (∀ j i,k ≤ j → al[j]? = some i → last < (i : Int)) ∧ OnB wr g (Ch.onL (al.take k) n) ∧ Kp (fun i=>i = g) w4 wr) (fun _ kv _=>A.size - (intOf kv).toNat)
 case atStart=>exact ⟨0,-1,rfl,rfl,Nat.zero_le _,by omega,by omega,hid (fun j i _ _=>by omega),by simpa using hon4,Kp.refl _ _⟩
 case round =>
  obtain ⟨k,last,rfl,rfl,hk,hl1,hl2,HL,hon,KW⟩:=hrel
  have hk16 : k ≤ 16:=by omega
  by_cases hlt : k < A.size
  ·have hlt' : (k : Int) < (A.size : Int):=by omega
   obtain ⟨i,hi2⟩ : ∃ i,al[k]? = some i:=⟨_,List.getElem?_eq_getElem (by omega)⟩
   have hb:=HA.out.at_ k i hlt hi2;have hin:=HA.out.lt i (List.mem_of_getElem? hi2);have hla:=HL.out k i (Nat.le_refl _) hi2
   have h65 : 65 + (i : Int) - 65 = (i : Int):=by omega
   have hle : ¬ (i : Int) ≤ last:=by omega
   have hge : ¬ (n : Int) ≤ (i : Int):=by omega
   have hin' : (i : Int) < (n : Int):=by omega
   have hf:=hon.free i;have hc:=hon.cell (k:=i) (by rw [Ch.onL_len];exact hin);have hset:=hon.set i true;rw [Ch.onL_snoc] at hset
   have htk : al.take k ++ [i] = al.take (k + 1):=by
    obtain ⟨h1,e⟩:=List.getElem?_eq_some_iff.1 hi2;rw [← e,List.take_append_getElem h1]
   rw [htk] at hset;have K6 : Kp (fun i=>i = g) w4 (wr.setCell ⟨g,i,none⟩ (.bool true)):=KW.setCell (p:=⟨g,i,none⟩) (fun _=>rfl) _;have HU:=hid (fun j c (h1 : k + 1 ≤ j) (h2 : al[j]? = some c)=>(show (i : Int) < (c : Int) from by have:=HA.out.above hi2 h2 (by omega);omega));have HN:=hid (And.intro hset K6);clear hi2 hset K6 hon KW HL htk
   go_wp2_with fail
   go_roundw
   case rel=>exact ⟨k + 1,i,rfl,by go_num,by omega,by omega,by omega,hid HU.out,HN.out.1,HN.out.2⟩
   case measure=>simp [intOf];omega
  have hlt' : ¬ (k : Int) < (A.size : Int):=by omega
  have hfull : al.take k = al:=List.take_of_length_le (by omega);rw [hfull] at hon;have KF : Kp (fun _=>False) w wr:=K4.trans' KW (fun i hi x=>by omega);clear KW K4 hon4 HL;go_wp2;go_ret2;exact ⟨rfl,hon,KF⟩
end
end Go.Proofs.YtnlbchmfcebeeaaGreat
