import Derived.Test.YtnlbchmfcebeeaaTBc
import Derived.Test.YtnlbchmfcebeeaaTBa
import Derived.Test.YtnlbchmfcebeeaaTA7
set_option maxHeartbeats 12800000
set_option maxRecDepth 100000
namespace Go.Proofs.Ytnlbchmfcebeeaa
open Go.RowKit
namespace Ch
theorem str_take (L : List Int) (m : Nat) : (strOfNums L).extract 0 m = strOfNums (L.take m):=by
 apply ByteArray.ext;simp [strOfNums,ByteArray.data_extract,List.map_take]
theorem str_drop (L : List Int) (m : Nat) : (strOfNums L).extract m L.length = strOfNums (L.drop m):=by
 apply ByteArray.ext;simp [strOfNums,ByteArray.data_extract,List.map_drop];exact List.take_of_length_le (by simp)
theorem Wr.pos {P : List (Int × Int)} {o : Option Nat} {i e : Nat} {s : List Int} (h : Wr P o i e s) (ho : o = none) : 1 ≤ s.length:=by
 induction h using Wr.ind with
 | fin _=>simp
 | his _=>simp
 | box _ _ _ _ _ _=>simp
 | nil=>cases ho
 | cons _ _ _ _ _=>cases ho
structure CutF (L : List Int) : Prop where
 ok : (read (strOfNums L)).1 = 0 ∧ (read (strOfNums L)).2.1 = 0
 pos : 1 ≤ L.length
 cut : ∀ m,m < L.length → (read (strOfNums (L.take m))).1 = 2 ∧ (read (strOfNums (L.take m))).2.1 = (m : Int)
 more : ∀ b,0 ≤ b → b < 256 → (read (strOfNums (L ++ [b]))).1 = 2 ∧ (read (strOfNums (L ++ [b]))).2.1 = (L.length : Int)
 blank : ∀ m,m < L.length → (read (strOfNums (L.take m ++ 32 :: L.drop m))).1 = 2 ∧ (read (strOfNums (L.take m ++ 32 :: L.drop m))).2.1 = (m : Int)
theorem cut_facts {P : List (Int × Int)} {L : List Int} (hP : PtOk P) (hW : Wr P none 0 P.length L) (hL : L.length ≤ 215) : CutF L:=by
 have hb:=hW.byte hP.len;have hh:=has_str hb;have hs : (strOfNums L).size = L.length:=strOfNums_size L;obtain ⟨hc,ol,hr,_⟩:=built_read hP hW hh hs.symm (by omega)
 have hpl : placeL wk0 L 0 = -1:=by
  rw [← placeR_L hh hs.symm,placeR_eq,hc];rfl
 have hft : ∀ (M : List Int) (n : Nat),(∀ x ∈ M,0 ≤ x ∧ x < 256) → M.length ≤ 240 → placeL wk0 M 0 = (n : Int) → (read (strOfNums M)).1 = 2 ∧ (read (strOfNums M)).2.1 = (n : Int):=by
  intro M n h1 h2 h3;have hz : (strOfNums M).size = M.length:=strOfNums_size M;exact read_fault (by rw [placeR_L (has_str h1) hz.symm];exact h3) (by omega)
 have hsp : ∀ m,(hml0 : m < L.length) → L = L.take m ++ L[m] :: L.drop (m + 1):=fun m hml0=>by
  rw [← List.drop_eq_getElem_cons hml0,List.take_append_drop]
 refine ⟨by rw [hr];exact ⟨rfl,rfl⟩,?_,fun m hml0=>?_,fun b h0 h1=>?_,fun m hml0=>?_⟩
 ·exact hW.pos rfl
 ·have e:=(cut_short (by rw [← hsp m hml0];exact hpl)).1
  have hl : (L.take m).length = m:=by simp;omega
  exact hft _ m (fun x hx=>hb x (List.mem_of_mem_take hx)) (by omega) (by rw [e,hl])
 ·exact hft _ _ (fun x hx=>by
   rcases List.mem_append.1 hx with y | y
   ·exact hb x y
   simp at y;omega) (by simp;omega) (cut_more hpl b)
 have e:=(cut_short (by rw [← hsp m hml0];exact hpl)).2 (L.drop m)
 have hl : (L.take m).length = m:=by simp;omega
 refine hft _ m (fun x hx=>?_) (by simp;omega) (by rw [e,hl])
 rcases List.mem_append.1 hx with y | y
 ·exact hb x (List.mem_of_mem_take y)
 rcases List.mem_cons.1 y with rfl | z
 ·omega
 exact hb x (List.mem_of_mem_drop z)
end Ch
section
variable (w : World)
theorem cut_any {lv : Value} {n : Nat} (hI : IntsR w w.heap.size lv n) (hn : n ≤ maxLen) (k more : Int) (hk1 : -9223372036854775808 ≤ k) (hk2 : k ≤ 9223372036854775807) :
 Calls Try.prog 3 #[lv,.int .i64 k,.int .i64 more] w fun x w'=>x = .returned (.bool true) ∧ Below w.heap.size w w':=by
 have E0:=hid (mbuild_any w hI hn);clear hI
 go_enter Try.func3,Try.ntmps3
 go_wp2_with fail
 refine hm E0 ?_;rintro x w1 ⟨L,P,pv,rfl,_,B1,hP,hW,hL⟩;have CF:=hid (Ch.cut_facts hP hW hL);have hpos:=CF.out.pos;have hsz : (strOfNums L).size = L.length:=strOfNums_size L;have E1:=cCheck_any w1 (strOfNums L);rw [CF.out.ok.1,CF.out.ok.2] at E1;replace E1:=hid E1;clear E0 hP hW
 go_wp2_with fail
 refine hm E1 ?_;rintro x w2 ⟨rfl,K2⟩;have B2:=B1.trans (kp0_below K2 B1.size);have E2:=hid (mpick_any w2 k hk1 hk2 L.length hpos (by omega));have hml:=Ch.pickV_lt k hpos;generalize Ch.pickV k L.length = m at hml E2;clear E1 B1 K2
 go_wp2_with fail
 refine hm E2 ?_;rintro x w3 ⟨rfl,rfl⟩;have hst:=Ch.str_take L m
 have hmi : (m : Int) ≤ (L.length : Int):=by omega
 have E3:=cCheck_any w3 (strOfNums (L.take m));rw [(CF.out.cut m hml).1,(CF.out.cut m hml).2] at E3;replace E3:=hid E3;clear E2
 go_wp2_with fail
 refine hm E3 ?_;rintro x w4 ⟨rfl,K4⟩;have B4:=B2.trans (kp0_below K4 B2.size);clear E3 B2 K4
 have hu0 : 0 ≤ IntKind.wrap .u8 more:=by unfold IntKind.wrap;simp [IntKind.bits,IntKind.signed];omega
 have hu1 : IntKind.wrap .u8 more < 256:=by unfold IntKind.wrap;simp [IntKind.bits,IntKind.signed];omega
 generalize hmw : IntKind.wrap .u8 more = mb at hu0 hu1;have hcv:=one_text w4 mb;have K5 : Kp (fun _=>False) w4 (w4.alloc (.cells #[.int .u8 mb] 5)):=(Kp.refl _ _).alloc _;have B5:=B4.trans (kp0_below K5 B4.size);have hadd : ∀ w',Sem.run Try.prog (Op.stringOp BinOp.add (strOfNums L) (strOfNums [mb])) w' = .ok (.string (strOfNums (L ++ [mb]))) w':=strL_add L [mb] (by simp;omega);have E5:=cCheck_any (w4.alloc (.cells #[.int .u8 mb] 5)) (strOfNums (L ++ [mb]));rw [(CF.out.more mb hu0 hu1).1,(CF.out.more mb hu0 hu1).2] at E5;replace E5:=hid E5;clear K5 B4
 go_wp2_with fail
 refine hm E5 ?_;rintro x w6 ⟨rfl,K6⟩;have B6:=(B5.trans (kp0_below K6 B5.size)).trans (kp0_below ((Kp.refl _ _).drew) (B5.trans (kp0_below K6 B5.size)).size);clear E5 B5 K6 hadd hcv hmw hu0 hu1;have hsd:=Ch.str_drop L m;have h1 : ∀ w',Sem.run Try.prog (Op.stringOp BinOp.add (strOfNums (L.take m)) ⟨#[32]⟩) w' = .ok (.string (strOfNums (L.take m ++ [32]))) w':=strL_add (L.take m) [32] (by simp;omega);have h2 : ∀ w',Sem.run Try.prog (Op.stringOp BinOp.add (strOfNums (L.take m ++ [32])) (strOfNums (L.drop m))) w' = .ok (.string (strOfNums (L.take m ++ 32 :: L.drop m))) w':=strL_addC (L.take m ++ [32]) (L.drop m) (L.take m ++ 32 :: L.drop m) (by simp) (by simp;omega);have E7:=cCheck_any w6.drew (strOfNums (L.take m ++ 32 :: L.drop m));rw [(CF.out.blank m hml).1,(CF.out.blank m hml).2] at E7
 go_upto_region 12 with (fail)
 refine region_begin (fun _=>True) (by kernel_rfl) ?_;refine tk 0 65 (.string (strOfNums L)) rfl (by kernel_rfl) rfl rfl (fun w' _=>by simp [execOp,Act.eval,go_sem]) trivial ?_;simp only [Act.put,pA,pB,pC];refine tk 1 66 (.int .i64 (m : Int)) rfl (by kernel_rfl) rfl rfl (fun w' _=>by simp [execOp,Act.eval,go_sem]) trivial ?_;simp only [Act.put,pA,pB,pC];refine tk 2 67 (.string (strOfNums (L.take m))) rfl (by kernel_rfl) rfl rfl (fun w' _=>by simp [execOp,Act.eval,go_sem,hst,hsz,hmi]) trivial ?_;simp only [Act.put,pA,pB,pC];refine tk 3 68 (.string (strOfNums (L.take m ++ [32]))) rfl (by kernel_rfl) rfl rfl (fun w' _=>by simp [execOp,Act.eval,go_sem,h1]) trivial ?_;simp only [Act.put,pA,pB,pC];refine tk 4 69 (.string (strOfNums L)) rfl (by kernel_rfl) rfl rfl (fun w' _=>by simp [execOp,Act.eval,go_sem]) trivial ?_;simp only [Act.put,pA,pB,pC];refine tk 5 70 (.int .i64 (m : Int)) rfl (by kernel_rfl) rfl rfl (fun w' _=>by simp [execOp,Act.eval,go_sem]) trivial ?_;simp only [Act.put,pA,pB,pC];refine tk 6 71 (.string (strOfNums (L.drop m))) rfl (by kernel_rfl) rfl rfl (fun w' _=>by simp [execOp,Act.eval,go_sem,hsd,hsz,hmi]) trivial ?_;simp only [Act.put,pA,pB,pC];refine tk 7 72 (.string (strOfNums (L.take m ++ 32 :: L.drop m))) rfl (by kernel_rfl) rfl rfl (fun w' _=>by simp [execOp,Act.eval,go_sem,h2]) trivial ?_;simp only [Act.put,pA,pB,pC];refine do_op 8 (by kernel_rfl) rfl rfl ?_;refine wp_enter (some 73) rfl 5 #[.string (strOfNums (L.take m ++ 32 :: L.drop m))] (by simp [execOp,Act.eval,go_sem]) _ (fun w'=>Kp (fun _=>False) w6.drew w') E7 ?_;intro w7 K7;refine ⟨trivial,?_⟩;simp only [Act.put,pA,pB,pC];refine tk 9 64 (.tuple #[.int .i64 2,.int .i64 (m : Int)]) rfl (by kernel_rfl) rfl rfl (fun w' _=>by simp [execOp,Act.eval,go_sem]) trivial ?_;simp only [Act.put,pA,pB,pC];refine tk 10 74 (.int .i64 2) rfl (by kernel_rfl) rfl rfl (fun w' _=>by simp [execOp,Act.eval,go_sem]) trivial ?_;simp only [Act.put,pA,pB,pC];refine tk 11 75 (.int .i64 (m : Int)) rfl (by kernel_rfl) rfl rfl (fun w' _=>by simp [execOp,Act.eval,go_sem]) trivial ?_;simp only [Act.put,pA,pB,pC];refine tk 12 9 (.int .i64 2) rfl (by kernel_rfl) rfl rfl (fun w' _=>by simp [execOp,Act.eval,go_sem]) trivial ?_;simp only [Act.put,pA,pB,pC];refine tk 13 10 (.int .i64 (m : Int)) rfl (by kernel_rfl) rfl rfl (fun w' _=>by simp [execOp,Act.eval,go_sem]) trivial ?_
 simp only [Act.put,pA,pB,pC];refine wpAnyH_done (by kernel_rfl) (NoPanic.normal ?_) _;have B7:=B6.trans (kp0_below K7 B6.size);clear E7 K7 B6 h1 h2 hsd hst;go_wp2;go_ret;exact ⟨rfl,B7⟩
end
end Go.Proofs.Ytnlbchmfcebeeaa
