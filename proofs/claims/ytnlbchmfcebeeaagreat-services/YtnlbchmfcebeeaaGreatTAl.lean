import Derived.Test.YtnlbchmfcebeeaaGreatProg
import Derived.WalkKit
import Derived.WalkSpells
import Derived.Deep.Draws
import Derived.Deep.QuietTactic
import Derived.BigQuiet
import Derived.Deep.LoopGhost
import Derived.Deep.RegionLaw
import Derived.Deep.Cut
import Derived.Deep.RegionWith
import Derived.Deep.CutRange
import Derived.Deep.RegionHeld3
import Derived.Lib.AppendStr
import Derived.ProofKit
import Derived.OpenShut
import Derived.ShutString
import Derived.ChangeOld
import Derived.Below
import Derived.Deep.Slices
import Derived.ArgAppend
import Derived.Deep.AppendLies
import Derived.Laws.OwnMore
import Derived.OwnWalk
import Derived.Lib.ConvBytes
import Derived.Laws.BytesArg
import Derived.JoinedCond
set_option maxHeartbeats 12800000
set_option maxRecDepth 100000
namespace Go.Proofs.YtnlbchmfcebeeaaGreat
open Go.Proofs.Tryz
open Go.RowKit
theorem ae{a b:Prop}(x:a)(y:b):a/\b:=⟨x,y⟩
theorem an:type_of% @heap_alloc_new:=@heap_alloc_new
theorem aq:type_of% @if_pos:=@if_pos
theorem ar:type_of% @List.getElem?_eq_getElem:=@List.getElem?_eq_getElem
theorem ax:type_of% @setRow_heap:=@setRow_heap
theorem ay:type_of% @if_neg:=@if_neg
theorem aC:type_of% @Nat.le_refl:=@Nat.le_refl
theorem aG:type_of% @Nat.zero_le:=@Nat.zero_le
theorem aJ:type_of% @List.getElem?_eq_some_iff:=@List.getElem?_eq_some_iff
theorem aM:type_of% @List.mem_of_getElem?:=@List.mem_of_getElem?
theorem aR:type_of% @lt_of_block:=@lt_of_block
theorem aK:type_of% @Value.slice.injEq:=@Value.slice.injEq
theorem aV:type_of% @if_true:=@if_true
theorem bg:type_of% @bodyPost_ret:=@bodyPost_ret
theorem bj:type_of% @if_false:=@if_false
theorem bp:type_of% @Bool.false_eq_true:=@Bool.false_eq_true
theorem bq:type_of% @Option.some.injEq:=@Option.some.injEq
theorem bu:type_of% @Calls.mono:=@Calls.mono
theorem bw:type_of% @List.getElem?_map:=@List.getElem?_map
theorem bA:type_of% @Nat.le_trans:=@Nat.le_trans
theorem bF:type_of% @wpAnyH_done:=@wpAnyH_done
theorem bG:type_of% @NoPanic.normal:=@NoPanic.normal
theorem bP:type_of% @World.ownsRow.cellAt:=@World.ownsRow.cellAt
theorem bS:type_of% @true_and:=@true_and
theorem bT:type_of% @World.ownsRow_nil:=@World.ownsRow_nil
theorem bY:type_of% @info_parts:=@info_parts
theorem cB:type_of% @List.mem_append:=@List.mem_append
theorem cC:type_of% @strOfNums_size:=@strOfNums_size
theorem cG:type_of% @setRow_other:=@setRow_other
theorem cJ:type_of% @Nat.le_succ:=@Nat.le_succ
theorem cQ:type_of% @Below.heap_alloc:=@Below.heap_alloc
theorem cR:type_of% @World.ownsRow.form:=@World.ownsRow.form
theorem c_:type_of% @List.drop_eq_nil_of_le:=@List.drop_eq_nil_of_le
@[defeq] theorem db:type_of% @Int.toNat_natCast:=@Int.toNat_natCast
theorem dx:type_of% @and_true:=@and_true
theorem dH:type_of% @Addr.mk.injEq:=@Addr.mk.injEq
theorem dI:type_of% @Obj.cells.injEq:=@Obj.cells.injEq
theorem dP:type_of% @List.mem_cons:=@List.mem_cons
@[defeq] theorem eh:type_of% @List.length_cons:=@List.length_cons
theorem eE:type_of% @Hid.out:=@Hid.out
theorem eL:type_of% @List.ext_getElem?:=@List.ext_getElem?
theorem eZ:type_of% @List.drop_eq_getElem_cons:=@List.drop_eq_getElem_cons
theorem e_:type_of% @decide_eq_false:=@decide_eq_false
theorem fD:type_of% @List.take_length:=@List.take_length
theorem gf:type_of% @List.getElem?_toArray:=@List.getElem?_toArray
@[defeq] theorem gh:type_of% @List.getElem?_cons_succ:=@List.getElem?_cons_succ
@[defeq] theorem gq:type_of% @List.getElem?_cons_zero:=@List.getElem?_cons_zero
theorem gr:type_of% @congrArg:=@congrArg
theorem gu:type_of% @List.length_append:=@List.length_append
theorem gw:type_of% @Nat.zero_add:=@Nat.zero_add
theorem gx:type_of% @List.length_map:=@List.length_map
theorem gy:type_of% @Bool.and_eq_true:=@Bool.and_eq_true
theorem gz:type_of% @decide_eq_true:=@decide_eq_true
theorem gA:type_of% @Bool.true_and:=@Bool.true_and
theorem gN:type_of% @Array.all_eq_true_iff_forall_mem:=@Array.all_eq_true_iff_forall_mem
theorem gO:type_of% @List.take_add_one:=@List.take_add_one
theorem gP:type_of% @List.mem_filter:=@List.mem_filter
theorem hJ:type_of% @wpList_append_own:=@wpList_append_own
theorem hY:type_of% @List.not_mem_nil:=@List.not_mem_nil
theorem h_:type_of% @or_false:=@or_false
theorem ib:type_of% @List.mem_map:=@List.mem_map
theorem ic:type_of% @List.filter_append:=@List.filter_append
theorem ie:type_of% @List.getElem?_of_mem:=@List.getElem?_of_mem
theorem iJ:type_of% @ByteArray.size_append:=@ByteArray.size_append
theorem iX:type_of% @Ne.symm:=@Ne.symm
theorem iY:type_of% @List.append_assoc:=@List.append_assoc
theorem iZ:type_of% @Calls.quiet_of_same:=@Calls.quiet_of_same
theorem i_:type_of% @List.append_nil:=@List.append_nil
theorem jb:type_of% @List.length_set:=@List.length_set
theorem jA:type_of% @Nat.lt_or_ge:=@Nat.lt_or_ge
@[defeq] theorem jB:type_of% @List.length_nil:=@List.length_nil
theorem jC:type_of% @World.cell?_of_block:=@World.cell?_of_block
theorem jD:type_of% @Sem.run_bind:=@Sem.run_bind
@[defeq] theorem jE:type_of% @Result.andThen_ok:=@Result.andThen_ok
theorem jF:type_of% @List.getElem?_set_self:=@List.getElem?_set_self
@[defeq] theorem jG:type_of% @List.nil_append:=@List.nil_append
theorem jH:type_of% @Nat.eq_zero_or_pos:=@Nat.eq_zero_or_pos
theorem jI:type_of% @List.filter_cons:=@List.filter_cons
theorem kq:type_of% @Below.heap_setCell:=@Below.heap_setCell
theorem kr:type_of% @List.getElem?_append_right:=@List.getElem?_append_right
theorem ku:type_of% @List.getElem?_set_ne:=@List.getElem?_set_ne
theorem kx:type_of% @List.mem_flatMap:=@List.mem_flatMap
theorem ky:type_of% @ByteArray.ext:=@ByteArray.ext
theorem k8:type_of% @ownsRow_setCell_other:=@ownsRow_setCell_other
theorem k9:type_of% @results_none:=@results_none
@[defeq] theorem k_:type_of% @Sem.run_pure:=@Sem.run_pure
theorem ld:type_of% @run_convert_bytes_arg:=@run_convert_bytes_arg
theorem lf:type_of% @run_string_add_sum:=@run_string_add_sum
theorem lh:type_of% @cell_of_row:=@cell_of_row
theorem lZ:type_of% @List.mem_toArray:=@List.mem_toArray
theorem l0:type_of% @List.range_succ:=@List.range_succ
@[defeq] theorem l5:type_of% @Nat.add_zero:=@Nat.add_zero
theorem l7:type_of% @DataW.trod_int:=@DataW.trod_int
theorem l8:type_of% @List.length_filter_le:=@List.length_filter_le
theorem l9:type_of% @Prod.mk.injEq:=@Prod.mk.injEq
theorem l_:type_of% @Nat.lt_trans:=@Nat.lt_trans
theorem nU:type_of% @List.getElem?_append_left:=@List.getElem?_append_left
theorem nV:type_of% @heap_alloc2_new:=@heap_alloc2_new
theorem nW:type_of% @IntKind.wrap_i64:=@IntKind.wrap_i64
theorem nX:type_of% @List.any_eq_true:=@List.any_eq_true
theorem nY:type_of% @Nat.lt_or_eq_of_le:=@Nat.lt_or_eq_of_le
theorem lI:type_of% @Nat.le_of_lt_succ:=@Nat.le_of_lt_succ
theorem lJ:type_of% @List.range_eq_range':=@List.range_eq_range'
theorem lK:type_of% @List.take_append_drop:=@List.take_append_drop
theorem lL:type_of% @List.getD_eq_getElem?_getD:=@List.getD_eq_getElem?_getD
theorem nE:type_of% @World.block_lt_of_cell?:=@World.block_lt_of_cell?
theorem nF:type_of% @List.map_congr_left:=@List.map_congr_left
theorem nG:type_of% @List.map_append:=@List.map_append
theorem nH:type_of% @List.flatMap_cons:=@List.flatMap_cons
theorem nI:type_of% @DataW.trod_string:=@DataW.trod_string
theorem nJ:type_of% @Option.map_eq_some_iff:=@Option.map_eq_some_iff
theorem nK:type_of% @Array.getElem?_setIfInBounds_ne:=@Array.getElem?_setIfInBounds_ne
theorem nL:type_of% @List.flatMap_append:=@List.flatMap_append
theorem nM:type_of% @List.foldl_append:=@List.foldl_append
theorem nN:type_of% @Bool.or_eq_true:=@Bool.or_eq_true
theorem nO:type_of% @decide_eq_true_eq:=@decide_eq_true_eq
theorem pR:type_of% @List.eq_nil_of_length_eq_zero:=@List.eq_nil_of_length_eq_zero
theorem pS:type_of% @Array.getElem?_setIfInBounds_self_of_lt:=@Array.getElem?_setIfInBounds_self_of_lt
theorem pT:type_of% @List.Pairwise.filter:=@List.Pairwise.filter
theorem pU:type_of% @List.mem_cons_of_mem:=@List.mem_cons_of_mem
theorem pV:type_of% @beq_eq_false_iff_ne:=@beq_eq_false_iff_ne
theorem pW:type_of% @ByteArray.size_extract:=@ByteArray.size_extract
theorem pX:type_of% @List.mem_or_eq_of_mem_set:=@List.mem_or_eq_of_mem_set
theorem tq:type_of% @List.take_succ_eq_append_getElem:=@List.take_succ_eq_append_getElem
theorem tu:type_of% @Array.eq_empty_of_size_eq_zero:=@Array.eq_empty_of_size_eq_zero
