import Derived.Test.YtnlbchmfcebeeaaGreatProg
import Derived.WalkKit
import Derived.WalkSpells
import Derived.Deep.Draws
import Derived.Deep.QuietTactic
import Derived.BigQuiet
import Derived.Deep.LoopGhost
import Derived.Deep.RegionLaw
import Derived.Deep.Cut
import Derived.Deep.RegionWith
import Derived.Deep.CutRange
import Derived.Deep.RegionHeld3
import Derived.Lib.AppendStr
import Derived.ProofKit
import Derived.OpenShut
import Derived.ShutString
import Derived.ChangeOld
import Derived.Below
import Derived.Deep.Slices
import Derived.ArgAppend
import Derived.Deep.AppendLies
import Derived.Laws.OwnMore
import Derived.OwnWalk
import Derived.Lib.ConvBytes
import Derived.Laws.BytesArg
import Derived.JoinedCond
set_option maxHeartbeats 12800000
set_option maxRecDepth 100000
namespace Go.Proofs.YtnlbchmfcebeeaaGreat
open Go.Proofs.Tryz
open Go.RowKit
theorem ae{a b}(x:a)(y:b):a/\b:=⟨x,y⟩
theorem ak:type_of% @heap_alloc_new:=@heap_alloc_new
theorem an:type_of% @setRow_heap:=@setRow_heap
theorem aq:type_of% @if_pos:=@if_pos
theorem au:type_of% @List.getElem?_eq_getElem:=@List.getElem?_eq_getElem
theorem ax:type_of% @if_neg:=@if_neg
theorem aA:type_of% @Nat.zero_le:=@Nat.zero_le
theorem aC:type_of% @Nat.le_refl:=@Nat.le_refl
theorem aM:type_of% @List.getElem?_eq_some_iff:=@List.getElem?_eq_some_iff
theorem aP:type_of% @List.mem_of_getElem?:=@List.mem_of_getElem?
theorem aR:type_of% @lt_of_block:=@lt_of_block
theorem aH:type_of% @Value.slice.injEq:=@Value.slice.injEq
theorem aJ:type_of% @bodyPost_ret:=@bodyPost_ret
theorem aQ:type_of% @if_true:=@if_true
theorem bf:type_of% @if_false:=@if_false
theorem bu:type_of% @Bool.false_eq_true:=@Bool.false_eq_true
theorem bz:type_of% @Nat.le_trans:=@Nat.le_trans
theorem bD:type_of% @List.getElem?_map:=@List.getElem?_map
theorem bE:type_of% @Option.some.injEq:=@Option.some.injEq
theorem bG:type_of% @wpAnyH_done:=@wpAnyH_done
theorem bH:type_of% @NoPanic.normal:=@NoPanic.normal
theorem bI:type_of% @Calls.mono:=@Calls.mono
theorem bK:type_of% @World.ownsRow.cellAt:=@World.ownsRow.cellAt
theorem cd:type_of% @World.ownsRow_nil:=@World.ownsRow_nil
theorem cr:type_of% @info_parts:=@info_parts
theorem cA:type_of% @true_and:=@true_and
theorem cE:type_of% @Below.heap_alloc:=@Below.heap_alloc
theorem cN:type_of% @setRow_other:=@setRow_other
theorem cO:type_of% @World.ownsRow.form:=@World.ownsRow.form
theorem cS:type_of% @List.mem_append:=@List.mem_append
theorem cT:type_of% @Nat.le_succ:=@Nat.le_succ
theorem dA:type_of% @List.drop_eq_nil_of_le:=@List.drop_eq_nil_of_le
theorem dB:type_of% @List.mem_cons:=@List.mem_cons
theorem dC:type_of% @strOfNums_size:=@strOfNums_size
theorem dE(n:Nat):(n:Int).toNat=n:=rfl
theorem dV:type_of% @and_true:=@and_true
theorem ei:type_of% @Addr.mk.injEq:=@Addr.mk.injEq
theorem eG:type_of% @Nat.zero_add:=@Nat.zero_add
theorem eH:type_of% @Obj.cells.injEq:=@Obj.cells.injEq
theorem eR:type_of% @List.drop_eq_getElem_cons:=@List.drop_eq_getElem_cons
theorem e_:type_of% @List.length_cons:=rfl
theorem fA:type_of% @Hid.out:=@Hid.out
theorem fB:type_of% @decide_eq_false:=@decide_eq_false
theorem fC:type_of% @Bool.true_and:=@Bool.true_and
theorem fN:type_of% @List.length_map:=@List.length_map
theorem fQ:type_of% @Bool.and_eq_true:=@Bool.and_eq_true
theorem fR:type_of% @List.mem_filter:=@List.mem_filter
theorem f_:type_of% @List.ext_getElem?:=@List.ext_getElem?
theorem gf:type_of% @decide_eq_true:=@decide_eq_true
theorem gH:type_of% @Array.all_eq_true_iff_forall_mem:=@Array.all_eq_true_iff_forall_mem
theorem gJ:type_of% @List.not_mem_nil:=@List.not_mem_nil
theorem gK:type_of% @or_false:=@or_false
theorem gL:type_of% @List.take_length:=@List.take_length
theorem gX:type_of% @List.getElem?_toArray:=@List.getElem?_toArray
theorem gY:type_of% @List.mem_map:=@List.mem_map
theorem gZ:type_of% @List.filter_append:=@List.filter_append
theorem ir:type_of% @List.getElem?_cons_succ:=rfl
theorem iu:type_of% @List.getElem?_cons_zero:=rfl
theorem iw:type_of% @congrArg:=@congrArg
theorem ix:type_of% @List.length_append:=@List.length_append
theorem iy:type_of% @List.getElem?_append_right:=@List.getElem?_append_right
theorem iz:type_of% @List.append_nil:=@List.append_nil
theorem iA:type_of% @List.take_add_one:=@List.take_add_one
theorem iO:type_of% @List.getD_eq_getElem?_getD:=@List.getD_eq_getElem?_getD
theorem jk:type_of% @wpList_append_own:=@wpList_append_own
theorem jl:type_of% @List.getElem?_of_mem:=@List.getElem?_of_mem
theorem jm:type_of% @List.range_eq_range':=@List.range_eq_range'
theorem jL:type_of% @List.append_assoc:=@List.append_assoc
theorem jM:type_of% @heap_alloc2_new:=@heap_alloc2_new
theorem jN:type_of% @ByteArray.size_append:=@ByteArray.size_append
theorem jO:type_of% @List.getElem?_set_self:=@List.getElem?_set_self
theorem jP:type_of% @List.getElem?_set_ne:=@List.getElem?_set_ne
theorem j5:type_of% @Nat.lt_or_ge:=@Nat.lt_or_ge
theorem j6:type_of% @Ne.symm:=@Ne.symm
theorem j7:type_of% @Calls.quiet_of_same:=@Calls.quiet_of_same
theorem j8:type_of% @Nat.eq_zero_or_pos:=@Nat.eq_zero_or_pos
theorem j9:type_of% @List.filter_cons:=@List.filter_cons
theorem j_:type_of% @List.length_set:=@List.length_set
theorem kN:type_of% @List.length_nil:=rfl
theorem kO:type_of% @World.cell?_of_block:=@World.cell?_of_block
theorem kP:type_of% @List.mem_toArray:=@List.mem_toArray
theorem kQ:type_of% @Sem.run_bind:=@Sem.run_bind
theorem kR{a b:Type}(x:a)w(f:a->World->Result b):(Result.ok x w).andThen f=f x w:=rfl
theorem kS(n:Nat):n+0=n:=rfl
theorem kT{a}(l:List a):[]++l=l:=rfl
theorem kU:type_of% @List.all_eq_true:=@List.all_eq_true
theorem lS:type_of% @Below.heap_setCell:=@Below.heap_setCell
theorem lT:type_of% @List.range_succ:=@List.range_succ
theorem lU:type_of% @run_convert_bytes_arg:=@run_convert_bytes_arg
theorem lV:type_of% @decide_eq_true_eq:=@decide_eq_true_eq
theorem lW:type_of% @List.mem_flatMap:=@List.mem_flatMap
theorem lX:type_of% @Nat.lt_or_eq_of_le:=@Nat.lt_or_eq_of_le
theorem lY:type_of% @Nat.le_of_lt_succ:=@Nat.le_of_lt_succ
theorem lZ:type_of% @ByteArray.ext:=@ByteArray.ext
theorem nh:type_of% @ownsRow_setCell_other:=@ownsRow_setCell_other
theorem nk:type_of% @results_none:=@results_none
theorem np{a:Type}(P:Program)w(x:a):Sem.run P (pure x) w=Result.ok x w:=rfl
theorem ns:type_of% @wpList_load_row:=@wpList_load_row
theorem nt:type_of% @cell_of_row:=@cell_of_row
theorem nu:type_of% @List.range'_succ:=@List.range'_succ
theorem oP:type_of% @World.block_lt_of_cell?:=@World.block_lt_of_cell?
theorem mx:type_of% @List.getElem?_append_left:=@List.getElem?_append_left
theorem my:type_of% @run_string_add_sum:=@run_string_add_sum
theorem mz:type_of% @Bool.or_eq_true:=@Bool.or_eq_true
theorem mA:type_of% @DataW.trod_int:=@DataW.trod_int
theorem mB:type_of% @List.length_filter_le:=@List.length_filter_le
theorem mC:type_of% @List.any_eq_true:=@List.any_eq_true
theorem mD:type_of% @Prod.mk.injEq:=@Prod.mk.injEq
theorem mE:type_of% @Bool.eq_iff_iff:=@Bool.eq_iff_iff
theorem mF:type_of% @Bool.false_and:=@Bool.false_and
theorem mG:type_of% @Bool.not_false:=@Bool.not_false
theorem mH:type_of% @Nat.lt_trans:=@Nat.lt_trans
theorem nW:type_of% @List.set_append_right:=@List.set_append_right
theorem nX:type_of% @IntKind.wrap_i64:=@IntKind.wrap_i64
theorem nY:type_of% @List.map_cons:=@List.map_cons
theorem nZ:type_of% @List.map_append:=@List.map_append
theorem n5:type_of% @Array.getElem?_setIfInBounds_ne:=@Array.getElem?_setIfInBounds_ne
theorem n_:type_of% @Nat.sub_self:=@Nat.sub_self
theorem od:type_of% @List.take_append_drop:=@List.take_append_drop
theorem oe:type_of% @Nat.add_assoc:=@Nat.add_assoc
theorem qu:type_of% @List.map_congr_left:=@List.map_congr_left
theorem qw:type_of% @List.flatMap_cons:=@List.flatMap_cons
theorem qA:type_of% @DataW.trod_string:=@DataW.trod_string
theorem qB:type_of% @Option.map_eq_some_iff:=@Option.map_eq_some_iff
theorem qC:type_of% @Array.getElem?_setIfInBounds_self_of_lt:=@Array.getElem?_setIfInBounds_self_of_lt
theorem qD:type_of% @List.filter_eq_nil_iff:=@List.filter_eq_nil_iff
theorem qE:type_of% @Option.isSome_iff_exists:=@Option.isSome_iff_exists
theorem qF:type_of% @List.flatMap_append:=@List.flatMap_append
theorem qG:type_of% @List.foldl_append:=@List.foldl_append
theorem qH:type_of% @List.Pairwise.filter:=@List.Pairwise.filter
theorem qI:type_of% @List.filter_congr:=@List.filter_congr
theorem sU:type_of% @List.countP_le_length:=@List.countP_le_length
theorem sV:type_of% @List.eq_nil_of_length_eq_zero:=@List.eq_nil_of_length_eq_zero
theorem sW:type_of% @List.mem_cons_of_mem:=@List.mem_cons_of_mem
theorem sX:type_of% @List.take_of_length_le:=@List.take_of_length_le
theorem sY:type_of% @beq_eq_false_iff_ne:=@beq_eq_false_iff_ne
theorem sZ:type_of% @ByteArray.size_extract:=@ByteArray.size_extract
theorem s6:type_of% @List.mem_or_eq_of_mem_set:=@List.mem_or_eq_of_mem_set
theorem vZ:type_of% @List.take_succ_eq_append_getElem:=@List.take_succ_eq_append_getElem
theorem v7:type_of% @Array.eq_empty_of_size_eq_zero:=@Array.eq_empty_of_size_eq_zero
