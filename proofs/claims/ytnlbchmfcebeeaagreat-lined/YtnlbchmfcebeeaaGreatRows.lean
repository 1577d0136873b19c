/-
  No cell of these rows narrows 'for every input' (looked for: loops, veiled, ifaces, maps, wideKeys, modest, calm, conditions, laid).
  DERIVED. THE GIVEN ROWS OF THIS SEAT. 16 by the template 'for every input the law returns true; each argument reads behind the call as it read before'; 0 by the template 'total and deterministic' (their statements: YtnlbchmfcebeeaaGreatTotals.lean).
  GIVEN WITH THE SEED: the statements are not yours to turn. If you find one false, say at which input.
  Laid BY PROGRAM, IN A SANDBOX (cutbox-rows.mjs): the forced cells as the released guide's own fill.sh prints them over the translation 1f60204323c71881… (all of the seat's roots in one cut). By AI agents, Wed Nov 11 2026. No macro, syntax, notation, axiom, sorry.
-/
import Derived.Test.YtnlbchmfcebeeaaGreatChecked
import GoSem.Claim
import GoSem.ClaimJoined
import GoSem.ClaimMapViews
import Derived.JoinedTies
import Derived.KernelRfl
namespace Go.Proofs.YtnlbchmfcebeeaaGreat
/- THE CELL 'sum', in the pinned program and in every row, IS THE sha256 OF THE DUMP (.gsa) THAT YtnlbchmfcebeeaaGreatProg.lean LOADS. Nothing in Lean hashes anything: it is a label: what it is worth is what the hold of that sum in a sandbox is worth. -/
noncomputable def Tryz.pinned : Pinned := { name := "ytnlbchmfcebeeaagreat", sum := "1f60204323c718810c966832a42384a399e540e1da33edf931bef446fa582e5a", checked := Tryz.checked }
namespace Rows
def none {H : Type} : Left H := { results := [], args := [] }

/-- 'chartlaw.Checks': WHATEVER THE INPUT: true; the input reads as it did. -/
def checksSpec : ChangeSpec := { name := "checks", fn := fun _ => fun
  | [d] => { results := [.lit (.bool true)], args := [d] }
  | _ => none }
def checksRow : OpenClaim := { program := "ytnlbchmfcebeeaagreat", sum := "1f60204323c718810c966832a42384a399e540e1da33edf931bef446fa582e5a", func := "chart/chartlaw.Checks", spec := "checks", recurses := true, apart := false }
def ChecksSaid : Prop := checksRow.holds Tryz.pinned (OpenSpec.ofChange checksSpec)

/-- ITS FALSE NEIGHBOUR: 'it returns false'. Refute it at one input. -/
def checksWrong : ChangeSpec := { name := "checks", fn := fun _ => fun
  | [d] => { results := [.lit (.bool false)], args := [d] }
  | _ => none }
def ChecksWrongFalsely : Prop := checksRow.holds Tryz.pinned (OpenSpec.ofChange checksWrong)

/-- 'chartlaw.Trees': WHATEVER THE INPUT: true; the input reads as it did. -/
def treesSpec : ChangeSpec := { name := "trees", fn := fun _ => fun
  | [d] => { results := [.lit (.bool true)], args := [d] }
  | _ => none }
def treesRow : OpenClaim := { program := "ytnlbchmfcebeeaagreat", sum := "1f60204323c718810c966832a42384a399e540e1da33edf931bef446fa582e5a", func := "chart/chartlaw.Trees", spec := "trees", recurses := true, apart := false }
def TreesSaid : Prop := treesRow.holds Tryz.pinned (OpenSpec.ofChange treesSpec)

/-- ITS FALSE NEIGHBOUR: 'it returns false'. Refute it at one input. -/
def treesWrong : ChangeSpec := { name := "trees", fn := fun _ => fun
  | [d] => { results := [.lit (.bool false)], args := [d] }
  | _ => none }
def TreesWrongFalsely : Prop := treesRow.holds Tryz.pinned (OpenSpec.ofChange treesWrong)

/-- 'chartlaw.Legals': WHATEVER THE INPUT: true; the input reads as it did. -/
def legalsSpec : ChangeSpec := { name := "legals", fn := fun _ => fun
  | [d] => { results := [.lit (.bool true)], args := [d] }
  | _ => none }
def legalsRow : OpenClaim := { program := "ytnlbchmfcebeeaagreat", sum := "1f60204323c718810c966832a42384a399e540e1da33edf931bef446fa582e5a", func := "chart/chartlaw.Legals", spec := "legals", recurses := true, apart := false }
def LegalsSaid : Prop := legalsRow.holds Tryz.pinned (OpenSpec.ofChange legalsSpec)

/-- ITS FALSE NEIGHBOUR: 'it returns false'. Refute it at one input. -/
def legalsWrong : ChangeSpec := { name := "legals", fn := fun _ => fun
  | [d] => { results := [.lit (.bool false)], args := [d] }
  | _ => none }
def LegalsWrongFalsely : Prop := legalsRow.holds Tryz.pinned (OpenSpec.ofChange legalsWrong)

/-- 'chartlaw.Starts': WHATEVER THE INPUT: true; the input reads as it did. -/
def startsSpec : ChangeSpec := { name := "starts", fn := fun _ => fun
  | [d] => { results := [.lit (.bool true)], args := [d] }
  | _ => none }
def startsRow : OpenClaim := { program := "ytnlbchmfcebeeaagreat", sum := "1f60204323c718810c966832a42384a399e540e1da33edf931bef446fa582e5a", func := "chart/chartlaw.Starts", spec := "starts", recurses := true, apart := false }
def StartsSaid : Prop := startsRow.holds Tryz.pinned (OpenSpec.ofChange startsSpec)

/-- ITS FALSE NEIGHBOUR: 'it returns false'. Refute it at one input. -/
def startsWrong : ChangeSpec := { name := "starts", fn := fun _ => fun
  | [d] => { results := [.lit (.bool false)], args := [d] }
  | _ => none }
def StartsWrongFalsely : Prop := startsRow.holds Tryz.pinned (OpenSpec.ofChange startsWrong)

/-- 'chartlaw.Fires': WHATEVER THE INPUT: true; the input reads as it did. -/
def firesSpec : ChangeSpec := { name := "fires", fn := fun _ => fun
  | [d] => { results := [.lit (.bool true)], args := [d] }
  | _ => none }
def firesRow : OpenClaim := { program := "ytnlbchmfcebeeaagreat", sum := "1f60204323c718810c966832a42384a399e540e1da33edf931bef446fa582e5a", func := "chart/chartlaw.Fires", spec := "fires", recurses := true, apart := false }
def FiresSaid : Prop := firesRow.holds Tryz.pinned (OpenSpec.ofChange firesSpec)

/-- ITS FALSE NEIGHBOUR: 'it returns false'. Refute it at one input. -/
def firesWrong : ChangeSpec := { name := "fires", fn := fun _ => fun
  | [d] => { results := [.lit (.bool false)], args := [d] }
  | _ => none }
def FiresWrongFalsely : Prop := firesRow.holds Tryz.pinned (OpenSpec.ofChange firesWrong)

/-- 'chartkeep.Back': WHATEVER THE INPUT: true; the input reads as it did. -/
def backSpec : ChangeSpec := { name := "back", fn := fun _ => fun
  | [d] => { results := [.lit (.bool true)], args := [d] }
  | _ => none }
def backRow : OpenClaim := { program := "ytnlbchmfcebeeaagreat", sum := "1f60204323c718810c966832a42384a399e540e1da33edf931bef446fa582e5a", func := "chart/chartkeep.Back", spec := "back", recurses := true, apart := false }
def BackSaid : Prop := backRow.holds Tryz.pinned (OpenSpec.ofChange backSpec)

/-- ITS FALSE NEIGHBOUR: 'it returns false'. Refute it at one input. -/
def backWrong : ChangeSpec := { name := "back", fn := fun _ => fun
  | [d] => { results := [.lit (.bool false)], args := [d] }
  | _ => none }
def BackWrongFalsely : Prop := backRow.holds Tryz.pinned (OpenSpec.ofChange backWrong)

/-- 'chartkeep.Joined': WHATEVER THE INPUT: true; the input reads as it did. -/
def joinedSpec : ChangeSpec := { name := "joined", fn := fun _ => fun
  | [d] => { results := [.lit (.bool true)], args := [d] }
  | _ => none }
def joinedRow : OpenClaim := { program := "ytnlbchmfcebeeaagreat", sum := "1f60204323c718810c966832a42384a399e540e1da33edf931bef446fa582e5a", func := "chart/chartkeep.Joined", spec := "joined", recurses := true, apart := false }
def JoinedSaid : Prop := joinedRow.holds Tryz.pinned (OpenSpec.ofChange joinedSpec)

/-- ITS FALSE NEIGHBOUR: 'it returns false'. Refute it at one input. -/
def joinedWrong : ChangeSpec := { name := "joined", fn := fun _ => fun
  | [d] => { results := [.lit (.bool false)], args := [d] }
  | _ => none }
def JoinedWrongFalsely : Prop := joinedRow.holds Tryz.pinned (OpenSpec.ofChange joinedWrong)

/-- 'chartlaw.Waits': WHATEVER THE INPUT: true; the input reads as it did. -/
def waitsSpec : ChangeSpec := { name := "waits", fn := fun _ => fun
  | [d] => { results := [.lit (.bool true)], args := [d] }
  | _ => none }
def waitsRow : OpenClaim := { program := "ytnlbchmfcebeeaagreat", sum := "1f60204323c718810c966832a42384a399e540e1da33edf931bef446fa582e5a", func := "chart/chartlaw.Waits", spec := "waits", recurses := true, apart := false }
def WaitsSaid : Prop := waitsRow.holds Tryz.pinned (OpenSpec.ofChange waitsSpec)

/-- ITS FALSE NEIGHBOUR: 'it returns false'. Refute it at one input. -/
def waitsWrong : ChangeSpec := { name := "waits", fn := fun _ => fun
  | [d] => { results := [.lit (.bool false)], args := [d] }
  | _ => none }
def WaitsWrongFalsely : Prop := waitsRow.holds Tryz.pinned (OpenSpec.ofChange waitsWrong)

/-- 'chartkeep.Timer': WHATEVER THE INPUT: true; the input reads as it did. -/
def timerSpec : ChangeSpec := { name := "timer", fn := fun _ => fun
  | [d1, d2] => { results := [.lit (.bool true)], args := [d1, d2] }
  | _ => none }
def timerRow : OpenClaim := { program := "ytnlbchmfcebeeaagreat", sum := "1f60204323c718810c966832a42384a399e540e1da33edf931bef446fa582e5a", func := "chart/chartkeep.Timer", spec := "timer", recurses := true, apart := false }
def TimerSaid : Prop := timerRow.holds Tryz.pinned (OpenSpec.ofChange timerSpec)

/-- ITS FALSE NEIGHBOUR: 'it returns false'. Refute it at one input. -/
def timerWrong : ChangeSpec := { name := "timer", fn := fun _ => fun
  | [d1, d2] => { results := [.lit (.bool false)], args := [d1, d2] }
  | _ => none }
def TimerWrongFalsely : Prop := timerRow.holds Tryz.pinned (OpenSpec.ofChange timerWrong)

/-- 'chartkeep.Sound': WHATEVER THE INPUT: true; the input reads as it did. -/
def soundSpec : ChangeSpec := { name := "sound", fn := fun _ => fun
  | [d1, d2] => { results := [.lit (.bool true)], args := [d1, d2] }
  | _ => none }
def soundRow : OpenClaim := { program := "ytnlbchmfcebeeaagreat", sum := "1f60204323c718810c966832a42384a399e540e1da33edf931bef446fa582e5a", func := "chart/chartkeep.Sound", spec := "sound", recurses := true, apart := false }
def SoundSaid : Prop := soundRow.holds Tryz.pinned (OpenSpec.ofChange soundSpec)

/-- ITS FALSE NEIGHBOUR: 'it returns false'. Refute it at one input. -/
def soundWrong : ChangeSpec := { name := "sound", fn := fun _ => fun
  | [d1, d2] => { results := [.lit (.bool false)], args := [d1, d2] }
  | _ => none }
def SoundWrongFalsely : Prop := soundRow.holds Tryz.pinned (OpenSpec.ofChange soundWrong)

/-- 'chartkeep.Deaf': WHATEVER THE INPUT: true; the input reads as it did. -/
def deafSpec : ChangeSpec := { name := "deaf", fn := fun _ => fun
  | [d1, d2, d3] => { results := [.lit (.bool true)], args := [d1, d2, d3] }
  | _ => none }
def deafRow : OpenClaim := { program := "ytnlbchmfcebeeaagreat", sum := "1f60204323c718810c966832a42384a399e540e1da33edf931bef446fa582e5a", func := "chart/chartkeep.Deaf", spec := "deaf", recurses := true, apart := false }
def DeafSaid : Prop := deafRow.holds Tryz.pinned (OpenSpec.ofChange deafSpec)

/-- ITS FALSE NEIGHBOUR: 'it returns false'. Refute it at one input. -/
def deafWrong : ChangeSpec := { name := "deaf", fn := fun _ => fun
  | [d1, d2, d3] => { results := [.lit (.bool false)], args := [d1, d2, d3] }
  | _ => none }
def DeafWrongFalsely : Prop := deafRow.holds Tryz.pinned (OpenSpec.ofChange deafWrong)

/-- 'chartkeep.Renamed': WHATEVER THE INPUT: true; the input reads as it did. -/
def renamedSpec : ChangeSpec := { name := "renamed", fn := fun _ => fun
  | [d1, d2, d3] => { results := [.lit (.bool true)], args := [d1, d2, d3] }
  | _ => none }
def renamedRow : OpenClaim := { program := "ytnlbchmfcebeeaagreat", sum := "1f60204323c718810c966832a42384a399e540e1da33edf931bef446fa582e5a", func := "chart/chartkeep.Renamed", spec := "renamed", recurses := true, apart := false }
def RenamedSaid : Prop := renamedRow.holds Tryz.pinned (OpenSpec.ofChange renamedSpec)

/-- ITS FALSE NEIGHBOUR: 'it returns false'. Refute it at one input. -/
def renamedWrong : ChangeSpec := { name := "renamed", fn := fun _ => fun
  | [d1, d2, d3] => { results := [.lit (.bool false)], args := [d1, d2, d3] }
  | _ => none }
def RenamedWrongFalsely : Prop := renamedRow.holds Tryz.pinned (OpenSpec.ofChange renamedWrong)

/-- 'chartlaw.Services': WHATEVER THE INPUT: true; the input reads as it did. -/
def servicesSpec : ChangeSpec := { name := "services", fn := fun _ => fun
  | [d] => { results := [.lit (.bool true)], args := [d] }
  | _ => none }
def servicesRow : OpenClaim := { program := "ytnlbchmfcebeeaagreat", sum := "1f60204323c718810c966832a42384a399e540e1da33edf931bef446fa582e5a", func := "chart/chartlaw.Services", spec := "services", recurses := true, apart := false }
def ServicesSaid : Prop := servicesRow.holds Tryz.pinned (OpenSpec.ofChange servicesSpec)

/-- ITS FALSE NEIGHBOUR: 'it returns false'. Refute it at one input. -/
def servicesWrong : ChangeSpec := { name := "services", fn := fun _ => fun
  | [d] => { results := [.lit (.bool false)], args := [d] }
  | _ => none }
def ServicesWrongFalsely : Prop := servicesRow.holds Tryz.pinned (OpenSpec.ofChange servicesWrong)

/-- 'chartkeep.Lined': WHATEVER THE INPUT: true; the input reads as it did. -/
def linedSpec : ChangeSpec := { name := "lined", fn := fun _ => fun
  | [d1, d2, d3] => { results := [.lit (.bool true)], args := [d1, d2, d3] }
  | _ => none }
def linedRow : OpenClaim := { program := "ytnlbchmfcebeeaagreat", sum := "1f60204323c718810c966832a42384a399e540e1da33edf931bef446fa582e5a", func := "chart/chartkeep.Lined", spec := "lined", recurses := true, apart := false }
def LinedSaid : Prop := linedRow.holds Tryz.pinned (OpenSpec.ofChange linedSpec)

/-- ITS FALSE NEIGHBOUR: 'it returns false'. Refute it at one input. -/
def linedWrong : ChangeSpec := { name := "lined", fn := fun _ => fun
  | [d1, d2, d3] => { results := [.lit (.bool false)], args := [d1, d2, d3] }
  | _ => none }
def LinedWrongFalsely : Prop := linedRow.holds Tryz.pinned (OpenSpec.ofChange linedWrong)

/-- 'chartkeep.Fair': WHATEVER THE INPUT: true; the input reads as it did. -/
def fairSpec : ChangeSpec := { name := "fair", fn := fun _ => fun
  | [d1, d2, d3] => { results := [.lit (.bool true)], args := [d1, d2, d3] }
  | _ => none }
def fairRow : OpenClaim := { program := "ytnlbchmfcebeeaagreat", sum := "1f60204323c718810c966832a42384a399e540e1da33edf931bef446fa582e5a", func := "chart/chartkeep.Fair", spec := "fair", recurses := true, apart := false }
def FairSaid : Prop := fairRow.holds Tryz.pinned (OpenSpec.ofChange fairSpec)

/-- ITS FALSE NEIGHBOUR: 'it returns false'. Refute it at one input. -/
def fairWrong : ChangeSpec := { name := "fair", fn := fun _ => fun
  | [d1, d2, d3] => { results := [.lit (.bool false)], args := [d1, d2, d3] }
  | _ => none }
def FairWrongFalsely : Prop := fairRow.holds Tryz.pinned (OpenSpec.ofChange fairWrong)

/-- 'chartlaw.All': WHATEVER THE INPUT: true; the input reads as it did. -/
def allSpec : ChangeSpec := { name := "all", fn := fun _ => fun
  | [d] => { results := [.lit (.bool true)], args := [d] }
  | _ => none }
def allRow : OpenClaim := { program := "ytnlbchmfcebeeaagreat", sum := "1f60204323c718810c966832a42384a399e540e1da33edf931bef446fa582e5a", func := "chart/chartlaw.All", spec := "all", recurses := true, apart := false }
def AllSaid : Prop := allRow.holds Tryz.pinned (OpenSpec.ofChange allSpec)

/-- ITS FALSE NEIGHBOUR: 'it returns false'. Refute it at one input. -/
def allWrong : ChangeSpec := { name := "all", fn := fun _ => fun
  | [d] => { results := [.lit (.bool false)], args := [d] }
  | _ => none }
def AllWrongFalsely : Prop := allRow.holds Tryz.pinned (OpenSpec.ofChange allWrong)

/- THE SECOND FORM. 'bulk': how many values and letters a reading holds, each counted each time it is reached (what is shared counts as often as it is met; a slice's spare places count too). A statement '..UptoSaid' is the law's where the arguments, and the package variables that the reading takes, are together of bulk at most 1048576: NARROWER than '..Said'. Prove '..Said' where nothing that the law and all that it calls make is longer than what came in: it says more and counts as full. Else prove '..UptoSaid'. A law counts once. -/
mutual
def uptoBulk {H : Type} : DataW H → Nat
  | .lit (.string bytes) => bytes.length + 1
  | .lit _ => 1
  | .nil => 1
  | .ptr d => uptoBulk d + 1
  | .slice elems spare => uptoBulkAll elems + uptoBulkAll spare + 1
  | .agg parts => uptoBulkAll parts + 1
  | .iface _ d => uptoBulk d + 1
  | .map entries => uptoBulkEntries entries + 1
  | .held _ => 1
def uptoBulkAll {H : Type} : List (DataW H) → Nat
  | [] => 0
  | d :: r => uptoBulk d + uptoBulkAll r
def uptoBulkEntries {H : Type} : List (Lit × DataW H) → Nat
  | [] => 0
  | x :: r => uptoBulkEntry x + uptoBulkEntries r
def uptoBulkEntry {H : Type} : Lit × DataW H → Nat
  | (.string bytes, d) => bytes.length + uptoBulk d + 1
  | (_, d) => uptoBulk d + 1
 end
def uptoSmall : (H : Type) → List (DataW H) → Bool := fun _ ds => decide (uptoBulkAll ds ≤ 1048576)
def OpenSpec.upto (s : _root_.Go.ChangeSpec) : _root_.Go.OpenSpec := { _root_.Go.OpenSpec.ofChange s with cond := some uptoSmall }

/-- 'chartlaw.Checks', WHERE WHAT IT READS IS OF BULK AT MOST 1048576: true; the input reads as it did. -/
def checksUptoRow : OpenClaim := { program := "ytnlbchmfcebeeaagreat", sum := "1f60204323c718810c966832a42384a399e540e1da33edf931bef446fa582e5a", func := "chart/chartlaw.Checks", spec := "checks", recurses := true, apart := false, narrowed := true }
def ChecksUptoSaid : Prop := checksUptoRow.holds Tryz.pinned (OpenSpec.upto checksSpec)

/-- 'chartlaw.Trees', WHERE WHAT IT READS IS OF BULK AT MOST 1048576: true; the input reads as it did. -/
def treesUptoRow : OpenClaim := { program := "ytnlbchmfcebeeaagreat", sum := "1f60204323c718810c966832a42384a399e540e1da33edf931bef446fa582e5a", func := "chart/chartlaw.Trees", spec := "trees", recurses := true, apart := false, narrowed := true }
def TreesUptoSaid : Prop := treesUptoRow.holds Tryz.pinned (OpenSpec.upto treesSpec)

/-- 'chartlaw.Legals', WHERE WHAT IT READS IS OF BULK AT MOST 1048576: true; the input reads as it did. -/
def legalsUptoRow : OpenClaim := { program := "ytnlbchmfcebeeaagreat", sum := "1f60204323c718810c966832a42384a399e540e1da33edf931bef446fa582e5a", func := "chart/chartlaw.Legals", spec := "legals", recurses := true, apart := false, narrowed := true }
def LegalsUptoSaid : Prop := legalsUptoRow.holds Tryz.pinned (OpenSpec.upto legalsSpec)

/-- 'chartlaw.Starts', WHERE WHAT IT READS IS OF BULK AT MOST 1048576: true; the input reads as it did. -/
def startsUptoRow : OpenClaim := { program := "ytnlbchmfcebeeaagreat", sum := "1f60204323c718810c966832a42384a399e540e1da33edf931bef446fa582e5a", func := "chart/chartlaw.Starts", spec := "starts", recurses := true, apart := false, narrowed := true }
def StartsUptoSaid : Prop := startsUptoRow.holds Tryz.pinned (OpenSpec.upto startsSpec)

/-- 'chartlaw.Fires', WHERE WHAT IT READS IS OF BULK AT MOST 1048576: true; the input reads as it did. -/
def firesUptoRow : OpenClaim := { program := "ytnlbchmfcebeeaagreat", sum := "1f60204323c718810c966832a42384a399e540e1da33edf931bef446fa582e5a", func := "chart/chartlaw.Fires", spec := "fires", recurses := true, apart := false, narrowed := true }
def FiresUptoSaid : Prop := firesUptoRow.holds Tryz.pinned (OpenSpec.upto firesSpec)

/-- 'chartkeep.Back', WHERE WHAT IT READS IS OF BULK AT MOST 1048576: true; the input reads as it did. -/
def backUptoRow : OpenClaim := { program := "ytnlbchmfcebeeaagreat", sum := "1f60204323c718810c966832a42384a399e540e1da33edf931bef446fa582e5a", func := "chart/chartkeep.Back", spec := "back", recurses := true, apart := false, narrowed := true }
def BackUptoSaid : Prop := backUptoRow.holds Tryz.pinned (OpenSpec.upto backSpec)

/-- 'chartkeep.Joined', WHERE WHAT IT READS IS OF BULK AT MOST 1048576: true; the input reads as it did. -/
def joinedUptoRow : OpenClaim := { program := "ytnlbchmfcebeeaagreat", sum := "1f60204323c718810c966832a42384a399e540e1da33edf931bef446fa582e5a", func := "chart/chartkeep.Joined", spec := "joined", recurses := true, apart := false, narrowed := true }
def JoinedUptoSaid : Prop := joinedUptoRow.holds Tryz.pinned (OpenSpec.upto joinedSpec)

/-- 'chartlaw.Waits', WHERE WHAT IT READS IS OF BULK AT MOST 1048576: true; the input reads as it did. -/
def waitsUptoRow : OpenClaim := { program := "ytnlbchmfcebeeaagreat", sum := "1f60204323c718810c966832a42384a399e540e1da33edf931bef446fa582e5a", func := "chart/chartlaw.Waits", spec := "waits", recurses := true, apart := false, narrowed := true }
def WaitsUptoSaid : Prop := waitsUptoRow.holds Tryz.pinned (OpenSpec.upto waitsSpec)

/-- 'chartkeep.Timer', WHERE WHAT IT READS IS OF BULK AT MOST 1048576: true; the input reads as it did. -/
def timerUptoRow : OpenClaim := { program := "ytnlbchmfcebeeaagreat", sum := "1f60204323c718810c966832a42384a399e540e1da33edf931bef446fa582e5a", func := "chart/chartkeep.Timer", spec := "timer", recurses := true, apart := false, narrowed := true }
def TimerUptoSaid : Prop := timerUptoRow.holds Tryz.pinned (OpenSpec.upto timerSpec)

/-- 'chartkeep.Sound', WHERE WHAT IT READS IS OF BULK AT MOST 1048576: true; the input reads as it did. -/
def soundUptoRow : OpenClaim := { program := "ytnlbchmfcebeeaagreat", sum := "1f60204323c718810c966832a42384a399e540e1da33edf931bef446fa582e5a", func := "chart/chartkeep.Sound", spec := "sound", recurses := true, apart := false, narrowed := true }
def SoundUptoSaid : Prop := soundUptoRow.holds Tryz.pinned (OpenSpec.upto soundSpec)

/-- 'chartkeep.Deaf', WHERE WHAT IT READS IS OF BULK AT MOST 1048576: true; the input reads as it did. -/
def deafUptoRow : OpenClaim := { program := "ytnlbchmfcebeeaagreat", sum := "1f60204323c718810c966832a42384a399e540e1da33edf931bef446fa582e5a", func := "chart/chartkeep.Deaf", spec := "deaf", recurses := true, apart := false, narrowed := true }
def DeafUptoSaid : Prop := deafUptoRow.holds Tryz.pinned (OpenSpec.upto deafSpec)

/-- 'chartkeep.Renamed', WHERE WHAT IT READS IS OF BULK AT MOST 1048576: true; the input reads as it did. -/
def renamedUptoRow : OpenClaim := { program := "ytnlbchmfcebeeaagreat", sum := "1f60204323c718810c966832a42384a399e540e1da33edf931bef446fa582e5a", func := "chart/chartkeep.Renamed", spec := "renamed", recurses := true, apart := false, narrowed := true }
def RenamedUptoSaid : Prop := renamedUptoRow.holds Tryz.pinned (OpenSpec.upto renamedSpec)

/-- 'chartlaw.Services', WHERE WHAT IT READS IS OF BULK AT MOST 1048576: true; the input reads as it did. -/
def servicesUptoRow : OpenClaim := { program := "ytnlbchmfcebeeaagreat", sum := "1f60204323c718810c966832a42384a399e540e1da33edf931bef446fa582e5a", func := "chart/chartlaw.Services", spec := "services", recurses := true, apart := false, narrowed := true }
def ServicesUptoSaid : Prop := servicesUptoRow.holds Tryz.pinned (OpenSpec.upto servicesSpec)

/-- 'chartkeep.Lined', WHERE WHAT IT READS IS OF BULK AT MOST 1048576: true; the input reads as it did. -/
def linedUptoRow : OpenClaim := { program := "ytnlbchmfcebeeaagreat", sum := "1f60204323c718810c966832a42384a399e540e1da33edf931bef446fa582e5a", func := "chart/chartkeep.Lined", spec := "lined", recurses := true, apart := false, narrowed := true }
def LinedUptoSaid : Prop := linedUptoRow.holds Tryz.pinned (OpenSpec.upto linedSpec)

/-- 'chartkeep.Fair', WHERE WHAT IT READS IS OF BULK AT MOST 1048576: true; the input reads as it did. -/
def fairUptoRow : OpenClaim := { program := "ytnlbchmfcebeeaagreat", sum := "1f60204323c718810c966832a42384a399e540e1da33edf931bef446fa582e5a", func := "chart/chartkeep.Fair", spec := "fair", recurses := true, apart := false, narrowed := true }
def FairUptoSaid : Prop := fairUptoRow.holds Tryz.pinned (OpenSpec.upto fairSpec)

/-- 'chartlaw.All', WHERE WHAT IT READS IS OF BULK AT MOST 1048576: true; the input reads as it did. -/
def allUptoRow : OpenClaim := { program := "ytnlbchmfcebeeaagreat", sum := "1f60204323c718810c966832a42384a399e540e1da33edf931bef446fa582e5a", func := "chart/chartlaw.All", spec := "all", recurses := true, apart := false, narrowed := true }
def AllUptoSaid : Prop := allUptoRow.holds Tryz.pinned (OpenSpec.upto allSpec)

end Rows
end Go.Proofs.YtnlbchmfcebeeaaGreat
