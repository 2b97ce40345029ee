/-
  No cell of these rows narrows 'for every input' (looked for: loops, veiled, ifaces, maps, wideKeys, modest, calm, conditions, laid).
  DERIVED. THE GIVEN ROWS OF THIS SEAT. 6 by the template 'for every input the law returns true; each argument reads behind the call as it read before'; 0 by the template 'total and deterministic' (their statements: YtgklbmhihfmagaaTotals.lean).
  GIVEN WITH THE SEED: the statements are not yours to turn. If you find one false, say at which input.
  Laid BY PROGRAM, IN A SANDBOX (cutbox-rows.mjs): the forced cells as the released guide's own fill.sh prints them over the translation b6bc8cea683a5d6a… (all of the seat's roots in one cut). By AI agents, Wed Nov 11 2026. No macro, syntax, notation, axiom, sorry.
-/
import Derived.Test.YtgklbmhihfmagaaChecked
import GoSem.Claim
import GoSem.ClaimJoined
import GoSem.ClaimMapViews
import Derived.JoinedTies
import Derived.KernelRfl
namespace Go.Proofs.Ytgklbmhihfmagaa
/- THE CELL 'sum', in the pinned program and in every row, IS THE sha256 OF THE DUMP (.gsa) THAT YtgklbmhihfmagaaProg.lean LOADS. Nothing in Lean hashes anything: it is a label: what it is worth is what the hold of that sum in a sandbox is worth. -/
noncomputable def Try.pinned : Pinned := { name := "ytgklbmhihfmagaa", sum := "b6bc8cea683a5d6a6c19252ee066d217a4380529b576a3723012104292aec051", checked := Try.checked }
namespace Rows
def none {H : Type} : Left H := { results := [], args := [] }

/-- 'telltalelaw14.BatchTells': WHATEVER THE INPUT: true; the input reads as it did. -/
def batchTellsSpec : ChangeSpec := { name := "batchTells", fn := fun _ => fun
  | [d1, d2] => { results := [.lit (.bool true)], args := [d1, d2] }
  | _ => none }
def batchTellsRow : OpenClaim := { program := "ytgklbmhihfmagaa", sum := "b6bc8cea683a5d6a6c19252ee066d217a4380529b576a3723012104292aec051", func := "telltale/telltalelaw14.BatchTells", spec := "batchTells", unfollowed := true, recurses := true, apart := false }
def BatchTellsSaid : Prop := batchTellsRow.holds Try.pinned (OpenSpec.ofChange batchTellsSpec)

/-- ITS FALSE NEIGHBOUR: 'it returns false'. Refute it at one input. -/
def batchTellsWrong : ChangeSpec := { name := "batchTells", fn := fun _ => fun
  | [d1, d2] => { results := [.lit (.bool false)], args := [d1, d2] }
  | _ => none }
def BatchTellsWrongFalsely : Prop := batchTellsRow.holds Try.pinned (OpenSpec.ofChange batchTellsWrong)

/-- 'telltalelaw14.BatchOrder': WHATEVER THE INPUT: true; the input reads as it did. -/
def batchOrderSpec : ChangeSpec := { name := "batchOrder", fn := fun _ => fun
  | [d1, d2, d3, d4] => { results := [.lit (.bool true)], args := [d1, d2, d3, d4] }
  | _ => none }
def batchOrderRow : OpenClaim := { program := "ytgklbmhihfmagaa", sum := "b6bc8cea683a5d6a6c19252ee066d217a4380529b576a3723012104292aec051", func := "telltale/telltalelaw14.BatchOrder", spec := "batchOrder", unfollowed := true, recurses := true, apart := false }
def BatchOrderSaid : Prop := batchOrderRow.holds Try.pinned (OpenSpec.ofChange batchOrderSpec)

/-- ITS FALSE NEIGHBOUR: 'it returns false'. Refute it at one input. -/
def batchOrderWrong : ChangeSpec := { name := "batchOrder", fn := fun _ => fun
  | [d1, d2, d3, d4] => { results := [.lit (.bool false)], args := [d1, d2, d3, d4] }
  | _ => none }
def BatchOrderWrongFalsely : Prop := batchOrderRow.holds Try.pinned (OpenSpec.ofChange batchOrderWrong)

/-- 'telltalelaw14.BatchAll': WHATEVER THE INPUT: true; the input reads as it did. -/
def batchAllSpec : ChangeSpec := { name := "batchAll", fn := fun _ => fun
  | [d1, d2] => { results := [.lit (.bool true)], args := [d1, d2] }
  | _ => none }
def batchAllRow : OpenClaim := { program := "ytgklbmhihfmagaa", sum := "b6bc8cea683a5d6a6c19252ee066d217a4380529b576a3723012104292aec051", func := "telltale/telltalelaw14.BatchAll", spec := "batchAll", unfollowed := true, recurses := true, apart := false }
def BatchAllSaid : Prop := batchAllRow.holds Try.pinned (OpenSpec.ofChange batchAllSpec)

/-- ITS FALSE NEIGHBOUR: 'it returns false'. Refute it at one input. -/
def batchAllWrong : ChangeSpec := { name := "batchAll", fn := fun _ => fun
  | [d1, d2] => { results := [.lit (.bool false)], args := [d1, d2] }
  | _ => none }
def BatchAllWrongFalsely : Prop := batchAllRow.holds Try.pinned (OpenSpec.ofChange batchAllWrong)

/-- 'telltalelaw14.BatchRising': WHATEVER THE INPUT: true; the input reads as it did. -/
def batchRisingSpec : ChangeSpec := { name := "batchRising", fn := fun _ => fun
  | [d1, d2] => { results := [.lit (.bool true)], args := [d1, d2] }
  | _ => none }
def batchRisingRow : OpenClaim := { program := "ytgklbmhihfmagaa", sum := "b6bc8cea683a5d6a6c19252ee066d217a4380529b576a3723012104292aec051", func := "telltale/telltalelaw14.BatchRising", spec := "batchRising", unfollowed := true, recurses := true, apart := false }
def BatchRisingSaid : Prop := batchRisingRow.holds Try.pinned (OpenSpec.ofChange batchRisingSpec)

/-- ITS FALSE NEIGHBOUR: 'it returns false'. Refute it at one input. -/
def batchRisingWrong : ChangeSpec := { name := "batchRising", fn := fun _ => fun
  | [d1, d2] => { results := [.lit (.bool false)], args := [d1, d2] }
  | _ => none }
def BatchRisingWrongFalsely : Prop := batchRisingRow.holds Try.pinned (OpenSpec.ofChange batchRisingWrong)

/-- 'telltalelaw14.BatchAgain': WHATEVER THE INPUT: true; the input reads as it did. -/
def batchAgainSpec : ChangeSpec := { name := "batchAgain", fn := fun _ => fun
  | [d1, d2, d3] => { results := [.lit (.bool true)], args := [d1, d2, d3] }
  | _ => none }
def batchAgainRow : OpenClaim := { program := "ytgklbmhihfmagaa", sum := "b6bc8cea683a5d6a6c19252ee066d217a4380529b576a3723012104292aec051", func := "telltale/telltalelaw14.BatchAgain", spec := "batchAgain", unfollowed := true, recurses := true, apart := false }
def BatchAgainSaid : Prop := batchAgainRow.holds Try.pinned (OpenSpec.ofChange batchAgainSpec)

/-- ITS FALSE NEIGHBOUR: 'it returns false'. Refute it at one input. -/
def batchAgainWrong : ChangeSpec := { name := "batchAgain", fn := fun _ => fun
  | [d1, d2, d3] => { results := [.lit (.bool false)], args := [d1, d2, d3] }
  | _ => none }
def BatchAgainWrongFalsely : Prop := batchAgainRow.holds Try.pinned (OpenSpec.ofChange batchAgainWrong)

/-- 'telltalelaw14.BatchDevices': WHATEVER THE INPUT: true; the input reads as it did. -/
def batchDevicesSpec : ChangeSpec := { name := "batchDevices", fn := fun _ => fun
  | [d1, d2, d3, d4] => { results := [.lit (.bool true)], args := [d1, d2, d3, d4] }
  | _ => none }
def batchDevicesRow : OpenClaim := { program := "ytgklbmhihfmagaa", sum := "b6bc8cea683a5d6a6c19252ee066d217a4380529b576a3723012104292aec051", func := "telltale/telltalelaw14.BatchDevices", spec := "batchDevices", unfollowed := true, recurses := true, apart := false }
def BatchDevicesSaid : Prop := batchDevicesRow.holds Try.pinned (OpenSpec.ofChange batchDevicesSpec)

/-- ITS FALSE NEIGHBOUR: 'it returns false'. Refute it at one input. -/
def batchDevicesWrong : ChangeSpec := { name := "batchDevices", fn := fun _ => fun
  | [d1, d2, d3, d4] => { results := [.lit (.bool false)], args := [d1, d2, d3, d4] }
  | _ => none }
def BatchDevicesWrongFalsely : Prop := batchDevicesRow.holds Try.pinned (OpenSpec.ofChange batchDevicesWrong)

/- THE SECOND FORM. 'bulk': how many values and letters a reading holds, each counted each time it is reached (what is shared counts as often as it is met; a slice's spare places count too). A statement '..UptoSaid' is the law's where the arguments, and the package variables that the reading takes, are together of bulk at most 1048576: NARROWER than '..Said'. Prove '..Said' where nothing that the law and all that it calls make is longer than what came in: it says more and counts as full. Else prove '..UptoSaid'. A law counts once. -/
mutual
def uptoBulk {H : Type} : DataW H → Nat
  | .lit (.string bytes) => bytes.length + 1
  | .lit _ => 1
  | .nil => 1
  | .ptr d => uptoBulk d + 1
  | .slice elems spare => uptoBulkAll elems + uptoBulkAll spare + 1
  | .agg parts => uptoBulkAll parts + 1
  | .iface _ d => uptoBulk d + 1
  | .map entries => uptoBulkEntries entries + 1
  | .held _ => 1
def uptoBulkAll {H : Type} : List (DataW H) → Nat
  | [] => 0
  | d :: r => uptoBulk d + uptoBulkAll r
def uptoBulkEntries {H : Type} : List (Lit × DataW H) → Nat
  | [] => 0
  | x :: r => uptoBulkEntry x + uptoBulkEntries r
def uptoBulkEntry {H : Type} : Lit × DataW H → Nat
  | (.string bytes, d) => bytes.length + uptoBulk d + 1
  | (_, d) => uptoBulk d + 1
 end
def uptoSmall : (H : Type) → List (DataW H) → Bool := fun _ ds => decide (uptoBulkAll ds ≤ 1048576)
def OpenSpec.upto (s : _root_.Go.ChangeSpec) : _root_.Go.OpenSpec := { _root_.Go.OpenSpec.ofChange s with cond := some uptoSmall }

/-- 'telltalelaw14.BatchTells', WHERE WHAT IT READS IS OF BULK AT MOST 1048576: true; the input reads as it did. -/
def batchTellsUptoRow : OpenClaim := { program := "ytgklbmhihfmagaa", sum := "b6bc8cea683a5d6a6c19252ee066d217a4380529b576a3723012104292aec051", func := "telltale/telltalelaw14.BatchTells", spec := "batchTells", unfollowed := true, recurses := true, apart := false, narrowed := true }
def BatchTellsUptoSaid : Prop := batchTellsUptoRow.holds Try.pinned (OpenSpec.upto batchTellsSpec)

/-- 'telltalelaw14.BatchOrder', WHERE WHAT IT READS IS OF BULK AT MOST 1048576: true; the input reads as it did. -/
def batchOrderUptoRow : OpenClaim := { program := "ytgklbmhihfmagaa", sum := "b6bc8cea683a5d6a6c19252ee066d217a4380529b576a3723012104292aec051", func := "telltale/telltalelaw14.BatchOrder", spec := "batchOrder", unfollowed := true, recurses := true, apart := false, narrowed := true }
def BatchOrderUptoSaid : Prop := batchOrderUptoRow.holds Try.pinned (OpenSpec.upto batchOrderSpec)

/-- 'telltalelaw14.BatchAll', WHERE WHAT IT READS IS OF BULK AT MOST 1048576: true; the input reads as it did. -/
def batchAllUptoRow : OpenClaim := { program := "ytgklbmhihfmagaa", sum := "b6bc8cea683a5d6a6c19252ee066d217a4380529b576a3723012104292aec051", func := "telltale/telltalelaw14.BatchAll", spec := "batchAll", unfollowed := true, recurses := true, apart := false, narrowed := true }
def BatchAllUptoSaid : Prop := batchAllUptoRow.holds Try.pinned (OpenSpec.upto batchAllSpec)

/-- 'telltalelaw14.BatchRising', WHERE WHAT IT READS IS OF BULK AT MOST 1048576: true; the input reads as it did. -/
def batchRisingUptoRow : OpenClaim := { program := "ytgklbmhihfmagaa", sum := "b6bc8cea683a5d6a6c19252ee066d217a4380529b576a3723012104292aec051", func := "telltale/telltalelaw14.BatchRising", spec := "batchRising", unfollowed := true, recurses := true, apart := false, narrowed := true }
def BatchRisingUptoSaid : Prop := batchRisingUptoRow.holds Try.pinned (OpenSpec.upto batchRisingSpec)

/-- 'telltalelaw14.BatchAgain', WHERE WHAT IT READS IS OF BULK AT MOST 1048576: true; the input reads as it did. -/
def batchAgainUptoRow : OpenClaim := { program := "ytgklbmhihfmagaa", sum := "b6bc8cea683a5d6a6c19252ee066d217a4380529b576a3723012104292aec051", func := "telltale/telltalelaw14.BatchAgain", spec := "batchAgain", unfollowed := true, recurses := true, apart := false, narrowed := true }
def BatchAgainUptoSaid : Prop := batchAgainUptoRow.holds Try.pinned (OpenSpec.upto batchAgainSpec)

/-- 'telltalelaw14.BatchDevices', WHERE WHAT IT READS IS OF BULK AT MOST 1048576: true; the input reads as it did. -/
def batchDevicesUptoRow : OpenClaim := { program := "ytgklbmhihfmagaa", sum := "b6bc8cea683a5d6a6c19252ee066d217a4380529b576a3723012104292aec051", func := "telltale/telltalelaw14.BatchDevices", spec := "batchDevices", unfollowed := true, recurses := true, apart := false, narrowed := true }
def BatchDevicesUptoSaid : Prop := batchDevicesUptoRow.holds Try.pinned (OpenSpec.upto batchDevicesSpec)

end Rows
end Go.Proofs.Ytgklbmhihfmagaa
