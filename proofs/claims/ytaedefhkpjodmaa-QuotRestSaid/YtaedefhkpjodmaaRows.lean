/-
  No cell of these rows narrows 'for every input' (looked for: loops, veiled, ifaces, maps, wideKeys, modest, calm, conditions, laid).
  DERIVED. THE GIVEN ROWS OF THIS SEAT. 6 by the template 'for every input the law returns true; each argument reads behind the call as it read before'; 0 by the template 'total and deterministic' (their statements: YtaedefhkpjodmaaTotals.lean).
  GIVEN WITH THE SEED: the statements are not yours to turn. If you find one false, say at which input.
  Laid BY PROGRAM, IN A SANDBOX (cutbox-rows.mjs): the forced cells as the released guide's own fill.sh prints them over the translation 6581fc88c9deba4a… (all of the seat's roots in one cut). By AI agents, Wed Nov 11 2026. No macro, syntax, notation, axiom, sorry.
-/
import Derived.Test.YtaedefhkpjodmaaChecked
import GoSem.Claim
import GoSem.ClaimJoined
import GoSem.ClaimMapViews
import Derived.JoinedTies
import Derived.KernelRfl
namespace Go.Proofs.Ytaedefhkpjodmaa
/- THE CELL 'sum', in the pinned program and in every row, IS THE sha256 OF THE DUMP (.gsa) THAT YtaedefhkpjodmaaProg.lean LOADS. Nothing in Lean hashes anything: it is a label: what it is worth is what the hold of that sum in a sandbox is worth. -/
noncomputable def Try.pinned : Pinned := { name := "ytaedefhkpjodmaa", sum := "6581fc88c9deba4a62c7ee557d58e82f5ce02ad78b430baa8ca6786290bb3366", checked := Try.checked }
namespace Rows
def none {H : Type} : Left H := { results := [], args := [] }

/-- 'telltalelaw09.QuotTells': WHATEVER THE INPUT: true; the input reads as it did. -/
def quotTellsSpec : ChangeSpec := { name := "quotTells", fn := fun _ => fun
  | [d1, d2, d3, d4] => { results := [.lit (.bool true)], args := [d1, d2, d3, d4] }
  | _ => none }
def quotTellsRow : OpenClaim := { program := "ytaedefhkpjodmaa", sum := "6581fc88c9deba4a62c7ee557d58e82f5ce02ad78b430baa8ca6786290bb3366", func := "telltale/telltalelaw09.QuotTells", spec := "quotTells", unfollowed := true, recurses := true, apart := false }
def QuotTellsSaid : Prop := quotTellsRow.holds Try.pinned (OpenSpec.ofChange quotTellsSpec)

/-- ITS FALSE NEIGHBOUR: 'it returns false'. Refute it at one input. -/
def quotTellsWrong : ChangeSpec := { name := "quotTells", fn := fun _ => fun
  | [d1, d2, d3, d4] => { results := [.lit (.bool false)], args := [d1, d2, d3, d4] }
  | _ => none }
def QuotTellsWrongFalsely : Prop := quotTellsRow.holds Try.pinned (OpenSpec.ofChange quotTellsWrong)

/-- 'telltalelaw09.QuotRest': WHATEVER THE INPUT: true; the input reads as it did. -/
def quotRestSpec : ChangeSpec := { name := "quotRest", fn := fun _ => fun
  | [d1, d2] => { results := [.lit (.bool true)], args := [d1, d2] }
  | _ => none }
def quotRestRow : OpenClaim := { program := "ytaedefhkpjodmaa", sum := "6581fc88c9deba4a62c7ee557d58e82f5ce02ad78b430baa8ca6786290bb3366", func := "telltale/telltalelaw09.QuotRest", spec := "quotRest", unfollowed := true, recurses := true, apart := false }
def QuotRestSaid : Prop := quotRestRow.holds Try.pinned (OpenSpec.ofChange quotRestSpec)

/-- ITS FALSE NEIGHBOUR: 'it returns false'. Refute it at one input. -/
def quotRestWrong : ChangeSpec := { name := "quotRest", fn := fun _ => fun
  | [d1, d2] => { results := [.lit (.bool false)], args := [d1, d2] }
  | _ => none }
def QuotRestWrongFalsely : Prop := quotRestRow.holds Try.pinned (OpenSpec.ofChange quotRestWrong)

/-- 'telltalelaw09.QuotFlip': WHATEVER THE INPUT: true; the input reads as it did. -/
def quotFlipSpec : ChangeSpec := { name := "quotFlip", fn := fun _ => fun
  | [d1, d2] => { results := [.lit (.bool true)], args := [d1, d2] }
  | _ => none }
def quotFlipRow : OpenClaim := { program := "ytaedefhkpjodmaa", sum := "6581fc88c9deba4a62c7ee557d58e82f5ce02ad78b430baa8ca6786290bb3366", func := "telltale/telltalelaw09.QuotFlip", spec := "quotFlip", unfollowed := true, recurses := true, apart := false }
def QuotFlipSaid : Prop := quotFlipRow.holds Try.pinned (OpenSpec.ofChange quotFlipSpec)

/-- ITS FALSE NEIGHBOUR: 'it returns false'. Refute it at one input. -/
def quotFlipWrong : ChangeSpec := { name := "quotFlip", fn := fun _ => fun
  | [d1, d2] => { results := [.lit (.bool false)], args := [d1, d2] }
  | _ => none }
def QuotFlipWrongFalsely : Prop := quotFlipRow.holds Try.pinned (OpenSpec.ofChange quotFlipWrong)

/-- 'telltalelaw09.QuotOrder': WHATEVER THE INPUT: true; the input reads as it did. -/
def quotOrderSpec : ChangeSpec := { name := "quotOrder", fn := fun _ => fun
  | [d1, d2, d3] => { results := [.lit (.bool true)], args := [d1, d2, d3] }
  | _ => none }
def quotOrderRow : OpenClaim := { program := "ytaedefhkpjodmaa", sum := "6581fc88c9deba4a62c7ee557d58e82f5ce02ad78b430baa8ca6786290bb3366", func := "telltale/telltalelaw09.QuotOrder", spec := "quotOrder", unfollowed := true, recurses := true, apart := false }
def QuotOrderSaid : Prop := quotOrderRow.holds Try.pinned (OpenSpec.ofChange quotOrderSpec)

/-- ITS FALSE NEIGHBOUR: 'it returns false'. Refute it at one input. -/
def quotOrderWrong : ChangeSpec := { name := "quotOrder", fn := fun _ => fun
  | [d1, d2, d3] => { results := [.lit (.bool false)], args := [d1, d2, d3] }
  | _ => none }
def QuotOrderWrongFalsely : Prop := quotOrderRow.holds Try.pinned (OpenSpec.ofChange quotOrderWrong)

/-- 'telltalelaw09.QuotDrift': WHATEVER THE INPUT: true; the input reads as it did. -/
def quotDriftSpec : ChangeSpec := { name := "quotDrift", fn := fun _ => fun
  | [d1, d2, d3] => { results := [.lit (.bool true)], args := [d1, d2, d3] }
  | _ => none }
def quotDriftRow : OpenClaim := { program := "ytaedefhkpjodmaa", sum := "6581fc88c9deba4a62c7ee557d58e82f5ce02ad78b430baa8ca6786290bb3366", func := "telltale/telltalelaw09.QuotDrift", spec := "quotDrift", unfollowed := true, recurses := true, apart := false }
def QuotDriftSaid : Prop := quotDriftRow.holds Try.pinned (OpenSpec.ofChange quotDriftSpec)

/-- ITS FALSE NEIGHBOUR: 'it returns false'. Refute it at one input. -/
def quotDriftWrong : ChangeSpec := { name := "quotDrift", fn := fun _ => fun
  | [d1, d2, d3] => { results := [.lit (.bool false)], args := [d1, d2, d3] }
  | _ => none }
def QuotDriftWrongFalsely : Prop := quotDriftRow.holds Try.pinned (OpenSpec.ofChange quotDriftWrong)

/-- 'telltalelaw09.QuotMore': WHATEVER THE INPUT: true; the input reads as it did. -/
def quotMoreSpec : ChangeSpec := { name := "quotMore", fn := fun _ => fun
  | [d1, d2, d3, d4] => { results := [.lit (.bool true)], args := [d1, d2, d3, d4] }
  | _ => none }
def quotMoreRow : OpenClaim := { program := "ytaedefhkpjodmaa", sum := "6581fc88c9deba4a62c7ee557d58e82f5ce02ad78b430baa8ca6786290bb3366", func := "telltale/telltalelaw09.QuotMore", spec := "quotMore", unfollowed := true, recurses := true, apart := false }
def QuotMoreSaid : Prop := quotMoreRow.holds Try.pinned (OpenSpec.ofChange quotMoreSpec)

/-- ITS FALSE NEIGHBOUR: 'it returns false'. Refute it at one input. -/
def quotMoreWrong : ChangeSpec := { name := "quotMore", fn := fun _ => fun
  | [d1, d2, d3, d4] => { results := [.lit (.bool false)], args := [d1, d2, d3, d4] }
  | _ => none }
def QuotMoreWrongFalsely : Prop := quotMoreRow.holds Try.pinned (OpenSpec.ofChange quotMoreWrong)

/- THE SECOND FORM. 'bulk': how many values and letters a reading holds, each counted each time it is reached (what is shared counts as often as it is met; a slice's spare places count too). A statement '..UptoSaid' is the law's where the arguments, and the package variables that the reading takes, are together of bulk at most 1048576: NARROWER than '..Said'. Prove '..Said' where nothing that the law and all that it calls make is longer than what came in: it says more and counts as full. Else prove '..UptoSaid'. A law counts once. -/
mutual
def uptoBulk {H : Type} : DataW H → Nat
  | .lit (.string bytes) => bytes.length + 1
  | .lit _ => 1
  | .nil => 1
  | .ptr d => uptoBulk d + 1
  | .slice elems spare => uptoBulkAll elems + uptoBulkAll spare + 1
  | .agg parts => uptoBulkAll parts + 1
  | .iface _ d => uptoBulk d + 1
  | .map entries => uptoBulkEntries entries + 1
  | .held _ => 1
def uptoBulkAll {H : Type} : List (DataW H) → Nat
  | [] => 0
  | d :: r => uptoBulk d + uptoBulkAll r
def uptoBulkEntries {H : Type} : List (Lit × DataW H) → Nat
  | [] => 0
  | x :: r => uptoBulkEntry x + uptoBulkEntries r
def uptoBulkEntry {H : Type} : Lit × DataW H → Nat
  | (.string bytes, d) => bytes.length + uptoBulk d + 1
  | (_, d) => uptoBulk d + 1
 end
def uptoSmall : (H : Type) → List (DataW H) → Bool := fun _ ds => decide (uptoBulkAll ds ≤ 1048576)
def OpenSpec.upto (s : _root_.Go.ChangeSpec) : _root_.Go.OpenSpec := { _root_.Go.OpenSpec.ofChange s with cond := some uptoSmall }

/-- 'telltalelaw09.QuotTells', WHERE WHAT IT READS IS OF BULK AT MOST 1048576: true; the input reads as it did. -/
def quotTellsUptoRow : OpenClaim := { program := "ytaedefhkpjodmaa", sum := "6581fc88c9deba4a62c7ee557d58e82f5ce02ad78b430baa8ca6786290bb3366", func := "telltale/telltalelaw09.QuotTells", spec := "quotTells", unfollowed := true, recurses := true, apart := false, narrowed := true }
def QuotTellsUptoSaid : Prop := quotTellsUptoRow.holds Try.pinned (OpenSpec.upto quotTellsSpec)

/-- 'telltalelaw09.QuotRest', WHERE WHAT IT READS IS OF BULK AT MOST 1048576: true; the input reads as it did. -/
def quotRestUptoRow : OpenClaim := { program := "ytaedefhkpjodmaa", sum := "6581fc88c9deba4a62c7ee557d58e82f5ce02ad78b430baa8ca6786290bb3366", func := "telltale/telltalelaw09.QuotRest", spec := "quotRest", unfollowed := true, recurses := true, apart := false, narrowed := true }
def QuotRestUptoSaid : Prop := quotRestUptoRow.holds Try.pinned (OpenSpec.upto quotRestSpec)

/-- 'telltalelaw09.QuotFlip', WHERE WHAT IT READS IS OF BULK AT MOST 1048576: true; the input reads as it did. -/
def quotFlipUptoRow : OpenClaim := { program := "ytaedefhkpjodmaa", sum := "6581fc88c9deba4a62c7ee557d58e82f5ce02ad78b430baa8ca6786290bb3366", func := "telltale/telltalelaw09.QuotFlip", spec := "quotFlip", unfollowed := true, recurses := true, apart := false, narrowed := true }
def QuotFlipUptoSaid : Prop := quotFlipUptoRow.holds Try.pinned (OpenSpec.upto quotFlipSpec)

/-- 'telltalelaw09.QuotOrder', WHERE WHAT IT READS IS OF BULK AT MOST 1048576: true; the input reads as it did. -/
def quotOrderUptoRow : OpenClaim := { program := "ytaedefhkpjodmaa", sum := "6581fc88c9deba4a62c7ee557d58e82f5ce02ad78b430baa8ca6786290bb3366", func := "telltale/telltalelaw09.QuotOrder", spec := "quotOrder", unfollowed := true, recurses := true, apart := false, narrowed := true }
def QuotOrderUptoSaid : Prop := quotOrderUptoRow.holds Try.pinned (OpenSpec.upto quotOrderSpec)

/-- 'telltalelaw09.QuotDrift', WHERE WHAT IT READS IS OF BULK AT MOST 1048576: true; the input reads as it did. -/
def quotDriftUptoRow : OpenClaim := { program := "ytaedefhkpjodmaa", sum := "6581fc88c9deba4a62c7ee557d58e82f5ce02ad78b430baa8ca6786290bb3366", func := "telltale/telltalelaw09.QuotDrift", spec := "quotDrift", unfollowed := true, recurses := true, apart := false, narrowed := true }
def QuotDriftUptoSaid : Prop := quotDriftUptoRow.holds Try.pinned (OpenSpec.upto quotDriftSpec)

/-- 'telltalelaw09.QuotMore', WHERE WHAT IT READS IS OF BULK AT MOST 1048576: true; the input reads as it did. -/
def quotMoreUptoRow : OpenClaim := { program := "ytaedefhkpjodmaa", sum := "6581fc88c9deba4a62c7ee557d58e82f5ce02ad78b430baa8ca6786290bb3366", func := "telltale/telltalelaw09.QuotMore", spec := "quotMore", unfollowed := true, recurses := true, apart := false, narrowed := true }
def QuotMoreUptoSaid : Prop := quotMoreUptoRow.holds Try.pinned (OpenSpec.upto quotMoreSpec)

end Rows
end Go.Proofs.Ytaedefhkpjodmaa
