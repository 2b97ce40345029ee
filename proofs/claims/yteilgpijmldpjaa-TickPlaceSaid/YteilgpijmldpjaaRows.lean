/-
  No cell of these rows narrows 'for every input' (looked for: loops, veiled, ifaces, maps, wideKeys, modest, calm, conditions, laid).
  DERIVED. THE GIVEN ROWS OF THIS SEAT. 6 by the template 'for every input the law returns true; each argument reads behind the call as it read before'; 0 by the template 'total and deterministic' (their statements: YteilgpijmldpjaaTotals.lean).
  GIVEN WITH THE SEED: the statements are not yours to turn. If you find one false, say at which input.
  Laid BY PROGRAM, IN A SANDBOX (cutbox-rows.mjs): the forced cells as the released guide's own fill.sh prints them over the translation 5a3fd6f080e6a306… (all of the seat's roots in one cut). By AI agents, Wed Nov 11 2026. No macro, syntax, notation, axiom, sorry.
-/
import Derived.Test.YteilgpijmldpjaaChecked
import GoSem.Claim
import GoSem.ClaimJoined
import GoSem.ClaimMapViews
import Derived.JoinedTies
import Derived.KernelRfl
namespace Go.Proofs.Yteilgpijmldpjaa
/- THE CELL 'sum', in the pinned program and in every row, IS THE sha256 OF THE DUMP (.gsa) THAT YteilgpijmldpjaaProg.lean LOADS. Nothing in Lean hashes anything: it is a label: what it is worth is what the hold of that sum in a sandbox is worth. -/
noncomputable def Try.pinned : Pinned := { name := "yteilgpijmldpjaa", sum := "5a3fd6f080e6a306962507c71bf62e5ae86894b922d7083281c1580b0bc807ba", checked := Try.checked }
namespace Rows
def none {H : Type} : Left H := { results := [], args := [] }

/-- 'telltalelaw11.TickTells': WHATEVER THE INPUT: true; the input reads as it did. -/
def tickTellsSpec : ChangeSpec := { name := "tickTells", fn := fun _ => fun
  | [d1, d2, d3, d4, d5] => { results := [.lit (.bool true)], args := [d1, d2, d3, d4, d5] }
  | _ => none }
def tickTellsRow : OpenClaim := { program := "yteilgpijmldpjaa", sum := "5a3fd6f080e6a306962507c71bf62e5ae86894b922d7083281c1580b0bc807ba", func := "telltale/telltalelaw11.TickTells", spec := "tickTells", unfollowed := true, recurses := true, apart := false }
def TickTellsSaid : Prop := tickTellsRow.holds Try.pinned (OpenSpec.ofChange tickTellsSpec)

/-- ITS FALSE NEIGHBOUR: 'it returns false'. Refute it at one input. -/
def tickTellsWrong : ChangeSpec := { name := "tickTells", fn := fun _ => fun
  | [d1, d2, d3, d4, d5] => { results := [.lit (.bool false)], args := [d1, d2, d3, d4, d5] }
  | _ => none }
def TickTellsWrongFalsely : Prop := tickTellsRow.holds Try.pinned (OpenSpec.ofChange tickTellsWrong)

/-- 'telltalelaw11.TickNear': WHATEVER THE INPUT: true; the input reads as it did. -/
def tickNearSpec : ChangeSpec := { name := "tickNear", fn := fun _ => fun
  | [d1, d2] => { results := [.lit (.bool true)], args := [d1, d2] }
  | _ => none }
def tickNearRow : OpenClaim := { program := "yteilgpijmldpjaa", sum := "5a3fd6f080e6a306962507c71bf62e5ae86894b922d7083281c1580b0bc807ba", func := "telltale/telltalelaw11.TickNear", spec := "tickNear", unfollowed := true, recurses := true, apart := false }
def TickNearSaid : Prop := tickNearRow.holds Try.pinned (OpenSpec.ofChange tickNearSpec)

/-- ITS FALSE NEIGHBOUR: 'it returns false'. Refute it at one input. -/
def tickNearWrong : ChangeSpec := { name := "tickNear", fn := fun _ => fun
  | [d1, d2] => { results := [.lit (.bool false)], args := [d1, d2] }
  | _ => none }
def TickNearWrongFalsely : Prop := tickNearRow.holds Try.pinned (OpenSpec.ofChange tickNearWrong)

/-- 'telltalelaw11.TickPlace': WHATEVER THE INPUT: true; the input reads as it did. -/
def tickPlaceSpec : ChangeSpec := { name := "tickPlace", fn := fun _ => fun
  | [d1, d2, d3, d4] => { results := [.lit (.bool true)], args := [d1, d2, d3, d4] }
  | _ => none }
def tickPlaceRow : OpenClaim := { program := "yteilgpijmldpjaa", sum := "5a3fd6f080e6a306962507c71bf62e5ae86894b922d7083281c1580b0bc807ba", func := "telltale/telltalelaw11.TickPlace", spec := "tickPlace", unfollowed := true, recurses := true, apart := false }
def TickPlaceSaid : Prop := tickPlaceRow.holds Try.pinned (OpenSpec.ofChange tickPlaceSpec)

/-- ITS FALSE NEIGHBOUR: 'it returns false'. Refute it at one input. -/
def tickPlaceWrong : ChangeSpec := { name := "tickPlace", fn := fun _ => fun
  | [d1, d2, d3, d4] => { results := [.lit (.bool false)], args := [d1, d2, d3, d4] }
  | _ => none }
def TickPlaceWrongFalsely : Prop := tickPlaceRow.holds Try.pinned (OpenSpec.ofChange tickPlaceWrong)

/-- 'telltalelaw11.TickExact': WHATEVER THE INPUT: true; the input reads as it did. -/
def tickExactSpec : ChangeSpec := { name := "tickExact", fn := fun _ => fun
  | [d1, d2] => { results := [.lit (.bool true)], args := [d1, d2] }
  | _ => none }
def tickExactRow : OpenClaim := { program := "yteilgpijmldpjaa", sum := "5a3fd6f080e6a306962507c71bf62e5ae86894b922d7083281c1580b0bc807ba", func := "telltale/telltalelaw11.TickExact", spec := "tickExact", unfollowed := true, recurses := true, apart := false }
def TickExactSaid : Prop := tickExactRow.holds Try.pinned (OpenSpec.ofChange tickExactSpec)

/-- ITS FALSE NEIGHBOUR: 'it returns false'. Refute it at one input. -/
def tickExactWrong : ChangeSpec := { name := "tickExact", fn := fun _ => fun
  | [d1, d2] => { results := [.lit (.bool false)], args := [d1, d2] }
  | _ => none }
def TickExactWrongFalsely : Prop := tickExactRow.holds Try.pinned (OpenSpec.ofChange tickExactWrong)

/-- 'telltalelaw11.TickOrder': WHATEVER THE INPUT: true; the input reads as it did. -/
def tickOrderSpec : ChangeSpec := { name := "tickOrder", fn := fun _ => fun
  | [d1, d2, d3] => { results := [.lit (.bool true)], args := [d1, d2, d3] }
  | _ => none }
def tickOrderRow : OpenClaim := { program := "yteilgpijmldpjaa", sum := "5a3fd6f080e6a306962507c71bf62e5ae86894b922d7083281c1580b0bc807ba", func := "telltale/telltalelaw11.TickOrder", spec := "tickOrder", unfollowed := true, recurses := true, apart := false }
def TickOrderSaid : Prop := tickOrderRow.holds Try.pinned (OpenSpec.ofChange tickOrderSpec)

/-- ITS FALSE NEIGHBOUR: 'it returns false'. Refute it at one input. -/
def tickOrderWrong : ChangeSpec := { name := "tickOrder", fn := fun _ => fun
  | [d1, d2, d3] => { results := [.lit (.bool false)], args := [d1, d2, d3] }
  | _ => none }
def TickOrderWrongFalsely : Prop := tickOrderRow.holds Try.pinned (OpenSpec.ofChange tickOrderWrong)

/-- 'telltalelaw11.TickShift': WHATEVER THE INPUT: true; the input reads as it did. -/
def tickShiftSpec : ChangeSpec := { name := "tickShift", fn := fun _ => fun
  | [d1, d2, d3] => { results := [.lit (.bool true)], args := [d1, d2, d3] }
  | _ => none }
def tickShiftRow : OpenClaim := { program := "yteilgpijmldpjaa", sum := "5a3fd6f080e6a306962507c71bf62e5ae86894b922d7083281c1580b0bc807ba", func := "telltale/telltalelaw11.TickShift", spec := "tickShift", unfollowed := true, recurses := true, apart := false }
def TickShiftSaid : Prop := tickShiftRow.holds Try.pinned (OpenSpec.ofChange tickShiftSpec)

/-- ITS FALSE NEIGHBOUR: 'it returns false'. Refute it at one input. -/
def tickShiftWrong : ChangeSpec := { name := "tickShift", fn := fun _ => fun
  | [d1, d2, d3] => { results := [.lit (.bool false)], args := [d1, d2, d3] }
  | _ => none }
def TickShiftWrongFalsely : Prop := tickShiftRow.holds Try.pinned (OpenSpec.ofChange tickShiftWrong)

/- THE SECOND FORM. 'bulk': how many values and letters a reading holds, each counted each time it is reached (what is shared counts as often as it is met; a slice's spare places count too). A statement '..UptoSaid' is the law's where the arguments, and the package variables that the reading takes, are together of bulk at most 1048576: NARROWER than '..Said'. Prove '..Said' where nothing that the law and all that it calls make is longer than what came in: it says more and counts as full. Else prove '..UptoSaid'. A law counts once. -/
mutual
def uptoBulk {H : Type} : DataW H → Nat
  | .lit (.string bytes) => bytes.length + 1
  | .lit _ => 1
  | .nil => 1
  | .ptr d => uptoBulk d + 1
  | .slice elems spare => uptoBulkAll elems + uptoBulkAll spare + 1
  | .agg parts => uptoBulkAll parts + 1
  | .iface _ d => uptoBulk d + 1
  | .map entries => uptoBulkEntries entries + 1
  | .held _ => 1
def uptoBulkAll {H : Type} : List (DataW H) → Nat
  | [] => 0
  | d :: r => uptoBulk d + uptoBulkAll r
def uptoBulkEntries {H : Type} : List (Lit × DataW H) → Nat
  | [] => 0
  | x :: r => uptoBulkEntry x + uptoBulkEntries r
def uptoBulkEntry {H : Type} : Lit × DataW H → Nat
  | (.string bytes, d) => bytes.length + uptoBulk d + 1
  | (_, d) => uptoBulk d + 1
 end
def uptoSmall : (H : Type) → List (DataW H) → Bool := fun _ ds => decide (uptoBulkAll ds ≤ 1048576)
def OpenSpec.upto (s : _root_.Go.ChangeSpec) : _root_.Go.OpenSpec := { _root_.Go.OpenSpec.ofChange s with cond := some uptoSmall }

/-- 'telltalelaw11.TickTells', WHERE WHAT IT READS IS OF BULK AT MOST 1048576: true; the input reads as it did. -/
def tickTellsUptoRow : OpenClaim := { program := "yteilgpijmldpjaa", sum := "5a3fd6f080e6a306962507c71bf62e5ae86894b922d7083281c1580b0bc807ba", func := "telltale/telltalelaw11.TickTells", spec := "tickTells", unfollowed := true, recurses := true, apart := false, narrowed := true }
def TickTellsUptoSaid : Prop := tickTellsUptoRow.holds Try.pinned (OpenSpec.upto tickTellsSpec)

/-- 'telltalelaw11.TickNear', WHERE WHAT IT READS IS OF BULK AT MOST 1048576: true; the input reads as it did. -/
def tickNearUptoRow : OpenClaim := { program := "yteilgpijmldpjaa", sum := "5a3fd6f080e6a306962507c71bf62e5ae86894b922d7083281c1580b0bc807ba", func := "telltale/telltalelaw11.TickNear", spec := "tickNear", unfollowed := true, recurses := true, apart := false, narrowed := true }
def TickNearUptoSaid : Prop := tickNearUptoRow.holds Try.pinned (OpenSpec.upto tickNearSpec)

/-- 'telltalelaw11.TickPlace', WHERE WHAT IT READS IS OF BULK AT MOST 1048576: true; the input reads as it did. -/
def tickPlaceUptoRow : OpenClaim := { program := "yteilgpijmldpjaa", sum := "5a3fd6f080e6a306962507c71bf62e5ae86894b922d7083281c1580b0bc807ba", func := "telltale/telltalelaw11.TickPlace", spec := "tickPlace", unfollowed := true, recurses := true, apart := false, narrowed := true }
def TickPlaceUptoSaid : Prop := tickPlaceUptoRow.holds Try.pinned (OpenSpec.upto tickPlaceSpec)

/-- 'telltalelaw11.TickExact', WHERE WHAT IT READS IS OF BULK AT MOST 1048576: true; the input reads as it did. -/
def tickExactUptoRow : OpenClaim := { program := "yteilgpijmldpjaa", sum := "5a3fd6f080e6a306962507c71bf62e5ae86894b922d7083281c1580b0bc807ba", func := "telltale/telltalelaw11.TickExact", spec := "tickExact", unfollowed := true, recurses := true, apart := false, narrowed := true }
def TickExactUptoSaid : Prop := tickExactUptoRow.holds Try.pinned (OpenSpec.upto tickExactSpec)

/-- 'telltalelaw11.TickOrder', WHERE WHAT IT READS IS OF BULK AT MOST 1048576: true; the input reads as it did. -/
def tickOrderUptoRow : OpenClaim := { program := "yteilgpijmldpjaa", sum := "5a3fd6f080e6a306962507c71bf62e5ae86894b922d7083281c1580b0bc807ba", func := "telltale/telltalelaw11.TickOrder", spec := "tickOrder", unfollowed := true, recurses := true, apart := false, narrowed := true }
def TickOrderUptoSaid : Prop := tickOrderUptoRow.holds Try.pinned (OpenSpec.upto tickOrderSpec)

/-- 'telltalelaw11.TickShift', WHERE WHAT IT READS IS OF BULK AT MOST 1048576: true; the input reads as it did. -/
def tickShiftUptoRow : OpenClaim := { program := "yteilgpijmldpjaa", sum := "5a3fd6f080e6a306962507c71bf62e5ae86894b922d7083281c1580b0bc807ba", func := "telltale/telltalelaw11.TickShift", spec := "tickShift", unfollowed := true, recurses := true, apart := false, narrowed := true }
def TickShiftUptoSaid : Prop := tickShiftUptoRow.holds Try.pinned (OpenSpec.upto tickShiftSpec)

end Rows
end Go.Proofs.Yteilgpijmldpjaa
