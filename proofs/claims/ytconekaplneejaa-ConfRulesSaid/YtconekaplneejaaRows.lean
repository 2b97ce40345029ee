/-
  No cell of these rows narrows 'for every input' (looked for: loops, veiled, ifaces, maps, wideKeys, modest, calm, conditions, laid).
  DERIVED. THE GIVEN ROWS OF THIS SEAT. 6 by the template 'for every input the law returns true; each argument reads behind the call as it read before'; 0 by the template 'total and deterministic' (their statements: YtconekaplneejaaTotals.lean).
  GIVEN WITH THE SEED: the statements are not yours to turn. If you find one false, say at which input.
  Laid BY PROGRAM, IN A SANDBOX (cutbox-rows.mjs): the forced cells as the released guide's own fill.sh prints them over the translation 745e3d76125d871d… (all of the seat's roots in one cut). By AI agents, Wed Nov 11 2026. No macro, syntax, notation, axiom, sorry.
-/
import Derived.Test.YtconekaplneejaaChecked
import GoSem.Claim
import GoSem.ClaimJoined
import GoSem.ClaimMapViews
import Derived.JoinedTies
import Derived.KernelRfl
namespace Go.Proofs.Ytconekaplneejaa
/- THE CELL 'sum', in the pinned program and in every row, IS THE sha256 OF THE DUMP (.gsa) THAT YtconekaplneejaaProg.lean LOADS. Nothing in Lean hashes anything: it is a label: what it is worth is what the hold of that sum in a sandbox is worth. -/
noncomputable def Try.pinned : Pinned := { name := "ytconekaplneejaa", sum := "745e3d76125d871d6735af728228881fd531be09f0873968e21ed2eb2d7e1512", checked := Try.checked }
namespace Rows
def none {H : Type} : Left H := { results := [], args := [] }

/-- 'telltalelaw05.ConfTells': WHATEVER THE INPUT: true; the input reads as it did. -/
def confTellsSpec : ChangeSpec := { name := "confTells", fn := fun _ => fun
  | [d1, d2, d3, d4] => { results := [.lit (.bool true)], args := [d1, d2, d3, d4] }
  | _ => none }
def confTellsRow : OpenClaim := { program := "ytconekaplneejaa", sum := "745e3d76125d871d6735af728228881fd531be09f0873968e21ed2eb2d7e1512", func := "telltale/telltalelaw05.ConfTells", spec := "confTells", unfollowed := true, recurses := true, apart := false }
def ConfTellsSaid : Prop := confTellsRow.holds Try.pinned (OpenSpec.ofChange confTellsSpec)

/-- ITS FALSE NEIGHBOUR: 'it returns false'. Refute it at one input. -/
def confTellsWrong : ChangeSpec := { name := "confTells", fn := fun _ => fun
  | [d1, d2, d3, d4] => { results := [.lit (.bool false)], args := [d1, d2, d3, d4] }
  | _ => none }
def ConfTellsWrongFalsely : Prop := confTellsRow.holds Try.pinned (OpenSpec.ofChange confTellsWrong)

/-- 'telltalelaw05.ConfNumbers': WHATEVER THE INPUT: true; the input reads as it did. -/
def confNumbersSpec : ChangeSpec := { name := "confNumbers", fn := fun _ => fun
  | [d1, d2, d3, d4] => { results := [.lit (.bool true)], args := [d1, d2, d3, d4] }
  | _ => none }
def confNumbersRow : OpenClaim := { program := "ytconekaplneejaa", sum := "745e3d76125d871d6735af728228881fd531be09f0873968e21ed2eb2d7e1512", func := "telltale/telltalelaw05.ConfNumbers", spec := "confNumbers", unfollowed := true, recurses := true, apart := false }
def ConfNumbersSaid : Prop := confNumbersRow.holds Try.pinned (OpenSpec.ofChange confNumbersSpec)

/-- ITS FALSE NEIGHBOUR: 'it returns false'. Refute it at one input. -/
def confNumbersWrong : ChangeSpec := { name := "confNumbers", fn := fun _ => fun
  | [d1, d2, d3, d4] => { results := [.lit (.bool false)], args := [d1, d2, d3, d4] }
  | _ => none }
def ConfNumbersWrongFalsely : Prop := confNumbersRow.holds Try.pinned (OpenSpec.ofChange confNumbersWrong)

/-- 'telltalelaw05.ConfBounds': WHATEVER THE INPUT: true; the input reads as it did. -/
def confBoundsSpec : ChangeSpec := { name := "confBounds", fn := fun _ => fun
  | [d1, d2] => { results := [.lit (.bool true)], args := [d1, d2] }
  | _ => none }
def confBoundsRow : OpenClaim := { program := "ytconekaplneejaa", sum := "745e3d76125d871d6735af728228881fd531be09f0873968e21ed2eb2d7e1512", func := "telltale/telltalelaw05.ConfBounds", spec := "confBounds", unfollowed := true, recurses := true, apart := false }
def ConfBoundsSaid : Prop := confBoundsRow.holds Try.pinned (OpenSpec.ofChange confBoundsSpec)

/-- ITS FALSE NEIGHBOUR: 'it returns false'. Refute it at one input. -/
def confBoundsWrong : ChangeSpec := { name := "confBounds", fn := fun _ => fun
  | [d1, d2] => { results := [.lit (.bool false)], args := [d1, d2] }
  | _ => none }
def ConfBoundsWrongFalsely : Prop := confBoundsRow.holds Try.pinned (OpenSpec.ofChange confBoundsWrong)

/-- 'telltalelaw05.ConfSteps': WHATEVER THE INPUT: true; the input reads as it did. -/
def confStepsSpec : ChangeSpec := { name := "confSteps", fn := fun _ => fun
  | [d] => { results := [.lit (.bool true)], args := [d] }
  | _ => none }
def confStepsRow : OpenClaim := { program := "ytconekaplneejaa", sum := "745e3d76125d871d6735af728228881fd531be09f0873968e21ed2eb2d7e1512", func := "telltale/telltalelaw05.ConfSteps", spec := "confSteps", unfollowed := true, recurses := true, apart := false }
def ConfStepsSaid : Prop := confStepsRow.holds Try.pinned (OpenSpec.ofChange confStepsSpec)

/-- ITS FALSE NEIGHBOUR: 'it returns false'. Refute it at one input. -/
def confStepsWrong : ChangeSpec := { name := "confSteps", fn := fun _ => fun
  | [d] => { results := [.lit (.bool false)], args := [d] }
  | _ => none }
def ConfStepsWrongFalsely : Prop := confStepsRow.holds Try.pinned (OpenSpec.ofChange confStepsWrong)

/-- 'telltalelaw05.ConfMany': WHATEVER THE INPUT: true; the input reads as it did. -/
def confManySpec : ChangeSpec := { name := "confMany", fn := fun _ => fun
  | [d1, d2, d3] => { results := [.lit (.bool true)], args := [d1, d2, d3] }
  | _ => none }
def confManyRow : OpenClaim := { program := "ytconekaplneejaa", sum := "745e3d76125d871d6735af728228881fd531be09f0873968e21ed2eb2d7e1512", func := "telltale/telltalelaw05.ConfMany", spec := "confMany", unfollowed := true, recurses := true, apart := false }
def ConfManySaid : Prop := confManyRow.holds Try.pinned (OpenSpec.ofChange confManySpec)

/-- ITS FALSE NEIGHBOUR: 'it returns false'. Refute it at one input. -/
def confManyWrong : ChangeSpec := { name := "confMany", fn := fun _ => fun
  | [d1, d2, d3] => { results := [.lit (.bool false)], args := [d1, d2, d3] }
  | _ => none }
def ConfManyWrongFalsely : Prop := confManyRow.holds Try.pinned (OpenSpec.ofChange confManyWrong)

/-- 'telltalelaw05.ConfRules': WHATEVER THE INPUT: true; the input reads as it did. -/
def confRulesSpec : ChangeSpec := { name := "confRules", fn := fun _ => fun
  | [d1, d2] => { results := [.lit (.bool true)], args := [d1, d2] }
  | _ => none }
def confRulesRow : OpenClaim := { program := "ytconekaplneejaa", sum := "745e3d76125d871d6735af728228881fd531be09f0873968e21ed2eb2d7e1512", func := "telltale/telltalelaw05.ConfRules", spec := "confRules", unfollowed := true, recurses := true, apart := false }
def ConfRulesSaid : Prop := confRulesRow.holds Try.pinned (OpenSpec.ofChange confRulesSpec)

/-- ITS FALSE NEIGHBOUR: 'it returns false'. Refute it at one input. -/
def confRulesWrong : ChangeSpec := { name := "confRules", fn := fun _ => fun
  | [d1, d2] => { results := [.lit (.bool false)], args := [d1, d2] }
  | _ => none }
def ConfRulesWrongFalsely : Prop := confRulesRow.holds Try.pinned (OpenSpec.ofChange confRulesWrong)

/- THE SECOND FORM. 'bulk': how many values and letters a reading holds, each counted each time it is reached (what is shared counts as often as it is met; a slice's spare places count too). A statement '..UptoSaid' is the law's where the arguments, and the package variables that the reading takes, are together of bulk at most 1048576: NARROWER than '..Said'. Prove '..Said' where nothing that the law and all that it calls make is longer than what came in: it says more and counts as full. Else prove '..UptoSaid'. A law counts once. -/
mutual
def uptoBulk {H : Type} : DataW H → Nat
  | .lit (.string bytes) => bytes.length + 1
  | .lit _ => 1
  | .nil => 1
  | .ptr d => uptoBulk d + 1
  | .slice elems spare => uptoBulkAll elems + uptoBulkAll spare + 1
  | .agg parts => uptoBulkAll parts + 1
  | .iface _ d => uptoBulk d + 1
  | .map entries => uptoBulkEntries entries + 1
  | .held _ => 1
def uptoBulkAll {H : Type} : List (DataW H) → Nat
  | [] => 0
  | d :: r => uptoBulk d + uptoBulkAll r
def uptoBulkEntries {H : Type} : List (Lit × DataW H) → Nat
  | [] => 0
  | x :: r => uptoBulkEntry x + uptoBulkEntries r
def uptoBulkEntry {H : Type} : Lit × DataW H → Nat
  | (.string bytes, d) => bytes.length + uptoBulk d + 1
  | (_, d) => uptoBulk d + 1
 end
def uptoSmall : (H : Type) → List (DataW H) → Bool := fun _ ds => decide (uptoBulkAll ds ≤ 1048576)
def OpenSpec.upto (s : _root_.Go.ChangeSpec) : _root_.Go.OpenSpec := { _root_.Go.OpenSpec.ofChange s with cond := some uptoSmall }

/-- 'telltalelaw05.ConfTells', WHERE WHAT IT READS IS OF BULK AT MOST 1048576: true; the input reads as it did. -/
def confTellsUptoRow : OpenClaim := { program := "ytconekaplneejaa", sum := "745e3d76125d871d6735af728228881fd531be09f0873968e21ed2eb2d7e1512", func := "telltale/telltalelaw05.ConfTells", spec := "confTells", unfollowed := true, recurses := true, apart := false, narrowed := true }
def ConfTellsUptoSaid : Prop := confTellsUptoRow.holds Try.pinned (OpenSpec.upto confTellsSpec)

/-- 'telltalelaw05.ConfNumbers', WHERE WHAT IT READS IS OF BULK AT MOST 1048576: true; the input reads as it did. -/
def confNumbersUptoRow : OpenClaim := { program := "ytconekaplneejaa", sum := "745e3d76125d871d6735af728228881fd531be09f0873968e21ed2eb2d7e1512", func := "telltale/telltalelaw05.ConfNumbers", spec := "confNumbers", unfollowed := true, recurses := true, apart := false, narrowed := true }
def ConfNumbersUptoSaid : Prop := confNumbersUptoRow.holds Try.pinned (OpenSpec.upto confNumbersSpec)

/-- 'telltalelaw05.ConfBounds', WHERE WHAT IT READS IS OF BULK AT MOST 1048576: true; the input reads as it did. -/
def confBoundsUptoRow : OpenClaim := { program := "ytconekaplneejaa", sum := "745e3d76125d871d6735af728228881fd531be09f0873968e21ed2eb2d7e1512", func := "telltale/telltalelaw05.ConfBounds", spec := "confBounds", unfollowed := true, recurses := true, apart := false, narrowed := true }
def ConfBoundsUptoSaid : Prop := confBoundsUptoRow.holds Try.pinned (OpenSpec.upto confBoundsSpec)

/-- 'telltalelaw05.ConfSteps', WHERE WHAT IT READS IS OF BULK AT MOST 1048576: true; the input reads as it did. -/
def confStepsUptoRow : OpenClaim := { program := "ytconekaplneejaa", sum := "745e3d76125d871d6735af728228881fd531be09f0873968e21ed2eb2d7e1512", func := "telltale/telltalelaw05.ConfSteps", spec := "confSteps", unfollowed := true, recurses := true, apart := false, narrowed := true }
def ConfStepsUptoSaid : Prop := confStepsUptoRow.holds Try.pinned (OpenSpec.upto confStepsSpec)

/-- 'telltalelaw05.ConfMany', WHERE WHAT IT READS IS OF BULK AT MOST 1048576: true; the input reads as it did. -/
def confManyUptoRow : OpenClaim := { program := "ytconekaplneejaa", sum := "745e3d76125d871d6735af728228881fd531be09f0873968e21ed2eb2d7e1512", func := "telltale/telltalelaw05.ConfMany", spec := "confMany", unfollowed := true, recurses := true, apart := false, narrowed := true }
def ConfManyUptoSaid : Prop := confManyUptoRow.holds Try.pinned (OpenSpec.upto confManySpec)

/-- 'telltalelaw05.ConfRules', WHERE WHAT IT READS IS OF BULK AT MOST 1048576: true; the input reads as it did. -/
def confRulesUptoRow : OpenClaim := { program := "ytconekaplneejaa", sum := "745e3d76125d871d6735af728228881fd531be09f0873968e21ed2eb2d7e1512", func := "telltale/telltalelaw05.ConfRules", spec := "confRules", unfollowed := true, recurses := true, apart := false, narrowed := true }
def ConfRulesUptoSaid : Prop := confRulesUptoRow.holds Try.pinned (OpenSpec.upto confRulesSpec)

end Rows
end Go.Proofs.Ytconekaplneejaa
