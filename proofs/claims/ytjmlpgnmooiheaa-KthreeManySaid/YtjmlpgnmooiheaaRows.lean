/-
  No cell of these rows narrows 'for every input' (looked for: loops, veiled, ifaces, maps, wideKeys, modest, calm, conditions, laid).
  DERIVED. THE GIVEN ROWS OF THIS SEAT. 6 by the template 'for every input the law returns true; each argument reads behind the call as it read before'; 0 by the template 'total and deterministic' (their statements: YtjmlpgnmooiheaaTotals.lean).
  GIVEN WITH THE SEED: the statements are not yours to turn. If you find one false, say at which input.
  Laid BY PROGRAM, IN A SANDBOX (cutbox-rows.mjs): the forced cells as the released guide's own fill.sh prints them over the translation 6875526622f44d55… (all of the seat's roots in one cut). By AI agents, Wed Nov 11 2026. No macro, syntax, notation, axiom, sorry.
-/
import Derived.Test.YtjmlpgnmooiheaaChecked
import GoSem.Claim
import GoSem.ClaimJoined
import GoSem.ClaimMapViews
import Derived.JoinedTies
import Derived.KernelRfl
namespace Go.Proofs.Ytjmlpgnmooiheaa
/- THE CELL 'sum', in the pinned program and in every row, IS THE sha256 OF THE DUMP (.gsa) THAT YtjmlpgnmooiheaaProg.lean LOADS. Nothing in Lean hashes anything: it is a label: what it is worth is what the hold of that sum in a sandbox is worth. -/
noncomputable def Try.pinned : Pinned := { name := "ytjmlpgnmooiheaa", sum := "6875526622f44d55fda687a45360a705adfc814cfc0f0acb2ade9c98dee2a8e2", checked := Try.checked }
namespace Rows
def none {H : Type} : Left H := { results := [], args := [] }

/-- 'telltalelaw17.KthreeTells': WHATEVER THE INPUT: true; the input reads as it did. -/
def kthreeTellsSpec : ChangeSpec := { name := "kthreeTells", fn := fun _ => fun
  | [d1, d2, d3, d4] => { results := [.lit (.bool true)], args := [d1, d2, d3, d4] }
  | _ => none }
def kthreeTellsRow : OpenClaim := { program := "ytjmlpgnmooiheaa", sum := "6875526622f44d55fda687a45360a705adfc814cfc0f0acb2ade9c98dee2a8e2", func := "telltale/telltalelaw17.KthreeTells", spec := "kthreeTells", apart := false }
def KthreeTellsSaid : Prop := kthreeTellsRow.holds Try.pinned (OpenSpec.ofChange kthreeTellsSpec)

/-- ITS FALSE NEIGHBOUR: 'it returns false'. Refute it at one input. -/
def kthreeTellsWrong : ChangeSpec := { name := "kthreeTells", fn := fun _ => fun
  | [d1, d2, d3, d4] => { results := [.lit (.bool false)], args := [d1, d2, d3, d4] }
  | _ => none }
def KthreeTellsWrongFalsely : Prop := kthreeTellsRow.holds Try.pinned (OpenSpec.ofChange kthreeTellsWrong)

/-- 'telltalelaw17.KthreeLaws': WHATEVER THE INPUT: true; the input reads as it did. -/
def kthreeLawsSpec : ChangeSpec := { name := "kthreeLaws", fn := fun _ => fun
  | [d1, d2, d3] => { results := [.lit (.bool true)], args := [d1, d2, d3] }
  | _ => none }
def kthreeLawsRow : OpenClaim := { program := "ytjmlpgnmooiheaa", sum := "6875526622f44d55fda687a45360a705adfc814cfc0f0acb2ade9c98dee2a8e2", func := "telltale/telltalelaw17.KthreeLaws", spec := "kthreeLaws", apart := false }
def KthreeLawsSaid : Prop := kthreeLawsRow.holds Try.pinned (OpenSpec.ofChange kthreeLawsSpec)

/-- ITS FALSE NEIGHBOUR: 'it returns false'. Refute it at one input. -/
def kthreeLawsWrong : ChangeSpec := { name := "kthreeLaws", fn := fun _ => fun
  | [d1, d2, d3] => { results := [.lit (.bool false)], args := [d1, d2, d3] }
  | _ => none }
def KthreeLawsWrongFalsely : Prop := kthreeLawsRow.holds Try.pinned (OpenSpec.ofChange kthreeLawsWrong)

/-- 'telltalelaw17.KthreeKnown': WHATEVER THE INPUT: true; the input reads as it did. -/
def kthreeKnownSpec : ChangeSpec := { name := "kthreeKnown", fn := fun _ => fun
  | [d1, d2] => { results := [.lit (.bool true)], args := [d1, d2] }
  | _ => none }
def kthreeKnownRow : OpenClaim := { program := "ytjmlpgnmooiheaa", sum := "6875526622f44d55fda687a45360a705adfc814cfc0f0acb2ade9c98dee2a8e2", func := "telltale/telltalelaw17.KthreeKnown", spec := "kthreeKnown", apart := false }
def KthreeKnownSaid : Prop := kthreeKnownRow.holds Try.pinned (OpenSpec.ofChange kthreeKnownSpec)

/-- ITS FALSE NEIGHBOUR: 'it returns false'. Refute it at one input. -/
def kthreeKnownWrong : ChangeSpec := { name := "kthreeKnown", fn := fun _ => fun
  | [d1, d2] => { results := [.lit (.bool false)], args := [d1, d2] }
  | _ => none }
def KthreeKnownWrongFalsely : Prop := kthreeKnownRow.holds Try.pinned (OpenSpec.ofChange kthreeKnownWrong)

/-- 'telltalelaw17.KthreeBools': WHATEVER THE INPUT: true; the input reads as it did. -/
def kthreeBoolsSpec : ChangeSpec := { name := "kthreeBools", fn := fun _ => fun
  | [d1, d2] => { results := [.lit (.bool true)], args := [d1, d2] }
  | _ => none }
def kthreeBoolsRow : OpenClaim := { program := "ytjmlpgnmooiheaa", sum := "6875526622f44d55fda687a45360a705adfc814cfc0f0acb2ade9c98dee2a8e2", func := "telltale/telltalelaw17.KthreeBools", spec := "kthreeBools", apart := false }
def KthreeBoolsSaid : Prop := kthreeBoolsRow.holds Try.pinned (OpenSpec.ofChange kthreeBoolsSpec)

/-- ITS FALSE NEIGHBOUR: 'it returns false'. Refute it at one input. -/
def kthreeBoolsWrong : ChangeSpec := { name := "kthreeBools", fn := fun _ => fun
  | [d1, d2] => { results := [.lit (.bool false)], args := [d1, d2] }
  | _ => none }
def KthreeBoolsWrongFalsely : Prop := kthreeBoolsRow.holds Try.pinned (OpenSpec.ofChange kthreeBoolsWrong)

/-- 'telltalelaw17.KthreeMany': WHATEVER THE INPUT: true; the input reads as it did. -/
def kthreeManySpec : ChangeSpec := { name := "kthreeMany", fn := fun _ => fun
  | [d] => { results := [.lit (.bool true)], args := [d] }
  | _ => none }
def kthreeManyRow : OpenClaim := { program := "ytjmlpgnmooiheaa", sum := "6875526622f44d55fda687a45360a705adfc814cfc0f0acb2ade9c98dee2a8e2", func := "telltale/telltalelaw17.KthreeMany", spec := "kthreeMany", apart := false }
def KthreeManySaid : Prop := kthreeManyRow.holds Try.pinned (OpenSpec.ofChange kthreeManySpec)

/-- ITS FALSE NEIGHBOUR: 'it returns false'. Refute it at one input. -/
def kthreeManyWrong : ChangeSpec := { name := "kthreeMany", fn := fun _ => fun
  | [d] => { results := [.lit (.bool false)], args := [d] }
  | _ => none }
def KthreeManyWrongFalsely : Prop := kthreeManyRow.holds Try.pinned (OpenSpec.ofChange kthreeManyWrong)

/-- 'telltalelaw17.KthreeParts': WHATEVER THE INPUT: true; the input reads as it did. -/
def kthreePartsSpec : ChangeSpec := { name := "kthreeParts", fn := fun _ => fun
  | [d1, d2] => { results := [.lit (.bool true)], args := [d1, d2] }
  | _ => none }
def kthreePartsRow : OpenClaim := { program := "ytjmlpgnmooiheaa", sum := "6875526622f44d55fda687a45360a705adfc814cfc0f0acb2ade9c98dee2a8e2", func := "telltale/telltalelaw17.KthreeParts", spec := "kthreeParts", apart := false }
def KthreePartsSaid : Prop := kthreePartsRow.holds Try.pinned (OpenSpec.ofChange kthreePartsSpec)

/-- ITS FALSE NEIGHBOUR: 'it returns false'. Refute it at one input. -/
def kthreePartsWrong : ChangeSpec := { name := "kthreeParts", fn := fun _ => fun
  | [d1, d2] => { results := [.lit (.bool false)], args := [d1, d2] }
  | _ => none }
def KthreePartsWrongFalsely : Prop := kthreePartsRow.holds Try.pinned (OpenSpec.ofChange kthreePartsWrong)

/- THE SECOND FORM. 'bulk': how many values and letters a reading holds, each counted each time it is reached (what is shared counts as often as it is met; a slice's spare places count too). A statement '..UptoSaid' is the law's where the arguments, and the package variables that the reading takes, are together of bulk at most 1048576: NARROWER than '..Said'. Prove '..Said' where nothing that the law and all that it calls make is longer than what came in: it says more and counts as full. Else prove '..UptoSaid'. A law counts once. -/
mutual
def uptoBulk {H : Type} : DataW H → Nat
  | .lit (.string bytes) => bytes.length + 1
  | .lit _ => 1
  | .nil => 1
  | .ptr d => uptoBulk d + 1
  | .slice elems spare => uptoBulkAll elems + uptoBulkAll spare + 1
  | .agg parts => uptoBulkAll parts + 1
  | .iface _ d => uptoBulk d + 1
  | .map entries => uptoBulkEntries entries + 1
  | .held _ => 1
def uptoBulkAll {H : Type} : List (DataW H) → Nat
  | [] => 0
  | d :: r => uptoBulk d + uptoBulkAll r
def uptoBulkEntries {H : Type} : List (Lit × DataW H) → Nat
  | [] => 0
  | x :: r => uptoBulkEntry x + uptoBulkEntries r
def uptoBulkEntry {H : Type} : Lit × DataW H → Nat
  | (.string bytes, d) => bytes.length + uptoBulk d + 1
  | (_, d) => uptoBulk d + 1
 end
def uptoSmall : (H : Type) → List (DataW H) → Bool := fun _ ds => decide (uptoBulkAll ds ≤ 1048576)
def OpenSpec.upto (s : _root_.Go.ChangeSpec) : _root_.Go.OpenSpec := { _root_.Go.OpenSpec.ofChange s with cond := some uptoSmall }

/-- 'telltalelaw17.KthreeTells', WHERE WHAT IT READS IS OF BULK AT MOST 1048576: true; the input reads as it did. -/
def kthreeTellsUptoRow : OpenClaim := { program := "ytjmlpgnmooiheaa", sum := "6875526622f44d55fda687a45360a705adfc814cfc0f0acb2ade9c98dee2a8e2", func := "telltale/telltalelaw17.KthreeTells", spec := "kthreeTells", apart := false, narrowed := true }
def KthreeTellsUptoSaid : Prop := kthreeTellsUptoRow.holds Try.pinned (OpenSpec.upto kthreeTellsSpec)

/-- 'telltalelaw17.KthreeLaws', WHERE WHAT IT READS IS OF BULK AT MOST 1048576: true; the input reads as it did. -/
def kthreeLawsUptoRow : OpenClaim := { program := "ytjmlpgnmooiheaa", sum := "6875526622f44d55fda687a45360a705adfc814cfc0f0acb2ade9c98dee2a8e2", func := "telltale/telltalelaw17.KthreeLaws", spec := "kthreeLaws", apart := false, narrowed := true }
def KthreeLawsUptoSaid : Prop := kthreeLawsUptoRow.holds Try.pinned (OpenSpec.upto kthreeLawsSpec)

/-- 'telltalelaw17.KthreeKnown', WHERE WHAT IT READS IS OF BULK AT MOST 1048576: true; the input reads as it did. -/
def kthreeKnownUptoRow : OpenClaim := { program := "ytjmlpgnmooiheaa", sum := "6875526622f44d55fda687a45360a705adfc814cfc0f0acb2ade9c98dee2a8e2", func := "telltale/telltalelaw17.KthreeKnown", spec := "kthreeKnown", apart := false, narrowed := true }
def KthreeKnownUptoSaid : Prop := kthreeKnownUptoRow.holds Try.pinned (OpenSpec.upto kthreeKnownSpec)

/-- 'telltalelaw17.KthreeBools', WHERE WHAT IT READS IS OF BULK AT MOST 1048576: true; the input reads as it did. -/
def kthreeBoolsUptoRow : OpenClaim := { program := "ytjmlpgnmooiheaa", sum := "6875526622f44d55fda687a45360a705adfc814cfc0f0acb2ade9c98dee2a8e2", func := "telltale/telltalelaw17.KthreeBools", spec := "kthreeBools", apart := false, narrowed := true }
def KthreeBoolsUptoSaid : Prop := kthreeBoolsUptoRow.holds Try.pinned (OpenSpec.upto kthreeBoolsSpec)

/-- 'telltalelaw17.KthreeMany', WHERE WHAT IT READS IS OF BULK AT MOST 1048576: true; the input reads as it did. -/
def kthreeManyUptoRow : OpenClaim := { program := "ytjmlpgnmooiheaa", sum := "6875526622f44d55fda687a45360a705adfc814cfc0f0acb2ade9c98dee2a8e2", func := "telltale/telltalelaw17.KthreeMany", spec := "kthreeMany", apart := false, narrowed := true }
def KthreeManyUptoSaid : Prop := kthreeManyUptoRow.holds Try.pinned (OpenSpec.upto kthreeManySpec)

/-- 'telltalelaw17.KthreeParts', WHERE WHAT IT READS IS OF BULK AT MOST 1048576: true; the input reads as it did. -/
def kthreePartsUptoRow : OpenClaim := { program := "ytjmlpgnmooiheaa", sum := "6875526622f44d55fda687a45360a705adfc814cfc0f0acb2ade9c98dee2a8e2", func := "telltale/telltalelaw17.KthreeParts", spec := "kthreeParts", apart := false, narrowed := true }
def KthreePartsUptoSaid : Prop := kthreePartsUptoRow.holds Try.pinned (OpenSpec.upto kthreePartsSpec)

end Rows
end Go.Proofs.Ytjmlpgnmooiheaa
