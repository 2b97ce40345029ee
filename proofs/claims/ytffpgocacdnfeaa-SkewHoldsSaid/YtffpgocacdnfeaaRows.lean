/-
  No cell of these rows narrows 'for every input' (looked for: loops, veiled, ifaces, maps, wideKeys, modest, calm, conditions, laid).
  DERIVED. THE GIVEN ROWS OF THIS SEAT. 5 by the template 'for every input the law returns true; each argument reads behind the call as it read before'; 0 by the template 'total and deterministic' (their statements: YtffpgocacdnfeaaTotals.lean).
  GIVEN WITH THE SEED: the statements are not yours to turn. If you find one false, say at which input.
  Laid BY PROGRAM, IN A SANDBOX (cutbox-rows.mjs): the forced cells as the released guide's own fill.sh prints them over the translation cf0c14d6e1373b8a… (all of the seat's roots in one cut). By AI agents, Wed Nov 11 2026. No macro, syntax, notation, axiom, sorry.
-/
import Derived.Test.YtffpgocacdnfeaaChecked
import GoSem.Claim
import GoSem.ClaimJoined
import GoSem.ClaimMapViews
import Derived.JoinedTies
import Derived.KernelRfl
namespace Go.Proofs.Ytffpgocacdnfeaa
/- THE CELL 'sum', in the pinned program and in every row, IS THE sha256 OF THE DUMP (.gsa) THAT YtffpgocacdnfeaaProg.lean LOADS. Nothing in Lean hashes anything: it is a label: what it is worth is what the hold of that sum in a sandbox is worth. -/
noncomputable def Try.pinned : Pinned := { name := "ytffpgocacdnfeaa", sum := "cf0c14d6e1373b8a7ab798063615ded7143246b7ce4ec16faeb8cf93c7d384b3", checked := Try.checked }
namespace Rows
def none {H : Type} : Left H := { results := [], args := [] }

/-- 'telltalelaw10.SkewHolds': WHATEVER THE INPUT: true; the input reads as it did. -/
def skewHoldsSpec : ChangeSpec := { name := "skewHolds", fn := fun _ => fun
  | [d1, d2, d3] => { results := [.lit (.bool true)], args := [d1, d2, d3] }
  | _ => none }
def skewHoldsRow : OpenClaim := { program := "ytffpgocacdnfeaa", sum := "cf0c14d6e1373b8a7ab798063615ded7143246b7ce4ec16faeb8cf93c7d384b3", func := "telltale/telltalelaw10.SkewHolds", spec := "skewHolds", unfollowed := true, recurses := true, apart := false }
def SkewHoldsSaid : Prop := skewHoldsRow.holds Try.pinned (OpenSpec.ofChange skewHoldsSpec)

/-- ITS FALSE NEIGHBOUR: 'it returns false'. Refute it at one input. -/
def skewHoldsWrong : ChangeSpec := { name := "skewHolds", fn := fun _ => fun
  | [d1, d2, d3] => { results := [.lit (.bool false)], args := [d1, d2, d3] }
  | _ => none }
def SkewHoldsWrongFalsely : Prop := skewHoldsRow.holds Try.pinned (OpenSpec.ofChange skewHoldsWrong)

/-- 'telltalelaw10.SkewNarrow': WHATEVER THE INPUT: true; the input reads as it did. -/
def skewNarrowSpec : ChangeSpec := { name := "skewNarrow", fn := fun _ => fun
  | [d1, d2, d3, d4] => { results := [.lit (.bool true)], args := [d1, d2, d3, d4] }
  | _ => none }
def skewNarrowRow : OpenClaim := { program := "ytffpgocacdnfeaa", sum := "cf0c14d6e1373b8a7ab798063615ded7143246b7ce4ec16faeb8cf93c7d384b3", func := "telltale/telltalelaw10.SkewNarrow", spec := "skewNarrow", unfollowed := true, recurses := true, apart := false }
def SkewNarrowSaid : Prop := skewNarrowRow.holds Try.pinned (OpenSpec.ofChange skewNarrowSpec)

/-- ITS FALSE NEIGHBOUR: 'it returns false'. Refute it at one input. -/
def skewNarrowWrong : ChangeSpec := { name := "skewNarrow", fn := fun _ => fun
  | [d1, d2, d3, d4] => { results := [.lit (.bool false)], args := [d1, d2, d3, d4] }
  | _ => none }
def SkewNarrowWrongFalsely : Prop := skewNarrowRow.holds Try.pinned (OpenSpec.ofChange skewNarrowWrong)

/-- 'telltalelaw10.SkewAgain': WHATEVER THE INPUT: true; the input reads as it did. -/
def skewAgainSpec : ChangeSpec := { name := "skewAgain", fn := fun _ => fun
  | [d1, d2, d3, d4] => { results := [.lit (.bool true)], args := [d1, d2, d3, d4] }
  | _ => none }
def skewAgainRow : OpenClaim := { program := "ytffpgocacdnfeaa", sum := "cf0c14d6e1373b8a7ab798063615ded7143246b7ce4ec16faeb8cf93c7d384b3", func := "telltale/telltalelaw10.SkewAgain", spec := "skewAgain", unfollowed := true, recurses := true, apart := false }
def SkewAgainSaid : Prop := skewAgainRow.holds Try.pinned (OpenSpec.ofChange skewAgainSpec)

/-- ITS FALSE NEIGHBOUR: 'it returns false'. Refute it at one input. -/
def skewAgainWrong : ChangeSpec := { name := "skewAgain", fn := fun _ => fun
  | [d1, d2, d3, d4] => { results := [.lit (.bool false)], args := [d1, d2, d3, d4] }
  | _ => none }
def SkewAgainWrongFalsely : Prop := skewAgainRow.holds Try.pinned (OpenSpec.ofChange skewAgainWrong)

/-- 'telltalelaw10.SkewWide': WHATEVER THE INPUT: true; the input reads as it did. -/
def skewWideSpec : ChangeSpec := { name := "skewWide", fn := fun _ => fun
  | [d1, d2, d3] => { results := [.lit (.bool true)], args := [d1, d2, d3] }
  | _ => none }
def skewWideRow : OpenClaim := { program := "ytffpgocacdnfeaa", sum := "cf0c14d6e1373b8a7ab798063615ded7143246b7ce4ec16faeb8cf93c7d384b3", func := "telltale/telltalelaw10.SkewWide", spec := "skewWide", unfollowed := true, recurses := true, apart := false }
def SkewWideSaid : Prop := skewWideRow.holds Try.pinned (OpenSpec.ofChange skewWideSpec)

/-- ITS FALSE NEIGHBOUR: 'it returns false'. Refute it at one input. -/
def skewWideWrong : ChangeSpec := { name := "skewWide", fn := fun _ => fun
  | [d1, d2, d3] => { results := [.lit (.bool false)], args := [d1, d2, d3] }
  | _ => none }
def SkewWideWrongFalsely : Prop := skewWideRow.holds Try.pinned (OpenSpec.ofChange skewWideWrong)

/-- 'telltalelaw10.SkewLater': WHATEVER THE INPUT: true; the input reads as it did. -/
def skewLaterSpec : ChangeSpec := { name := "skewLater", fn := fun _ => fun
  | [d1, d2, d3, d4] => { results := [.lit (.bool true)], args := [d1, d2, d3, d4] }
  | _ => none }
def skewLaterRow : OpenClaim := { program := "ytffpgocacdnfeaa", sum := "cf0c14d6e1373b8a7ab798063615ded7143246b7ce4ec16faeb8cf93c7d384b3", func := "telltale/telltalelaw10.SkewLater", spec := "skewLater", unfollowed := true, recurses := true, apart := false }
def SkewLaterSaid : Prop := skewLaterRow.holds Try.pinned (OpenSpec.ofChange skewLaterSpec)

/-- ITS FALSE NEIGHBOUR: 'it returns false'. Refute it at one input. -/
def skewLaterWrong : ChangeSpec := { name := "skewLater", fn := fun _ => fun
  | [d1, d2, d3, d4] => { results := [.lit (.bool false)], args := [d1, d2, d3, d4] }
  | _ => none }
def SkewLaterWrongFalsely : Prop := skewLaterRow.holds Try.pinned (OpenSpec.ofChange skewLaterWrong)

/- THE SECOND FORM. 'bulk': how many values and letters a reading holds, each counted each time it is reached (what is shared counts as often as it is met; a slice's spare places count too). A statement '..UptoSaid' is the law's where the arguments, and the package variables that the reading takes, are together of bulk at most 1048576: NARROWER than '..Said'. Prove '..Said' where nothing that the law and all that it calls make is longer than what came in: it says more and counts as full. Else prove '..UptoSaid'. A law counts once. -/
mutual
def uptoBulk {H : Type} : DataW H → Nat
  | .lit (.string bytes) => bytes.length + 1
  | .lit _ => 1
  | .nil => 1
  | .ptr d => uptoBulk d + 1
  | .slice elems spare => uptoBulkAll elems + uptoBulkAll spare + 1
  | .agg parts => uptoBulkAll parts + 1
  | .iface _ d => uptoBulk d + 1
  | .map entries => uptoBulkEntries entries + 1
  | .held _ => 1
def uptoBulkAll {H : Type} : List (DataW H) → Nat
  | [] => 0
  | d :: r => uptoBulk d + uptoBulkAll r
def uptoBulkEntries {H : Type} : List (Lit × DataW H) → Nat
  | [] => 0
  | x :: r => uptoBulkEntry x + uptoBulkEntries r
def uptoBulkEntry {H : Type} : Lit × DataW H → Nat
  | (.string bytes, d) => bytes.length + uptoBulk d + 1
  | (_, d) => uptoBulk d + 1
 end
def uptoSmall : (H : Type) → List (DataW H) → Bool := fun _ ds => decide (uptoBulkAll ds ≤ 1048576)
def OpenSpec.upto (s : _root_.Go.ChangeSpec) : _root_.Go.OpenSpec := { _root_.Go.OpenSpec.ofChange s with cond := some uptoSmall }

/-- 'telltalelaw10.SkewHolds', WHERE WHAT IT READS IS OF BULK AT MOST 1048576: true; the input reads as it did. -/
def skewHoldsUptoRow : OpenClaim := { program := "ytffpgocacdnfeaa", sum := "cf0c14d6e1373b8a7ab798063615ded7143246b7ce4ec16faeb8cf93c7d384b3", func := "telltale/telltalelaw10.SkewHolds", spec := "skewHolds", unfollowed := true, recurses := true, apart := false, narrowed := true }
def SkewHoldsUptoSaid : Prop := skewHoldsUptoRow.holds Try.pinned (OpenSpec.upto skewHoldsSpec)

/-- 'telltalelaw10.SkewNarrow', WHERE WHAT IT READS IS OF BULK AT MOST 1048576: true; the input reads as it did. -/
def skewNarrowUptoRow : OpenClaim := { program := "ytffpgocacdnfeaa", sum := "cf0c14d6e1373b8a7ab798063615ded7143246b7ce4ec16faeb8cf93c7d384b3", func := "telltale/telltalelaw10.SkewNarrow", spec := "skewNarrow", unfollowed := true, recurses := true, apart := false, narrowed := true }
def SkewNarrowUptoSaid : Prop := skewNarrowUptoRow.holds Try.pinned (OpenSpec.upto skewNarrowSpec)

/-- 'telltalelaw10.SkewAgain', WHERE WHAT IT READS IS OF BULK AT MOST 1048576: true; the input reads as it did. -/
def skewAgainUptoRow : OpenClaim := { program := "ytffpgocacdnfeaa", sum := "cf0c14d6e1373b8a7ab798063615ded7143246b7ce4ec16faeb8cf93c7d384b3", func := "telltale/telltalelaw10.SkewAgain", spec := "skewAgain", unfollowed := true, recurses := true, apart := false, narrowed := true }
def SkewAgainUptoSaid : Prop := skewAgainUptoRow.holds Try.pinned (OpenSpec.upto skewAgainSpec)

/-- 'telltalelaw10.SkewWide', WHERE WHAT IT READS IS OF BULK AT MOST 1048576: true; the input reads as it did. -/
def skewWideUptoRow : OpenClaim := { program := "ytffpgocacdnfeaa", sum := "cf0c14d6e1373b8a7ab798063615ded7143246b7ce4ec16faeb8cf93c7d384b3", func := "telltale/telltalelaw10.SkewWide", spec := "skewWide", unfollowed := true, recurses := true, apart := false, narrowed := true }
def SkewWideUptoSaid : Prop := skewWideUptoRow.holds Try.pinned (OpenSpec.upto skewWideSpec)

/-- 'telltalelaw10.SkewLater', WHERE WHAT IT READS IS OF BULK AT MOST 1048576: true; the input reads as it did. -/
def skewLaterUptoRow : OpenClaim := { program := "ytffpgocacdnfeaa", sum := "cf0c14d6e1373b8a7ab798063615ded7143246b7ce4ec16faeb8cf93c7d384b3", func := "telltale/telltalelaw10.SkewLater", spec := "skewLater", unfollowed := true, recurses := true, apart := false, narrowed := true }
def SkewLaterUptoSaid : Prop := skewLaterUptoRow.holds Try.pinned (OpenSpec.upto skewLaterSpec)

end Rows
end Go.Proofs.Ytffpgocacdnfeaa
