/-
  No cell of these rows narrows 'for every input' (looked for: loops, veiled, ifaces, maps, wideKeys, modest, calm, conditions, laid).
  DERIVED. THE GIVEN ROWS OF THIS SEAT. 6 by the template 'for every input the law returns true; each argument reads behind the call as it read before'; 0 by the template 'total and deterministic' (their statements: YtcdmojimdiiepaaTotals.lean).
  GIVEN WITH THE SEED: the statements are not yours to turn. If you find one false, say at which input.
  Laid BY PROGRAM, IN A SANDBOX (cutbox-rows.mjs): the forced cells as the released guide's own fill.sh prints them over the translation 4e1a09ae7dc7c87b… (all of the seat's roots in one cut). By AI agents, Wed Nov 11 2026. No macro, syntax, notation, axiom, sorry.
-/
import Derived.Test.YtcdmojimdiiepaaChecked
import GoSem.Claim
import GoSem.ClaimJoined
import GoSem.ClaimMapViews
import Derived.JoinedTies
import Derived.KernelRfl
namespace Go.Proofs.Ytcdmojimdiiepaa
/- THE CELL 'sum', in the pinned program and in every row, IS THE sha256 OF THE DUMP (.gsa) THAT YtcdmojimdiiepaaProg.lean LOADS. Nothing in Lean hashes anything: it is a label: what it is worth is what the hold of that sum in a sandbox is worth. -/
noncomputable def Try.pinned : Pinned := { name := "ytcdmojimdiiepaa", sum := "4e1a09ae7dc7c87b2ae0a59dddcf7cad7ba158886cb4b032c42c9a4fc9ddae50", checked := Try.checked }
namespace Rows
def none {H : Type} : Left H := { results := [], args := [] }

/-- 'telltalelaw21.AlarmTells': WHATEVER THE INPUT: true; the input reads as it did. -/
def alarmTellsSpec : ChangeSpec := { name := "alarmTells", fn := fun _ => fun
  | [d1, d2] => { results := [.lit (.bool true)], args := [d1, d2] }
  | _ => none }
def alarmTellsRow : OpenClaim := { program := "ytcdmojimdiiepaa", sum := "4e1a09ae7dc7c87b2ae0a59dddcf7cad7ba158886cb4b032c42c9a4fc9ddae50", func := "telltale/telltalelaw21.AlarmTells", spec := "alarmTells", unfollowed := true, recurses := true, apart := false }
def AlarmTellsSaid : Prop := alarmTellsRow.holds Try.pinned (OpenSpec.ofChange alarmTellsSpec)

/-- ITS FALSE NEIGHBOUR: 'it returns false'. Refute it at one input. -/
def alarmTellsWrong : ChangeSpec := { name := "alarmTells", fn := fun _ => fun
  | [d1, d2] => { results := [.lit (.bool false)], args := [d1, d2] }
  | _ => none }
def AlarmTellsWrongFalsely : Prop := alarmTellsRow.holds Try.pinned (OpenSpec.ofChange alarmTellsWrong)

/-- 'telltalelaw21.AlarmFolds': WHATEVER THE INPUT: true; the input reads as it did. -/
def alarmFoldsSpec : ChangeSpec := { name := "alarmFolds", fn := fun _ => fun
  | [d1, d2] => { results := [.lit (.bool true)], args := [d1, d2] }
  | _ => none }
def alarmFoldsRow : OpenClaim := { program := "ytcdmojimdiiepaa", sum := "4e1a09ae7dc7c87b2ae0a59dddcf7cad7ba158886cb4b032c42c9a4fc9ddae50", func := "telltale/telltalelaw21.AlarmFolds", spec := "alarmFolds", unfollowed := true, recurses := true, apart := false }
def AlarmFoldsSaid : Prop := alarmFoldsRow.holds Try.pinned (OpenSpec.ofChange alarmFoldsSpec)

/-- ITS FALSE NEIGHBOUR: 'it returns false'. Refute it at one input. -/
def alarmFoldsWrong : ChangeSpec := { name := "alarmFolds", fn := fun _ => fun
  | [d1, d2] => { results := [.lit (.bool false)], args := [d1, d2] }
  | _ => none }
def AlarmFoldsWrongFalsely : Prop := alarmFoldsRow.holds Try.pinned (OpenSpec.ofChange alarmFoldsWrong)

/-- 'telltalelaw21.AlarmApart': WHATEVER THE INPUT: true; the input reads as it did. -/
def alarmApartSpec : ChangeSpec := { name := "alarmApart", fn := fun _ => fun
  | [d1, d2, d3, d4] => { results := [.lit (.bool true)], args := [d1, d2, d3, d4] }
  | _ => none }
def alarmApartRow : OpenClaim := { program := "ytcdmojimdiiepaa", sum := "4e1a09ae7dc7c87b2ae0a59dddcf7cad7ba158886cb4b032c42c9a4fc9ddae50", func := "telltale/telltalelaw21.AlarmApart", spec := "alarmApart", unfollowed := true, recurses := true, apart := false }
def AlarmApartSaid : Prop := alarmApartRow.holds Try.pinned (OpenSpec.ofChange alarmApartSpec)

/-- ITS FALSE NEIGHBOUR: 'it returns false'. Refute it at one input. -/
def alarmApartWrong : ChangeSpec := { name := "alarmApart", fn := fun _ => fun
  | [d1, d2, d3, d4] => { results := [.lit (.bool false)], args := [d1, d2, d3, d4] }
  | _ => none }
def AlarmApartWrongFalsely : Prop := alarmApartRow.holds Try.pinned (OpenSpec.ofChange alarmApartWrong)

/-- 'telltalelaw21.AlarmStale': WHATEVER THE INPUT: true; the input reads as it did. -/
def alarmStaleSpec : ChangeSpec := { name := "alarmStale", fn := fun _ => fun
  | [d1, d2, d3] => { results := [.lit (.bool true)], args := [d1, d2, d3] }
  | _ => none }
def alarmStaleRow : OpenClaim := { program := "ytcdmojimdiiepaa", sum := "4e1a09ae7dc7c87b2ae0a59dddcf7cad7ba158886cb4b032c42c9a4fc9ddae50", func := "telltale/telltalelaw21.AlarmStale", spec := "alarmStale", unfollowed := true, recurses := true, apart := false }
def AlarmStaleSaid : Prop := alarmStaleRow.holds Try.pinned (OpenSpec.ofChange alarmStaleSpec)

/-- ITS FALSE NEIGHBOUR: 'it returns false'. Refute it at one input. -/
def alarmStaleWrong : ChangeSpec := { name := "alarmStale", fn := fun _ => fun
  | [d1, d2, d3] => { results := [.lit (.bool false)], args := [d1, d2, d3] }
  | _ => none }
def AlarmStaleWrongFalsely : Prop := alarmStaleRow.holds Try.pinned (OpenSpec.ofChange alarmStaleWrong)

/-- 'telltalelaw21.AlarmKnown': WHATEVER THE INPUT: true; the input reads as it did. -/
def alarmKnownSpec : ChangeSpec := { name := "alarmKnown", fn := fun _ => fun
  | [d1, d2, d3] => { results := [.lit (.bool true)], args := [d1, d2, d3] }
  | _ => none }
def alarmKnownRow : OpenClaim := { program := "ytcdmojimdiiepaa", sum := "4e1a09ae7dc7c87b2ae0a59dddcf7cad7ba158886cb4b032c42c9a4fc9ddae50", func := "telltale/telltalelaw21.AlarmKnown", spec := "alarmKnown", unfollowed := true, recurses := true, apart := false }
def AlarmKnownSaid : Prop := alarmKnownRow.holds Try.pinned (OpenSpec.ofChange alarmKnownSpec)

/-- ITS FALSE NEIGHBOUR: 'it returns false'. Refute it at one input. -/
def alarmKnownWrong : ChangeSpec := { name := "alarmKnown", fn := fun _ => fun
  | [d1, d2, d3] => { results := [.lit (.bool false)], args := [d1, d2, d3] }
  | _ => none }
def AlarmKnownWrongFalsely : Prop := alarmKnownRow.holds Try.pinned (OpenSpec.ofChange alarmKnownWrong)

/-- 'telltalelaw21.AlarmRefused': WHATEVER THE INPUT: true; the input reads as it did. -/
def alarmRefusedSpec : ChangeSpec := { name := "alarmRefused", fn := fun _ => fun
  | [d1, d2, d3, d4, d5] => { results := [.lit (.bool true)], args := [d1, d2, d3, d4, d5] }
  | _ => none }
def alarmRefusedRow : OpenClaim := { program := "ytcdmojimdiiepaa", sum := "4e1a09ae7dc7c87b2ae0a59dddcf7cad7ba158886cb4b032c42c9a4fc9ddae50", func := "telltale/telltalelaw21.AlarmRefused", spec := "alarmRefused", unfollowed := true, recurses := true, apart := false }
def AlarmRefusedSaid : Prop := alarmRefusedRow.holds Try.pinned (OpenSpec.ofChange alarmRefusedSpec)

/-- ITS FALSE NEIGHBOUR: 'it returns false'. Refute it at one input. -/
def alarmRefusedWrong : ChangeSpec := { name := "alarmRefused", fn := fun _ => fun
  | [d1, d2, d3, d4, d5] => { results := [.lit (.bool false)], args := [d1, d2, d3, d4, d5] }
  | _ => none }
def AlarmRefusedWrongFalsely : Prop := alarmRefusedRow.holds Try.pinned (OpenSpec.ofChange alarmRefusedWrong)

/- THE SECOND FORM. 'bulk': how many values and letters a reading holds, each counted each time it is reached (what is shared counts as often as it is met; a slice's spare places count too). A statement '..UptoSaid' is the law's where the arguments, and the package variables that the reading takes, are together of bulk at most 1048576: NARROWER than '..Said'. Prove '..Said' where nothing that the law and all that it calls make is longer than what came in: it says more and counts as full. Else prove '..UptoSaid'. A law counts once. -/
mutual
def uptoBulk {H : Type} : DataW H → Nat
  | .lit (.string bytes) => bytes.length + 1
  | .lit _ => 1
  | .nil => 1
  | .ptr d => uptoBulk d + 1
  | .slice elems spare => uptoBulkAll elems + uptoBulkAll spare + 1
  | .agg parts => uptoBulkAll parts + 1
  | .iface _ d => uptoBulk d + 1
  | .map entries => uptoBulkEntries entries + 1
  | .held _ => 1
def uptoBulkAll {H : Type} : List (DataW H) → Nat
  | [] => 0
  | d :: r => uptoBulk d + uptoBulkAll r
def uptoBulkEntries {H : Type} : List (Lit × DataW H) → Nat
  | [] => 0
  | x :: r => uptoBulkEntry x + uptoBulkEntries r
def uptoBulkEntry {H : Type} : Lit × DataW H → Nat
  | (.string bytes, d) => bytes.length + uptoBulk d + 1
  | (_, d) => uptoBulk d + 1
 end
def uptoSmall : (H : Type) → List (DataW H) → Bool := fun _ ds => decide (uptoBulkAll ds ≤ 1048576)
def OpenSpec.upto (s : _root_.Go.ChangeSpec) : _root_.Go.OpenSpec := { _root_.Go.OpenSpec.ofChange s with cond := some uptoSmall }

/-- 'telltalelaw21.AlarmTells', WHERE WHAT IT READS IS OF BULK AT MOST 1048576: true; the input reads as it did. -/
def alarmTellsUptoRow : OpenClaim := { program := "ytcdmojimdiiepaa", sum := "4e1a09ae7dc7c87b2ae0a59dddcf7cad7ba158886cb4b032c42c9a4fc9ddae50", func := "telltale/telltalelaw21.AlarmTells", spec := "alarmTells", unfollowed := true, recurses := true, apart := false, narrowed := true }
def AlarmTellsUptoSaid : Prop := alarmTellsUptoRow.holds Try.pinned (OpenSpec.upto alarmTellsSpec)

/-- 'telltalelaw21.AlarmFolds', WHERE WHAT IT READS IS OF BULK AT MOST 1048576: true; the input reads as it did. -/
def alarmFoldsUptoRow : OpenClaim := { program := "ytcdmojimdiiepaa", sum := "4e1a09ae7dc7c87b2ae0a59dddcf7cad7ba158886cb4b032c42c9a4fc9ddae50", func := "telltale/telltalelaw21.AlarmFolds", spec := "alarmFolds", unfollowed := true, recurses := true, apart := false, narrowed := true }
def AlarmFoldsUptoSaid : Prop := alarmFoldsUptoRow.holds Try.pinned (OpenSpec.upto alarmFoldsSpec)

/-- 'telltalelaw21.AlarmApart', WHERE WHAT IT READS IS OF BULK AT MOST 1048576: true; the input reads as it did. -/
def alarmApartUptoRow : OpenClaim := { program := "ytcdmojimdiiepaa", sum := "4e1a09ae7dc7c87b2ae0a59dddcf7cad7ba158886cb4b032c42c9a4fc9ddae50", func := "telltale/telltalelaw21.AlarmApart", spec := "alarmApart", unfollowed := true, recurses := true, apart := false, narrowed := true }
def AlarmApartUptoSaid : Prop := alarmApartUptoRow.holds Try.pinned (OpenSpec.upto alarmApartSpec)

/-- 'telltalelaw21.AlarmStale', WHERE WHAT IT READS IS OF BULK AT MOST 1048576: true; the input reads as it did. -/
def alarmStaleUptoRow : OpenClaim := { program := "ytcdmojimdiiepaa", sum := "4e1a09ae7dc7c87b2ae0a59dddcf7cad7ba158886cb4b032c42c9a4fc9ddae50", func := "telltale/telltalelaw21.AlarmStale", spec := "alarmStale", unfollowed := true, recurses := true, apart := false, narrowed := true }
def AlarmStaleUptoSaid : Prop := alarmStaleUptoRow.holds Try.pinned (OpenSpec.upto alarmStaleSpec)

/-- 'telltalelaw21.AlarmKnown', WHERE WHAT IT READS IS OF BULK AT MOST 1048576: true; the input reads as it did. -/
def alarmKnownUptoRow : OpenClaim := { program := "ytcdmojimdiiepaa", sum := "4e1a09ae7dc7c87b2ae0a59dddcf7cad7ba158886cb4b032c42c9a4fc9ddae50", func := "telltale/telltalelaw21.AlarmKnown", spec := "alarmKnown", unfollowed := true, recurses := true, apart := false, narrowed := true }
def AlarmKnownUptoSaid : Prop := alarmKnownUptoRow.holds Try.pinned (OpenSpec.upto alarmKnownSpec)

/-- 'telltalelaw21.AlarmRefused', WHERE WHAT IT READS IS OF BULK AT MOST 1048576: true; the input reads as it did. -/
def alarmRefusedUptoRow : OpenClaim := { program := "ytcdmojimdiiepaa", sum := "4e1a09ae7dc7c87b2ae0a59dddcf7cad7ba158886cb4b032c42c9a4fc9ddae50", func := "telltale/telltalelaw21.AlarmRefused", spec := "alarmRefused", unfollowed := true, recurses := true, apart := false, narrowed := true }
def AlarmRefusedUptoSaid : Prop := alarmRefusedUptoRow.holds Try.pinned (OpenSpec.upto alarmRefusedSpec)

end Rows
end Go.Proofs.Ytcdmojimdiiepaa
