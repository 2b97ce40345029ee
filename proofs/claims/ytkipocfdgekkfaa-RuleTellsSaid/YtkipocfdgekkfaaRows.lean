/-
  No cell of these rows narrows 'for every input' (looked for: loops, veiled, ifaces, maps, wideKeys, modest, calm, conditions, laid).
  DERIVED. THE GIVEN ROWS OF THIS SEAT. 6 by the template 'for every input the law returns true; each argument reads behind the call as it read before'; 0 by the template 'total and deterministic' (their statements: YtkipocfdgekkfaaTotals.lean).
  GIVEN WITH THE SEED: the statements are not yours to turn. If you find one false, say at which input.
  Laid BY PROGRAM, IN A SANDBOX (cutbox-rows.mjs): the forced cells as the released guide's own fill.sh prints them over the translation 503f7320b37c2e38… (all of the seat's roots in one cut). By AI agents, Wed Nov 11 2026. No macro, syntax, notation, axiom, sorry.
-/
import Derived.Test.YtkipocfdgekkfaaChecked
import GoSem.Claim
import GoSem.ClaimJoined
import GoSem.ClaimMapViews
import Derived.JoinedTies
import Derived.KernelRfl
namespace Go.Proofs.Ytkipocfdgekkfaa
/- THE CELL 'sum', in the pinned program and in every row, IS THE sha256 OF THE DUMP (.gsa) THAT YtkipocfdgekkfaaProg.lean LOADS. Nothing in Lean hashes anything: it is a label: what it is worth is what the hold of that sum in a sandbox is worth. -/
noncomputable def Try.pinned : Pinned := { name := "ytkipocfdgekkfaa", sum := "503f7320b37c2e382441949c30ab1ae49ff8cc7f253aab1a0ef08ce7daa69ed2", checked := Try.checked }
namespace Rows
def none {H : Type} : Left H := { results := [], args := [] }

/-- 'telltalelaw18.RuleTells': WHATEVER THE INPUT: true; the input reads as it did. -/
def ruleTellsSpec : ChangeSpec := { name := "ruleTells", fn := fun _ => fun
  | [d1, d2, d3] => { results := [.lit (.bool true)], args := [d1, d2, d3] }
  | _ => none }
def ruleTellsRow : OpenClaim := { program := "ytkipocfdgekkfaa", sum := "503f7320b37c2e382441949c30ab1ae49ff8cc7f253aab1a0ef08ce7daa69ed2", func := "telltale/telltalelaw18.RuleTells", spec := "ruleTells", unfollowed := true, recurses := true, apart := false }
def RuleTellsSaid : Prop := ruleTellsRow.holds Try.pinned (OpenSpec.ofChange ruleTellsSpec)

/-- ITS FALSE NEIGHBOUR: 'it returns false'. Refute it at one input. -/
def ruleTellsWrong : ChangeSpec := { name := "ruleTells", fn := fun _ => fun
  | [d1, d2, d3] => { results := [.lit (.bool false)], args := [d1, d2, d3] }
  | _ => none }
def RuleTellsWrongFalsely : Prop := ruleTellsRow.holds Try.pinned (OpenSpec.ofChange ruleTellsWrong)

/-- 'telltalelaw18.RuleKnown': WHATEVER THE INPUT: true; the input reads as it did. -/
def ruleKnownSpec : ChangeSpec := { name := "ruleKnown", fn := fun _ => fun
  | [d1, d2, d3] => { results := [.lit (.bool true)], args := [d1, d2, d3] }
  | _ => none }
def ruleKnownRow : OpenClaim := { program := "ytkipocfdgekkfaa", sum := "503f7320b37c2e382441949c30ab1ae49ff8cc7f253aab1a0ef08ce7daa69ed2", func := "telltale/telltalelaw18.RuleKnown", spec := "ruleKnown", unfollowed := true, recurses := true, apart := false }
def RuleKnownSaid : Prop := ruleKnownRow.holds Try.pinned (OpenSpec.ofChange ruleKnownSpec)

/-- ITS FALSE NEIGHBOUR: 'it returns false'. Refute it at one input. -/
def ruleKnownWrong : ChangeSpec := { name := "ruleKnown", fn := fun _ => fun
  | [d1, d2, d3] => { results := [.lit (.bool false)], args := [d1, d2, d3] }
  | _ => none }
def RuleKnownWrongFalsely : Prop := ruleKnownRow.holds Try.pinned (OpenSpec.ofChange ruleKnownWrong)

/-- 'telltalelaw18.RuleChannels': WHATEVER THE INPUT: true; the input reads as it did. -/
def ruleChannelsSpec : ChangeSpec := { name := "ruleChannels", fn := fun _ => fun
  | [d1, d2, d3] => { results := [.lit (.bool true)], args := [d1, d2, d3] }
  | _ => none }
def ruleChannelsRow : OpenClaim := { program := "ytkipocfdgekkfaa", sum := "503f7320b37c2e382441949c30ab1ae49ff8cc7f253aab1a0ef08ce7daa69ed2", func := "telltale/telltalelaw18.RuleChannels", spec := "ruleChannels", unfollowed := true, recurses := true, apart := false }
def RuleChannelsSaid : Prop := ruleChannelsRow.holds Try.pinned (OpenSpec.ofChange ruleChannelsSpec)

/-- ITS FALSE NEIGHBOUR: 'it returns false'. Refute it at one input. -/
def ruleChannelsWrong : ChangeSpec := { name := "ruleChannels", fn := fun _ => fun
  | [d1, d2, d3] => { results := [.lit (.bool false)], args := [d1, d2, d3] }
  | _ => none }
def RuleChannelsWrongFalsely : Prop := ruleChannelsRow.holds Try.pinned (OpenSpec.ofChange ruleChannelsWrong)

/-- 'telltalelaw18.RuleJoined': WHATEVER THE INPUT: true; the input reads as it did. -/
def ruleJoinedSpec : ChangeSpec := { name := "ruleJoined", fn := fun _ => fun
  | [d1, d2, d3] => { results := [.lit (.bool true)], args := [d1, d2, d3] }
  | _ => none }
def ruleJoinedRow : OpenClaim := { program := "ytkipocfdgekkfaa", sum := "503f7320b37c2e382441949c30ab1ae49ff8cc7f253aab1a0ef08ce7daa69ed2", func := "telltale/telltalelaw18.RuleJoined", spec := "ruleJoined", unfollowed := true, recurses := true, apart := false }
def RuleJoinedSaid : Prop := ruleJoinedRow.holds Try.pinned (OpenSpec.ofChange ruleJoinedSpec)

/-- ITS FALSE NEIGHBOUR: 'it returns false'. Refute it at one input. -/
def ruleJoinedWrong : ChangeSpec := { name := "ruleJoined", fn := fun _ => fun
  | [d1, d2, d3] => { results := [.lit (.bool false)], args := [d1, d2, d3] }
  | _ => none }
def RuleJoinedWrongFalsely : Prop := ruleJoinedRow.holds Try.pinned (OpenSpec.ofChange ruleJoinedWrong)

/-- 'telltalelaw18.RuleLimit': WHATEVER THE INPUT: true; the input reads as it did. -/
def ruleLimitSpec : ChangeSpec := { name := "ruleLimit", fn := fun _ => fun
  | [d1, d2, d3] => { results := [.lit (.bool true)], args := [d1, d2, d3] }
  | _ => none }
def ruleLimitRow : OpenClaim := { program := "ytkipocfdgekkfaa", sum := "503f7320b37c2e382441949c30ab1ae49ff8cc7f253aab1a0ef08ce7daa69ed2", func := "telltale/telltalelaw18.RuleLimit", spec := "ruleLimit", unfollowed := true, recurses := true, apart := false }
def RuleLimitSaid : Prop := ruleLimitRow.holds Try.pinned (OpenSpec.ofChange ruleLimitSpec)

/-- ITS FALSE NEIGHBOUR: 'it returns false'. Refute it at one input. -/
def ruleLimitWrong : ChangeSpec := { name := "ruleLimit", fn := fun _ => fun
  | [d1, d2, d3] => { results := [.lit (.bool false)], args := [d1, d2, d3] }
  | _ => none }
def RuleLimitWrongFalsely : Prop := ruleLimitRow.holds Try.pinned (OpenSpec.ofChange ruleLimitWrong)

/-- 'telltalelaw18.RuleSpoilt': WHATEVER THE INPUT: true; the input reads as it did. -/
def ruleSpoiltSpec : ChangeSpec := { name := "ruleSpoilt", fn := fun _ => fun
  | [d1, d2] => { results := [.lit (.bool true)], args := [d1, d2] }
  | _ => none }
def ruleSpoiltRow : OpenClaim := { program := "ytkipocfdgekkfaa", sum := "503f7320b37c2e382441949c30ab1ae49ff8cc7f253aab1a0ef08ce7daa69ed2", func := "telltale/telltalelaw18.RuleSpoilt", spec := "ruleSpoilt", unfollowed := true, recurses := true, apart := false }
def RuleSpoiltSaid : Prop := ruleSpoiltRow.holds Try.pinned (OpenSpec.ofChange ruleSpoiltSpec)

/-- ITS FALSE NEIGHBOUR: 'it returns false'. Refute it at one input. -/
def ruleSpoiltWrong : ChangeSpec := { name := "ruleSpoilt", fn := fun _ => fun
  | [d1, d2] => { results := [.lit (.bool false)], args := [d1, d2] }
  | _ => none }
def RuleSpoiltWrongFalsely : Prop := ruleSpoiltRow.holds Try.pinned (OpenSpec.ofChange ruleSpoiltWrong)

/- THE SECOND FORM. 'bulk': how many values and letters a reading holds, each counted each time it is reached (what is shared counts as often as it is met; a slice's spare places count too). A statement '..UptoSaid' is the law's where the arguments, and the package variables that the reading takes, are together of bulk at most 1048576: NARROWER than '..Said'. Prove '..Said' where nothing that the law and all that it calls make is longer than what came in: it says more and counts as full. Else prove '..UptoSaid'. A law counts once. -/
mutual
def uptoBulk {H : Type} : DataW H → Nat
  | .lit (.string bytes) => bytes.length + 1
  | .lit _ => 1
  | .nil => 1
  | .ptr d => uptoBulk d + 1
  | .slice elems spare => uptoBulkAll elems + uptoBulkAll spare + 1
  | .agg parts => uptoBulkAll parts + 1
  | .iface _ d => uptoBulk d + 1
  | .map entries => uptoBulkEntries entries + 1
  | .held _ => 1
def uptoBulkAll {H : Type} : List (DataW H) → Nat
  | [] => 0
  | d :: r => uptoBulk d + uptoBulkAll r
def uptoBulkEntries {H : Type} : List (Lit × DataW H) → Nat
  | [] => 0
  | x :: r => uptoBulkEntry x + uptoBulkEntries r
def uptoBulkEntry {H : Type} : Lit × DataW H → Nat
  | (.string bytes, d) => bytes.length + uptoBulk d + 1
  | (_, d) => uptoBulk d + 1
 end
def uptoSmall : (H : Type) → List (DataW H) → Bool := fun _ ds => decide (uptoBulkAll ds ≤ 1048576)
def OpenSpec.upto (s : _root_.Go.ChangeSpec) : _root_.Go.OpenSpec := { _root_.Go.OpenSpec.ofChange s with cond := some uptoSmall }

/-- 'telltalelaw18.RuleTells', WHERE WHAT IT READS IS OF BULK AT MOST 1048576: true; the input reads as it did. -/
def ruleTellsUptoRow : OpenClaim := { program := "ytkipocfdgekkfaa", sum := "503f7320b37c2e382441949c30ab1ae49ff8cc7f253aab1a0ef08ce7daa69ed2", func := "telltale/telltalelaw18.RuleTells", spec := "ruleTells", unfollowed := true, recurses := true, apart := false, narrowed := true }
def RuleTellsUptoSaid : Prop := ruleTellsUptoRow.holds Try.pinned (OpenSpec.upto ruleTellsSpec)

/-- 'telltalelaw18.RuleKnown', WHERE WHAT IT READS IS OF BULK AT MOST 1048576: true; the input reads as it did. -/
def ruleKnownUptoRow : OpenClaim := { program := "ytkipocfdgekkfaa", sum := "503f7320b37c2e382441949c30ab1ae49ff8cc7f253aab1a0ef08ce7daa69ed2", func := "telltale/telltalelaw18.RuleKnown", spec := "ruleKnown", unfollowed := true, recurses := true, apart := false, narrowed := true }
def RuleKnownUptoSaid : Prop := ruleKnownUptoRow.holds Try.pinned (OpenSpec.upto ruleKnownSpec)

/-- 'telltalelaw18.RuleChannels', WHERE WHAT IT READS IS OF BULK AT MOST 1048576: true; the input reads as it did. -/
def ruleChannelsUptoRow : OpenClaim := { program := "ytkipocfdgekkfaa", sum := "503f7320b37c2e382441949c30ab1ae49ff8cc7f253aab1a0ef08ce7daa69ed2", func := "telltale/telltalelaw18.RuleChannels", spec := "ruleChannels", unfollowed := true, recurses := true, apart := false, narrowed := true }
def RuleChannelsUptoSaid : Prop := ruleChannelsUptoRow.holds Try.pinned (OpenSpec.upto ruleChannelsSpec)

/-- 'telltalelaw18.RuleJoined', WHERE WHAT IT READS IS OF BULK AT MOST 1048576: true; the input reads as it did. -/
def ruleJoinedUptoRow : OpenClaim := { program := "ytkipocfdgekkfaa", sum := "503f7320b37c2e382441949c30ab1ae49ff8cc7f253aab1a0ef08ce7daa69ed2", func := "telltale/telltalelaw18.RuleJoined", spec := "ruleJoined", unfollowed := true, recurses := true, apart := false, narrowed := true }
def RuleJoinedUptoSaid : Prop := ruleJoinedUptoRow.holds Try.pinned (OpenSpec.upto ruleJoinedSpec)

/-- 'telltalelaw18.RuleLimit', WHERE WHAT IT READS IS OF BULK AT MOST 1048576: true; the input reads as it did. -/
def ruleLimitUptoRow : OpenClaim := { program := "ytkipocfdgekkfaa", sum := "503f7320b37c2e382441949c30ab1ae49ff8cc7f253aab1a0ef08ce7daa69ed2", func := "telltale/telltalelaw18.RuleLimit", spec := "ruleLimit", unfollowed := true, recurses := true, apart := false, narrowed := true }
def RuleLimitUptoSaid : Prop := ruleLimitUptoRow.holds Try.pinned (OpenSpec.upto ruleLimitSpec)

/-- 'telltalelaw18.RuleSpoilt', WHERE WHAT IT READS IS OF BULK AT MOST 1048576: true; the input reads as it did. -/
def ruleSpoiltUptoRow : OpenClaim := { program := "ytkipocfdgekkfaa", sum := "503f7320b37c2e382441949c30ab1ae49ff8cc7f253aab1a0ef08ce7daa69ed2", func := "telltale/telltalelaw18.RuleSpoilt", spec := "ruleSpoilt", unfollowed := true, recurses := true, apart := false, narrowed := true }
def RuleSpoiltUptoSaid : Prop := ruleSpoiltUptoRow.holds Try.pinned (OpenSpec.upto ruleSpoiltSpec)

end Rows
end Go.Proofs.Ytkipocfdgekkfaa
