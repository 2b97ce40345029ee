/- Layer 12: the text's rings. -/
import Derived.Test.YtpbhfhjnjmcgjaaRingU
import Derived.BigRegion
namespace Go.Proofs.Ytpbhfhjnjmcgjaa
open Go.ChangeShapes Go.WideShapes Go.ChangeAt Go.RowKit
set_option linter.unusedVariables false
set_option linter.unusedSimpArgs false

def bA (G : List Bool) : Array Value := (G.map Value.bool).toArray
theorem infob : (Try.prog.info? 4).map (fun i => (i.zero, i.size, i.bytes)) = some (some (.bool false), 1, 1) := by kernel_rfl
theorem mkbools (n : Nat) (hn : n ≤ 1000) (w : World) : (Instr.makeSlice 33 (.int .i64 (n : Int)) (.int .i64 (n : Int))).run Try.prog w = .ok (.slice (some ⟨w.heap.size, 0, none⟩) n n) (w.alloc (.cells (bA (List.replicate n false)) 4)) := by
  have h := run_make_rowN (P := Try.prog) 33 4 (.bool false) 1 (k := 1) (by kernel_rfl) infob .i64 .i64 n (by omega) (by omega) w
  have e2 : madeCells (Value.bool false).cells (n * 1) = bA (List.replicate n false) := by
    rw [madeCells_rep _ (.bool false) _ (by intro i hi; simp [Value.cells] at hi; subst hi; rfl) (by decide)]
    simp [bA]
  rw [e2] at h
  exact h
theorem own_new (w : World) (base K : Nat) (e : TypeId) (xs : List Value) (hl : xs.length = K) (hb : base ≤ w.heap.size) (hK : K ≤ maxLen) (g : Nat) (hg : g = w.heap.size) : (w.alloc (.cells xs.toArray e)).ownsRow base e 1 (.slice (some ⟨g, 0, none⟩) K K) K xs := by
  subst hg
  exact ⟨by simpa using hl, .inr ⟨w.heap.size, K, xs.toArray, rfl, hb, heap_at _ _ _ rfl, Nat.le_refl _, hK, by simpa using hl, by simp [← hl]⟩⟩

set_option maxRecDepth 100000 in
set_option maxHeartbeats 1000000 in
theorem rnew_any (K F : Nat) (w : World) (hK : 1 ≤ K ∧ K ≤ 300) (hF : F ≤ 4611686018427387904) :
    Calls Try.prog 11 #[.int .i64 K, .int .i64 F] w fun e w' => ∃ rb, e = .returned (.pointer (some ⟨rb, 0, none⟩)) ∧ RR w' w.heap.size rb F K (List.replicate K (0, false)) ∧ Below w.heap.size w w' := by
  have m1 := mkbools K (by omega)
  have m2 := mkints K (by omega)
  go_enter Try.func11, Try.ntmps11
  go_wp2_with fail
  go_region
  all_goals
    go_wp2
    go_ret
    have eB : bA (List.replicate K false) = ((List.replicate K ((0 : Int), false)).map fun a : Int × Bool => Value.bool a.2).toArray := by simp [bA]
    have eX : iA (List.replicate K 0) = ((List.replicate K ((0 : Int), false)).map fun a : Int × Bool => Value.int .i64 a.1).toArray := by simp [iA]
    rw [eB, eX]
    clear eB eX m1 m2
  · refine ⟨w.heap.size + 1 + 1, rfl, ⟨⟨w.heap.size, w.heap.size + 1, K, K, (Blk.new _ _ _ _ (by simp)).drw, ?_, ?_, by omega, by omega, by omega⟩, by omega, by simp, by omega, by omega, hF⟩, by go_grown⟩
    · exact (own_al (own_al (own_new w w.heap.size K _ _ (by simp) (Nat.le_refl _) (by unfold maxLen; omega) _ rfl) _) _).drew
    · exact (own_al (own_new _ w.heap.size K _ _ (by simp) (by simp) (by unfold maxLen; omega) _ (by simp)) _).drew
  · refine ⟨w.heap.size + 1 + 1, rfl, ⟨⟨w.heap.size + 1, w.heap.size, K, K, (Blk.new _ _ _ _ (by simp)).drw, ?_, ?_, by omega, by omega, by omega⟩, by omega, by simp, by omega, by omega, hF⟩, by go_grown⟩
    · exact (own_al (own_new _ w.heap.size K _ _ (by simp) (by simp) (by unfold maxLen; omega) _ (by simp)) _).drew
    · exact (own_al (own_al (own_new w w.heap.size K _ _ (by simp) (Nat.le_refl _) (by unfold maxLen; omega) _ rfl) _) _).drew
end Go.Proofs.Ytpbhfhjnjmcgjaa
