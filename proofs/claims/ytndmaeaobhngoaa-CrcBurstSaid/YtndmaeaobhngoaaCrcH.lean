/- Layer 2: the live question. -/
import Derived.Test.YtndmaeaobhngoaaCrcD
import Derived.Lib.SlBytesConst
namespace Go.Proofs.Ytndmaeaobhngoaa
open Go.ChangeShapes Go.WideShapes Go.ChangeAt Go.RowKit
set_option linter.unusedVariables false
set_option linter.unusedSimpArgs false

theorem Row.of_lit {w : World} {cs : Array Value} {t : TypeId} {fr : Nat × Nat} {g n : Nat} (hg : w.heap[g]? = some (.cells cs t fr)) (hn : cs.size = n) (hm : n ≤ maxLen) : Row w (.slice (some ⟨g, 0, none⟩) n n) cs.toList := by
  subst hn
  refine ⟨some ⟨g, 0, none⟩, cs.size, by simp, by simp, hm, .inr ⟨_, rfl, fun _ => ?_, fun i x hi => ?_⟩⟩
  · show g < w.heap.size
    rcases Nat.lt_or_ge g w.heap.size with h1 | h1
    · exact h1
    · rw [Array.getElem?_eq_none h1] at hg; cases hg
  · have he : (Addr.add ⟨g, 0, none⟩ i) = ⟨g, i, none⟩ := by
      unfold Addr.add
      split
      · simp [*]
      · simp
    rw [he, cell_of_row w g i cs t fr hg]
    simpa using hi

set_option maxRecDepth 100000 in
set_option maxHeartbeats 4000000 in
theorem head_any (w : World) :
    Calls Try.prog 9 #[] w fun e w' => e = .returned (.bool true) ∧ Below w.heap.size w w' := by
  have kc := fun (w : World) (C : Array Value) (n c : Nat) => Lib.run_convert_bytes_const (P := Try.prog) w 22 5 C n c Try.underlying22 Try.underlying5
  have f1 : sumN 0 [49, 50, 51, 52, 53, 54, 55, 56, 57] = 3421780262 := by decide +kernel
  have f2 : sumN 0 [] = 0 := by decide +kernel
  have f3 : more ((sumN 0 [49, 50, 51, 52] : Nat) : Int) [53, 54, 55, 56, 57] = 3421780262 := by decide +kernel
  have F1 := Lib.hid f1
  have F2 := Lib.hid f2
  have F3 := Lib.hid f3
  clear f1 f2 f3
  go_enter Try.func9, Try.ntmps9
  go_wp2_with fail
  refine (sum_any _ [49, 50, 51, 52, 53, 54, 55, 56, 57] _ ⟨Row.of_lit (heap_at _ _ _ rfl) rfl (by decide), by decide⟩).mono ?_
  rintro e w1 ⟨rfl, hk⟩
  have hb1 : Below w.heap.size w w1 := (show Below w.heap.size w _ by go_grown).trans (hk.mono (by simp))
  clear hk
  rw [F1.out]
  go_wp2_with fail
  refine (sum_any _ [] _ ⟨Row.nil_, by decide⟩).mono ?_
  rintro e w2 ⟨rfl, hk⟩
  have hb2 := hb1.trans (hk.mono hb1.size)
  clear hk hb1
  rw [F2.out]
  go_wp2_with fail
  refine (sum_any _ [49, 50, 51, 52] _ ⟨Row.of_lit (heap_at _ _ _ rfl) rfl (by decide), by decide⟩).mono ?_
  rintro e w3 ⟨rfl, hk⟩
  have hz := hb2.size
  have hb3 : Below w.heap.size w w3 := (show Below w.heap.size w _ by go_grown).trans (hk.mono (by simp; omega))
  clear hk hb2 hz
  go_wp2_with fail
  refine (more_any _ _ [53, 54, 55, 56, 57] _ ⟨Row.of_lit (heap_at _ _ _ rfl) rfl (by decide), by decide⟩).mono ?_
  rintro e w4 ⟨rfl, hk⟩
  have hz := hb3.size
  have hb4 : Below w.heap.size w w4 := (show Below w.heap.size w _ by go_grown).trans (hk.mono (by simp; omega))
  clear hk hb3 hz
  rw [F3.out]
  go_wp2
  go_ret
  exact ⟨by simp, hb4⟩

set_option maxHeartbeats 4000000 in
theorem walk_CrcTells (v : Value) (zs : List Int) (sum : Int) (w : World) (h0 : Ints .u8 w v zs) (h1 : (Lit.int .i64 sum).wf = true) :
    Calls Try.prog 3 #[v, .int .i64 sum] w fun e w' => e = .returned (.bool true) ∧ Below w.heap.size w w' := by
  have hN := NB.of_ints h0
  obtain ⟨A, c, rfl, hc, hcm, _⟩ := h0.1
  rw [List.length_map] at hc hN ⊢
  unfold maxLen at hcm
  have HN := Lib.hid hN
  clear hN h0
  generalize zs.map Int.toNat = l at *
  by_cases hbig : 2000 < zs.length
  · go_enter Try.func3, Try.ntmps3
    go_wp2_with fail
    refine (head_any _).mono ?_
    rintro e w1 ⟨rfl, hb1⟩
    go_wp2
    go_ret
    exact ⟨rfl, hb1⟩
  go_enter Try.func3, Try.ntmps3
  go_wp2_with fail
  refine (head_any _).mono ?_
  rintro e w1 ⟨rfl, hb1⟩
  have HN1 := Lib.hid (HN.out.below hb1)
  clear HN
  go_wp2_with fail
  refine (sum_any _ l _ HN1.out).mono ?_
  rintro e w2 ⟨rfl, hk⟩
  have hb2 := hb1.trans (hk.mono hb1.size)
  have HN2 := Lib.hid (HN1.out.below hk)
  clear hk hb1 HN1
  go_wp2_with fail
  refine (rsum_any _ l _ HN2.out).mono ?_
  rintro e w3 ⟨rfl, rfl⟩
  go_wp2_with fail
  refine (more_any _ _ l _ HN2.out).mono ?_
  rintro e w3 ⟨rfl, hk⟩
  have hb3 := hb2.trans (hk.mono hb2.size)
  have HN3 := Lib.hid (HN2.out.below hk)
  clear hk hb2 HN2
  go_wp2_with fail
  refine (rmore_any _ _ l _ HN3.out).mono ?_
  rintro e w4 ⟨rfl, rfl⟩
  go_wp2
  go_ret
  exact ⟨by simp, hb3⟩
end Go.Proofs.Ytndmaeaobhngoaa
