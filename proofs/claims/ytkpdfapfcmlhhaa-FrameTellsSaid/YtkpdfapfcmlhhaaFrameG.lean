/- Layer 3: the live question; there and back. -/
import Derived.Test.YtkpdfapfcmlhhaaFrameF
namespace Go.Proofs.Ytkpdfapfcmlhhaa
open Go.ChangeShapes Go.WideShapes Go.ChangeAt Go.RowKit
set_option linter.unusedVariables false
set_option linter.unusedSimpArgs false

theorem Own8.some_ {w : World} {u : Value} {f : List Int} (h : Own8 w u f) (h0 : 0 < f.length) : ∃ b c cs, u = .slice (some ⟨b, 0, none⟩) f.length c ∧ Blk w b 5 cs ∧ f.length ≤ c ∧ c ≤ maxLen ∧ ∀ i x, f[i]? = some x → w.cell? ⟨b, i, none⟩ = some (.int .u8 x) := by
  rcases h with ⟨b, c, cs, rfl, hb, ht, hc, hm, _⟩ | ⟨_, rfl⟩
  · refine ⟨b, c, cs, rfl, hb, hc, hm, fun i x hx => ?_⟩
    have hi : i < f.length := (List.getElem?_eq_some_iff.1 hx).1
    have e : (f.map (Value.int .u8))[i]? = some (.int .u8 x) := by rw [List.getElem?_map, hx]; rfl
    rw [← ht, List.getElem?_take, if_pos hi] at e
    rw [hb.cells]
    simpa using e
  · simp at h0
theorem rowsLit {w : World} {g n : Nat} {us : List Value} {F : List (List Int)} (h : Blk w g 22 us.toArray) (hn : us.length = n) (hm : n ≤ maxLen) (hF : us.length = F.length) (hf : ∀ (i : Nat) f, F[i]? = some f → ∃ u, us[i]? = some u ∧ Bytes w u f) : RowsB w (.slice (some ⟨g, 0, none⟩) n n) F := by
  refine ⟨us, Row.of_block h ?_ hn (Nat.le_refl _) hm, hF, hf⟩
  rw [List.toList_toArray, List.drop_zero]
  exact List.take_of_length_le (by omega)

theorem zeros8 (w : World) (N : Nat) (h : N ≤ maxLen) : Bytes (w.alloc (.cells (laidL N []).toArray 5)) (.slice (some ⟨w.heap.size, 0, none⟩) N N) (List.replicate N 0) := by
  have e : laidL N [] = laidL N (List.replicate N 0) := by simp [laidL]
  have hl : (List.replicate N (0 : Int)).length = N := List.length_replicate
  refine ⟨Laid.row (N := N) (pre := List.replicate N 0) ?_ hl h, fun x hx => ?_⟩
  · rw [e]
    exact heap_at _ _ _ rfl
  · have := List.eq_of_mem_replicate hx
    omega
theorem frame_zeros (w : World) (N : Nat) (h : N ≤ maxLen) (h2 : 255 < N) : Calls Try.prog 10 #[.slice (some ⟨w.heap.size, 0, none⟩) N N] (w.alloc (.cells (laidL N []).toArray 5)) fun e w' => e = .returned (.tuple #[.slice none 0 0, .bool false]) ∧ w.alloc (.cells (laidL N []).toArray 5) = w' :=
  frame_no _ _ _ (zeros8 w N h) (by rw [List.length_replicate]; exact h2)

set_option maxRecDepth 100000 in
set_option maxHeartbeats 8000000 in
theorem head_any (w : World) :
    Calls Try.prog 9 #[] w fun e w' => e = .returned (.bool true) ∧ Below w.heap.size w w' := by
  have f1 : split (([9, 165, 0, 1, 2, 3, 4] ++ framed [1, 2]) ++ [0] ++ (framed [1, 2]).take 5) = ⟨[[1, 2]], (framed [1, 2]).take 5, 8⟩ := by decide +kernel
  have f2 : (framed [1, 2]).length = 8 := by rw [framed_len]; rfl
  have f3 : (framed [1, 2])[0]? = some 165 := by decide +kernel
  have f4 : (framed [1, 2])[1]? = some 2 := by decide +kernel
  have f5 : U8s (framed [1, 2]) := framed_range (by unfold U8s; decide) (by decide)
  have F1 := Lib.hid f1
  have F2 := Lib.hid f2
  have F3 := Lib.hid f3
  have F4 := Lib.hid f4
  have F5 := Lib.hid f5
  clear f1 f2 f3 f4 f5
  have hmk : ∀ w : World, (Instr.makeSlice 22 (.int .i64 256) (.int .i64 256)).run Try.prog w = .ok (.slice (some ⟨w.heap.size, 0, none⟩) 256 256) (w.alloc (.cells (laidL 256 []).toArray 5)) := mk_u8 256 (by decide)
  go_enter Try.func9, Try.ntmps9
  go_wp2_with fail
  refine (frame_yes _ [1, 2] _ (lit8 (heap_at _ _ _ rfl) rfl (by decide) (by unfold U8s; decide)) (by decide)).mono ?_
  rintro e w1 ⟨u1, rfl, hu, hk⟩
  have hb1 : Below w.heap.size w w1 := (show Below w.heap.size w _ by go_grown).trans (hk.mono (by simp))
  have HO1 := Lib.hid hu
  obtain ⟨b1, c1, cs1, rfl, hB1, hc1, hm1, hcell1⟩ := hu.some_ (by rw [F2.out]; decide)
  rw [F2.out] at hc1 HO1 ⊢
  have HC1 := Lib.hid hcell1
  have HB1 := Lib.hid hB1
  unfold maxLen at hm1
  clear hu hcell1 hB1 hk
  go_wp2_with fail
  refine (frame_zeros w1 256 (by decide) (by decide)).mono ?_
  rintro e w2 ⟨rfl, rfl⟩
  have hb2 := hb1.alloc hb1.size (.cells (laidL 256 []).toArray 5)
  have HO2 := Lib.hid (HO1.out.below (show Below w1.heap.size w1 (w1.alloc (.cells (laidL 256 []).toArray 5)) from (Below.refl _ _).alloc (Nat.le_refl _) _))
  have HB2 := Lib.hid (HB1.out.al (.cells (laidL 256 []).toArray 5))
  generalize hw2 : w1.alloc (.cells (laidL 256 []).toArray 5) = w2 at *
  clear hw2 hmk
  go_wp2_with fail
  have HF8 := Lib.hid (HO2.out.bytes)
  have HF5 : Hid (Bytes w2 (.slice (some ⟨b1, 0, none⟩) 5 c1) ((framed [1, 2]).take 5)) := Lib.hid (by
    have hl : ((framed [1, 2]).take 5).length = 5 := by rw [List.length_take, F2.out]; rfl
    refine ⟨⟨some ⟨b1, 0, none⟩, c1, by rw [List.length_map, hl], by rw [List.length_map, hl]; omega, by unfold maxLen; omega, .inr ⟨_, rfl, fun _ => HB2.out.lt, fun i x hx => ?_⟩⟩, F5.out.take 5⟩
    rw [List.getElem?_map, List.getElem?_take] at hx
    have hi : i < 5 := by
      rcases Nat.lt_or_ge i 5 with h | h
      · exact h
      · rw [if_neg (by omega)] at hx; simp at hx
    rw [if_pos hi] at hx
    obtain ⟨y, hy, rfl⟩ := Option.map_eq_some_iff.1 hx
    rw [add_zero_addr, HB2.out.cells, ← HB1.out.cells]
    exact HC1.out i y hy)
  have h5c : (5 : Int) ≤ (c1 : Int) := by omega
  go_region_law (first
    | (refine step_ap8 rfl (.tmp 22) (.tmp 23) rfl w2.heap.size _ [9, 165, 0, 1, 2, 3, 4] rfl (own_lit (by first | exact heap_at _ _ _ (by simp) | exact Blk.al (heap_at _ _ _ (by simp)) _) (by simp) rfl (by decide)) _ (framed [1, 2]) rfl (HF8.out.below (by go_grown)) (by rw [F2.out]; decide) (by simp; try omega) w2 (by go_grown) ?_; intro v4 w4 hO4 hb4 hg4)
    | (refine step_ap8 rfl (.tmp 24) (.tmp 25) rfl w2.heap.size _ ([9, 165, 0, 1, 2, 3, 4] ++ framed [1, 2]) rfl (by first | exact hO4.out | exact hO4.out.alloc _) _ [0] rfl (by first
          | exact lit8 (heap_at _ _ _ (by simp)) rfl (by decide) (by unfold U8s; decide)
          | exact lit8 ((hg4.block (w2.heap.size + 1) (by simp; try omega) (fun h => absurd (show some (w2.heap.size + 1) = some w2.heap.size from h) (by simp))).trans (heap_at _ _ _ (by simp))) rfl (by decide) (by unfold U8s; decide)
          | exact lit8 ((hg4.block w2.heap.size (by simp; try omega) (fun h => absurd (show some w2.heap.size = some (w2.heap.size + 1) from h) (by simp))).trans (Blk.al (heap_at _ _ _ (by simp)) _)) rfl (by decide) (by unfold U8s; decide)) (by simp [F2.out]) (by have := hb4.size; simp; try omega) w2 (by first | exact hb4 | exact hb4.alloc hb4.size _) ?_; intro v5 w5 hO5 hb5 hg5)
    | (refine step_ap8 rfl (.tmp 26) (.tmp 28) rfl w2.heap.size _ ([9, 165, 0, 1, 2, 3, 4] ++ framed [1, 2] ++ [0]) rfl hO5.out _ ((framed [1, 2]).take 5) rfl (HF5.out.below hb5) (by simp [F2.out]; try omega) hb5.size w2 hb5 ?_; intro v6 w6 hO6 hb6 hg6)
    | (rw [if_pos (by rfl)]; go_simp; go_at_call 12; refine (split_any _ _ _ (Own8.of_own hO6.out (U8s.app (U8s.app (U8s.app (by unfold U8s; decide) F5.out) (by unfold U8s; decide)) (F5.out.take 5))).bytes (by simp [F2.out]; try omega)).mono ?_; rw [F1.out]; rintro e w7 ⟨vf, vr, rfl, hfr, hrb, hk7⟩; go_simp))
  all_goals
    have hb27 : Below w2.heap.size w2 w7 := Btrans hb6 hk7
    have hb7 := Btrans hb2 hb27
    have HFR := Lib.hid hfr.rows
    have HRB := Lib.hid hrb
    have HB7 := Lib.hid (HB2.out.below hb27)
    have HF57 := Lib.hid (HF5.out.below hb27)
    have x0 : w7.cell? ⟨b1, 0, none⟩ = some (.int .u8 165) := by rw [HB7.out.cells, ← HB1.out.cells]; exact HC1.out 0 165 F3.out
    have x1 : w7.cell? ⟨b1, 1, none⟩ = some (.int .u8 2) := by rw [HB7.out.cells, ← HB1.out.cells]; exact HC1.out 1 2 F4.out
    clear hfr hrb hk7 hO6 hb6 hg6 hO5 hb5 hg5 hO4 hb4 hg4 hb27 HF5 HF8 HO2 HB2 HO1
    go_wp2_with fail
    refine (sameall_any _ _ [[1, 2]] [[1, 2]] _ (HFR.out.below (by go_grown)) (rowsLit (us := [.slice (some ⟨w7.heap.size, 0, none⟩) 2 2]) (heap_at _ _ _ (by simp)) rfl (show (1 : Nat) ≤ maxLen by decide) rfl (fun i f hi => by
      cases i with
      | zero => simp at hi; subst hi; exact ⟨_, rfl, lit8 (Blk.al (heap_at _ _ _ rfl) _) rfl (by decide) (by unfold U8s; decide)⟩
      | succ i => simp at hi))).mono ?_
    rintro e w8 ⟨rfl, hk8⟩
    have hb78 : Below w7.heap.size w7 w8 := (show Below w7.heap.size w7 _ by go_grown).trans (hk8.mono (by simp; omega))
    clear hk8 x0 x1
    go_wp2_with fail
    refine (same_any _ _ _ _ _ (HRB.out.below hb78) (HF57.out.below hb78)).mono ?_
    rintro e w9 ⟨rfl, rfl⟩
    go_wp2
    go_ret
    exact ⟨by first | rfl | simp, Btrans hb7 hb78⟩
end Go.Proofs.Ytkpdfapfcmlhhaa
