/- Layer 4: the live question. -/
import Derived.Test.YtnimialdccbdfaaPackH
namespace Go.Proofs.Ytnimialdccbdfaa
open Go.ChangeShapes Go.WideShapes Go.ChangeAt Go.RowKit
set_option linter.unusedVariables false
set_option linter.unusedSimpArgs false

def P1 : Pk := ⟨1, 2, 3, 258, 5, [7, -1]⟩
theorem p1_right : P1.right := by decide
theorem p1_data : P1.data = [1, 2, 3, 1, 2, 0, 0, 0, 0, 5, 0, 7, 255, 255] := by decide
theorem pkzero {w : World} : PkV w (.agg #[.int .i64 0, .int .i64 0, .int .i64 0, .int .i64 0, .int .i64 0, .slice none 0 0]) Pk.zero := ⟨_, rfl, Row.nil_, by simp [Pk.zero]⟩
theorem pkzero_no : ¬ Pk.zero.right := by decide
theorem mk8 (n : Nat) (hn : n ≤ 300) (w : World) : (Instr.makeSlice 25 (.int .i64 (n : Int)) (.int .i64 (n : Int))).run Try.prog w = .ok (.slice (some ⟨w.heap.size, 0, none⟩) n n) (w.alloc (.cells (laidL n []).toArray 5)) := by
  have h := run_make_rowN (P := Try.prog) 25 5 (.int .u8 0) 1 (k := 1) (by kernel_rfl) room_info .i64 .i64 n (by omega) (by omega) w
  have e2 : madeCells (Value.int .u8 0).cells (n * 1) = (laidL n []).toArray := by
    rw [madeCells_rep _ (.int .u8 0) _ (by intro i hi; simp [Value.cells] at hi; subst hi; rfl) (by decide)]
    simp [laidL]
  rw [e2] at h
  exact h
theorem zeros8 (n : Nat) (hn : n ≤ 300) (w : World) (g : Nat) (hg : g = w.heap.size) : Bytes (w.alloc (.cells (laidL n []).toArray 5)) (.slice (some ⟨g, 0, none⟩) n n) (List.replicate n 0) := by
  subst hg
  refine ⟨Row.of_block (heap_at w _ _ rfl) ?_ (by simp) (Nat.le_refl _) (by unfold maxLen; omega), ?_⟩
  · simp [laidL]
  · intro x hx
    rw [List.eq_of_mem_replicate hx]
    omega

set_option maxRecDepth 100000 in
set_option maxHeartbeats 1000000 in
theorem head_any (w : World) :
    Calls Try.prog 9 #[] w fun e w' => e = .returned (.bool true) ∧ Below w.heap.size w w' := by
  have hm11 := mk8 11 (by omega)
  simp only [Int.cast_ofNat_Int] at hm11
  have hm27 := mk8 27 (by omega)
  simp only [Int.cast_ofNat_Int] at hm27
  have hm13 := mk8 13 (by omega)
  simp only [Int.cast_ofNat_Int] at hm13
  go_enter Try.func9, Try.ntmps9
  go_wp2_with fail
  refine (one_any _).mono ?_
  rintro e W1 ⟨u, rfl, hU, hk⟩
  have hb1 := hk
  clear hk
  have U1 := Lib.hid (show PkV W1 u P1 from hU)
  clear hU
  go_wp2_with fail
  refine (data_yes _ P1 _ U1.out p1_right).mono ?_
  rintro e W2 ⟨b, rfl, hB, hk⟩
  have hb2 := hb1.trans (hk.mono hb1.size)
  have U2 := Lib.hid (U1.out.below hk)
  clear hk U1 hb1
  have B2 := Lib.hid (show Bytes W2 b P1.data from hB)
  clear hB
  go_wp2_with fail
  refine (unpack_ok _ P1.data _ B2.out (by decide) (by decide) (by decide)).mono ?_
  rintro e W3 ⟨x, rfl, hX, hk⟩
  rw [ofB_data P1 p1_right] at hX
  obtain ⟨xs, rfl, hXI⟩ := hX
  obtain ⟨XA, Xc, hxs, _⟩ := hXI.shape
  subst hxs
  have hb3 := hb2.trans (hk.mono hb2.size)
  have B3 := Lib.hid (B2.out.below hk)
  clear hk B2 hb2
  have X3 := Lib.hid (show Ints .i64 W3 (.slice XA P1.vals.length Xc) P1.vals from hXI)
  clear hXI
  go_wp2_with fail
  refine calls_world (fun W4 => Below w.heap.size w W4 ∧ Bytes W4 b P1.data ∧ Ints .i64 W4 (.slice XA P1.vals.length Xc) P1.vals ∧ Blk W4 W3.heap.size 24 #[.int .i64 P1.dev, .int .i64 P1.chan, .int .i64 P1.boot, .int .i64 P1.seq, .int .i64 P1.stamp, .slice XA P1.vals.length Xc]) ⟨(hb3.trans ((show Below W3.heap.size W3 _ by go_grown).mono hb3.size)), (B3.out.below (by go_grown)), (X3.out.below (by go_grown)), (Blk.new _ _ _ _ (by first | rfl | simp))⟩ fun W4 ⟨hb4, qB, qX, qS⟩ => ?_
  have B4 := Lib.hid qB
  have X4 := Lib.hid qX
  have S4 := Lib.hid qS
  (try clear cS); (try clear lS); (try clear dS)
  clear qB qX qS B3 X3 hb3
  refine (data_no _ Pk.zero _ pkzero pkzero_no).mono ?_
  rintro e W5 ⟨rfl, hk⟩
  have hb5 := hb4.trans (hk.mono hb4.size)
  have B5 := Lib.hid (B4.out.below hk)
  have X5 := Lib.hid (X4.out.below hk)
  have S5 := Lib.hid (S4.out.below hk)
  (try clear cS); (try clear lS); (try clear dS)
  clear hk B4 X4 S4 hb4
  go_wp2_with fail
  refine (unpack_bad _ (List.replicate 11 0) _ (zeros8 11 (by omega) _ _ (by simp)) (by decide)).mono ?_
  rintro e W6 ⟨rfl, hk0⟩
  have hk : Below W5.heap.size W5 W6 := (show Below W5.heap.size W5 _ by go_grown).trans (hk0.mono (by first | (simp; done) | (simp; omega)))
  have hb6 := hb5.trans (hk.mono hb5.size)
  have B6 := Lib.hid (B5.out.below hk)
  have X6 := Lib.hid (X5.out.below hk)
  have S6 := Lib.hid (S5.out.below hk)
  clear hk hk0 B5 X5 S5 hb5
  rw [show badCode (List.replicate 11 (0 : Int)).length = 2 from by decide]
  go_wp2_with fail
  refine (unpack_bad _ (List.replicate 27 0) _ (zeros8 27 (by omega) _ _ (by simp)) (by decide)).mono ?_
  rintro e W7 ⟨rfl, hk0⟩
  have hk : Below W6.heap.size W6 W7 := (show Below W6.heap.size W6 _ by go_grown).trans (hk0.mono (by first | (simp; done) | (simp; omega)))
  have hb7 := hb6.trans (hk.mono hb6.size)
  have B7 := Lib.hid (B6.out.below hk)
  have X7 := Lib.hid (X6.out.below hk)
  have S7 := Lib.hid (S6.out.below hk)
  clear hk hk0 B6 X6 S6 hb6
  rw [show badCode (List.replicate 27 (0 : Int)).length = 3 from by decide]
  go_wp2_with fail
  refine (unpack_bad _ (List.replicate 13 0) _ (zeros8 13 (by omega) _ _ (by simp)) (by decide)).mono ?_
  rintro e W8 ⟨rfl, hk0⟩
  have hk : Below W7.heap.size W7 W8 := (show Below W7.heap.size W7 _ by go_grown).trans (hk0.mono (by first | (simp; done) | (simp; omega)))
  have hb8 := hb7.trans (hk.mono hb7.size)
  have B8 := Lib.hid (B7.out.below hk)
  have X8 := Lib.hid (X7.out.below hk)
  have S8 := Lib.hid (S7.out.below hk)
  clear hk hk0 B7 X7 S7 hb7
  rw [show badCode (List.replicate 13 (0 : Int)).length = 4 from by decide]
  go_wp2_with fail
  refine wp_world (fun W9 => Below w.heap.size w W9 ∧ Bytes W9 b P1.data ∧ Ints .i64 W9 (.slice XA P1.vals.length Xc) P1.vals ∧ Blk W9 W3.heap.size 24 #[.int .i64 P1.dev, .int .i64 P1.chan, .int .i64 P1.boot, .int .i64 P1.seq, .int .i64 P1.stamp, .slice XA P1.vals.length Xc]) ⟨(hb8.trans ((show Below W8.heap.size W8 _ by go_grown).mono hb8.size)), (B8.out.below (by go_grown)), (X8.out.below (by go_grown)), (S8.out.below (by go_grown))⟩ fun W9 ⟨hb9, qB, qX, qS⟩ => ?_
  have B9 := Lib.hid qB
  have X9 := Lib.hid qX
  have S9 := Lib.hid qS
  (try clear cS); (try clear lS); (try clear dS)
  clear qB qX qS B8 X8 S8 hb8
  have dS : ∀ w', Below W9.heap.size W9 w' → ∀ i, w'.cell? ⟨W3.heap.size, i, none⟩ = (#[.int .i64 P1.dev, .int .i64 P1.chan, .int .i64 P1.boot, .int .i64 P1.seq, .int .i64 P1.stamp, .slice XA P1.vals.length Xc] : Array Value)[i]? := fun w' hb i => by rw [hb.cell (p := ⟨W3.heap.size, i, none⟩) S9.out.lt]; exact S9.out.cells i
  refine wp_region_held_drew (S := fun w' => Below W9.heap.size W9 w') (by kernel_rfl) (by go_grown) (fun hHeld => ?_)
  refine takeD 0 (some 43) (v := ?_) rfl rfl (by kernel_rfl) (by kernel_rfl) (by kernel_rfl) (fun _ _ _ h => h) (by rfl) ?_ (by assumption) ?_
  rotate_left
  · intro w hSw
    (try dsimp only at hSw)
    go_simp
    try with_reducible rfl
  try simp only [Act.put, List.setIfInBounds_toArray, List.set_cons_zero, List.set_cons_succ]
  refine wpAnyH_ready (rs := [1]) (by kernel_rfl) (by simp) ?_
  refine AllReadyH.cons rfl (fun K hK => ?_) AllReadyH.nil
  rw [if_pos (by rfl)]
  go_simp
  refine hK.out _ _ ?_ (fun hHeld2 => ?_)
  · first | exact hHeld.trans (hk.mono hHeld.size) | (clear hK; have hz := hHeld.size; go_grown)
  clear hK K hHeld
  have hHeld := hHeld2
  clear hHeld2
  try clear hk
  try simp only [Act.put, List.setIfInBounds_toArray, List.set_cons_zero, List.set_cons_succ]
  refine wpAnyH_ready (rs := [2]) (by kernel_rfl) (by simp) ?_
  refine AllReadyH.cons rfl (fun K hK => ?_) AllReadyH.nil
  rw [if_pos (by rfl)]
  go_simp
  go_at_call 16
  refine (same_any _ _ P1.data [1, 2, 3, 1, 2, 0, 0, 0, 0, 5, 0, 7, 255, 255] _ (B9.out.below hHeld) ⟨Row.of_lit (heap_at _ _ _ rfl) rfl (by decide), by decide⟩).mono ?_
  rintro e w1 ⟨rfl, rfl⟩
  rw [show decide (P1.data = [1, 2, 3, 1, 2, 0, 0, 0, 0, 5, 0, 7, 255, 255]) = true from by decide]
  go_wp2_with fail
  refine hK.out _ _ ?_ (fun hHeld2 => ?_)
  · first | exact hHeld.trans (hk.mono hHeld.size) | (clear hK; have hz := hHeld.size; go_grown)
  clear hK K hHeld
  have hHeld := hHeld2
  clear hHeld2
  try clear hk
  try simp only [Act.put, List.setIfInBounds_toArray, List.set_cons_zero, List.set_cons_succ]
  refine takeD 3 (some 46) (v := ?_) rfl rfl (by kernel_rfl) (by kernel_rfl) (by kernel_rfl) (fun _ _ _ h => h) (by rfl) ?_ (by assumption) ?_
  rotate_left
  · intro w hSw
    (try dsimp only at hSw)
    go_simp
    try with_reducible rfl
  try simp only [Act.put, List.setIfInBounds_toArray, List.set_cons_zero, List.set_cons_succ]
  refine takeD 4 (some 47) (v := ?_) rfl rfl (by kernel_rfl) (by kernel_rfl) (by kernel_rfl) (fun _ _ _ h => h) (by rfl) ?_ (by assumption) ?_
  rotate_left
  · intro w hSw
    (try dsimp only at hSw)
    go_simp
    try with_reducible rfl
  try simp only [Act.put, List.setIfInBounds_toArray, List.set_cons_zero, List.set_cons_succ]
  refine takeD 5 (some 48) (v := ?_) rfl rfl (by kernel_rfl) (by kernel_rfl) (by kernel_rfl) (fun _ _ _ h => h) (by rfl) ?_ (by assumption) ?_
  rotate_left
  · intro w hSw
    (try dsimp only at hSw)
    go_simp
    try with_reducible rfl
  try simp only [Act.put, List.setIfInBounds_toArray, List.set_cons_zero, List.set_cons_succ]
  refine takeD 6 (some 49) (v := ?_) rfl rfl (by kernel_rfl) (by kernel_rfl) (by kernel_rfl) (fun _ _ _ h => h) (by rfl) ?_ (by assumption) ?_
  rotate_left
  · intro w hSw
    (try dsimp only at hSw)
    go_simp
    try with_reducible rfl
  try simp only [Act.put, List.setIfInBounds_toArray, List.set_cons_zero, List.set_cons_succ]
  refine takeD 7 (some 50) (v := ?_) rfl rfl (by kernel_rfl) (by kernel_rfl) (by kernel_rfl) (fun _ _ _ h => h) (by rfl) ?_ (by assumption) ?_
  rotate_left
  · intro w hSw
    (try dsimp only at hSw)
    go_simp
    try with_reducible rfl
  try simp only [Act.put, List.setIfInBounds_toArray, List.set_cons_zero, List.set_cons_succ]
  refine wpAnyH_ready (rs := [8]) (by kernel_rfl) (by simp) ?_
  refine AllReadyH.cons rfl (fun K hK => ?_) AllReadyH.nil
  rw [if_pos (by rfl)]
  go_simp
  go_at_call 18
  refine (one_any _).mono ?_
  rintro e w1 ⟨v1, rfl, hV1, hk⟩
  go_wp2_with fail
  refine hK.out _ _ ?_ (fun hHeld2 => ?_)
  · first | exact hHeld.trans (hk.mono hHeld.size) | (clear hK; have hz := hHeld.size; go_grown)
  clear hK K hHeld
  have hHeld := hHeld2
  clear hHeld2
  try clear hk
  try simp only [Act.put, List.setIfInBounds_toArray, List.set_cons_zero, List.set_cons_succ]
  refine wpAnyH_ready (rs := [9]) (by kernel_rfl) (by simp) ?_
  refine AllReadyH.cons rfl (fun K hK => ?_) AllReadyH.nil
  rw [if_pos (by rfl)]
  go_simp
  go_at_call 17
  refine (same_pk _ _ P1 P1 _ ⟨_, rfl, X9.out.below hHeld⟩ hV1).mono ?_
  rintro e w1 ⟨rfl, hk⟩
  rw [show decide (P1 = P1) = true from by decide]
  go_wp2_with fail
  refine hK.out _ _ ?_ (fun hHeld2 => ?_)
  · first | exact hHeld.trans (hk.mono hHeld.size) | (clear hK; have hz := hHeld.size; go_grown)
  clear hK K hHeld
  have hHeld := hHeld2
  clear hHeld2
  try clear hk
  try simp only [Act.put, List.setIfInBounds_toArray, List.set_cons_zero, List.set_cons_succ]
  refine takeD 10 (some 53) (v := ?_) rfl rfl (by kernel_rfl) (by kernel_rfl) (by kernel_rfl) (fun _ _ _ h => h) (by rfl) ?_ (by assumption) ?_
  rotate_left
  · intro w hSw
    (try dsimp only at hSw)
    go_simp
    try with_reducible rfl
  try simp only [Act.put, List.setIfInBounds_toArray, List.set_cons_zero, List.set_cons_succ]
  refine takeD 11 (some 54) (v := ?_) rfl rfl (by kernel_rfl) (by kernel_rfl) (by kernel_rfl) (fun _ _ _ h => h) (by rfl) ?_ (by assumption) ?_
  rotate_left
  · intro w hSw
    (try dsimp only at hSw)
    go_simp
    try with_reducible rfl
  try simp only [Act.put, List.setIfInBounds_toArray, List.set_cons_zero, List.set_cons_succ]
  refine takeD 12 (some 55) (v := ?_) rfl rfl (by kernel_rfl) (by kernel_rfl) (by kernel_rfl) (fun _ _ _ h => h) (by rfl) ?_ (by assumption) ?_
  rotate_left
  · intro w hSw
    (try dsimp only at hSw)
    go_simp
    try with_reducible rfl
  try simp only [Act.put, List.setIfInBounds_toArray, List.set_cons_zero, List.set_cons_succ]
  refine takeD 13 (some 56) (v := ?_) rfl rfl (by kernel_rfl) (by kernel_rfl) (by kernel_rfl) (fun _ _ _ h => h) (by rfl) ?_ (by assumption) ?_
  rotate_left
  · intro w hSw
    (try dsimp only at hSw)
    go_simp
    try with_reducible rfl
  try simp only [Act.put, List.setIfInBounds_toArray, List.set_cons_zero, List.set_cons_succ]
  refine takeD 14 (some 57) (v := ?_) rfl rfl (by kernel_rfl) (by kernel_rfl) (by kernel_rfl) (fun _ _ _ h => h) (by rfl) ?_ (by assumption) ?_
  rotate_left
  · intro w hSw
    (try dsimp only at hSw)
    go_simp
    try with_reducible rfl
  try simp only [Act.put, List.setIfInBounds_toArray, List.set_cons_zero, List.set_cons_succ]
  refine takeD 15 (some 58) (v := ?_) rfl rfl (by kernel_rfl) (by kernel_rfl) (by kernel_rfl) (fun _ _ _ h => h) (by rfl) ?_ (by assumption) ?_
  rotate_left
  · intro w hSw
    (try dsimp only at hSw)
    go_simp
    try with_reducible rfl
  try simp only [Act.put, List.setIfInBounds_toArray, List.set_cons_zero, List.set_cons_succ]
  refine takeD 16 (some 59) (v := ?_) rfl rfl (by kernel_rfl) (by kernel_rfl) (by kernel_rfl) (fun _ _ _ h => h) (by rfl) ?_ (by assumption) ?_
  rotate_left
  · intro w hSw
    (try dsimp only at hSw)
    go_simp
    try with_reducible rfl
  try simp only [Act.put, List.setIfInBounds_toArray, List.set_cons_zero, List.set_cons_succ]
  refine takeD 17 (some 60) (v := ?_) rfl rfl (by kernel_rfl) (by kernel_rfl) (by kernel_rfl) (fun _ _ _ h => h) (by rfl) ?_ (by assumption) ?_
  rotate_left
  · intro w hSw
    (try dsimp only at hSw)
    go_simp
    try with_reducible rfl
  try simp only [Act.put, List.setIfInBounds_toArray, List.set_cons_zero, List.set_cons_succ]
  refine takeD 18 (some 61) (v := ?_) rfl rfl (by kernel_rfl) (by kernel_rfl) (by kernel_rfl) (fun _ _ _ h => h) (by rfl) ?_ (by assumption) ?_
  rotate_left
  · intro w hSw
    (try dsimp only at hSw)
    go_simp
    try with_reducible rfl
  try simp only [Act.put, List.setIfInBounds_toArray, List.set_cons_zero, List.set_cons_succ]
  refine takeD 19 (some 62) (v := ?_) rfl rfl (by kernel_rfl) (by kernel_rfl) (by kernel_rfl) (fun _ _ _ h => h) (by rfl) ?_ (by assumption) ?_
  rotate_left
  · intro w hSw
    (try dsimp only at hSw)
    go_simp
    try with_reducible rfl
  try simp only [Act.put, List.setIfInBounds_toArray, List.set_cons_zero, List.set_cons_succ]
  refine takeD 20 (some 63) (v := ?_) rfl rfl (by kernel_rfl) (by kernel_rfl) (by kernel_rfl) (fun _ _ _ h => h) (by rfl) ?_ (by assumption) ?_
  rotate_left
  · intro w hSw
    (try dsimp only at hSw)
    go_simp
    try with_reducible rfl
  try simp only [Act.put, List.setIfInBounds_toArray, List.set_cons_zero, List.set_cons_succ]
  refine takeD 21 (some 64) (v := ?_) rfl rfl (by kernel_rfl) (by kernel_rfl) (by kernel_rfl) (fun _ _ _ h => h) (by rfl) ?_ (by assumption) ?_
  rotate_left
  · intro w hSw
    (try dsimp only at hSw)
    go_simp
    try with_reducible rfl
  try simp only [Act.put, List.setIfInBounds_toArray, List.set_cons_zero, List.set_cons_succ]
  refine takeD 22 (some 65) (v := ?_) rfl rfl (by kernel_rfl) (by kernel_rfl) (by kernel_rfl) (fun _ _ _ h => h) (by rfl) ?_ (by assumption) ?_
  rotate_left
  · intro w hSw
    (try dsimp only at hSw)
    go_simp
    try with_reducible rfl
  try simp only [Act.put, List.setIfInBounds_toArray, List.set_cons_zero, List.set_cons_succ]
  refine takeD 23 (some 66) (v := ?_) rfl rfl (by kernel_rfl) (by kernel_rfl) (by kernel_rfl) (fun _ _ _ h => h) (by rfl) ?_ (by assumption) ?_
  rotate_left
  · intro w hSw
    (try dsimp only at hSw)
    go_simp
    try with_reducible rfl
  try simp only [Act.put, List.setIfInBounds_toArray, List.set_cons_zero, List.set_cons_succ]
  refine takeD 24 (some 67) (v := ?_) rfl rfl (by kernel_rfl) (by kernel_rfl) (by kernel_rfl) (fun _ _ _ h => h) (by rfl) ?_ (by assumption) ?_
  rotate_left
  · intro w hSw
    (try dsimp only at hSw)
    go_simp
    try with_reducible rfl
  try simp only [Act.put, List.setIfInBounds_toArray, List.set_cons_zero, List.set_cons_succ]
  refine takeD 25 (some 68) (v := ?_) rfl rfl (by kernel_rfl) (by kernel_rfl) (by kernel_rfl) (fun _ _ _ h => h) (by rfl) ?_ (by assumption) ?_
  rotate_left
  · intro w hSw
    (try dsimp only at hSw)
    go_simp
    try with_reducible rfl
  try simp only [Act.put, List.setIfInBounds_toArray, List.set_cons_zero, List.set_cons_succ]
  refine takeD 26 (some 69) (v := ?_) rfl rfl (by kernel_rfl) (by kernel_rfl) (by kernel_rfl) (fun _ _ _ h => h) (by rfl) ?_ (by assumption) ?_
  rotate_left
  · intro w hSw
    (try dsimp only at hSw)
    go_simp
    try with_reducible rfl
  try simp only [Act.put, List.setIfInBounds_toArray, List.set_cons_zero, List.set_cons_succ]
  refine takeD 27 (some 70) (v := ?_) rfl rfl (by kernel_rfl) (by kernel_rfl) (by kernel_rfl) (fun _ _ _ h => h) (by rfl) ?_ (by assumption) ?_
  rotate_left
  · intro w hSw
    (try dsimp only at hSw)
    go_simp
    try with_reducible rfl
  try simp only [Act.put, List.setIfInBounds_toArray, List.set_cons_zero, List.set_cons_succ]
  refine takeD 28 (some 71) (v := ?_) rfl rfl (by kernel_rfl) (by kernel_rfl) (by kernel_rfl) (fun _ _ _ h => h) (by rfl) ?_ (by assumption) ?_
  rotate_left
  · intro w hSw
    (try dsimp only at hSw)
    go_simp
    try with_reducible rfl
  try simp only [Act.put, List.setIfInBounds_toArray, List.set_cons_zero, List.set_cons_succ]
  refine takeD 29 (some 72) (v := ?_) rfl rfl (by kernel_rfl) (by kernel_rfl) (by kernel_rfl) (fun _ _ _ h => h) (by rfl) ?_ (by assumption) ?_
  rotate_left
  · intro w hSw
    (try dsimp only at hSw)
    go_simp
    try with_reducible rfl
  try simp only [Act.put, List.setIfInBounds_toArray, List.set_cons_zero, List.set_cons_succ]
  refine takeD 30 (some 73) (v := ?_) rfl rfl (by kernel_rfl) (by kernel_rfl) (by kernel_rfl) (fun _ _ _ h => h) (by rfl) ?_ (by assumption) ?_
  rotate_left
  · intro w hSw
    (try dsimp only at hSw)
    go_simp
    try with_reducible rfl
  try simp only [Act.put, List.setIfInBounds_toArray, List.set_cons_zero, List.set_cons_succ]
  refine takeD 31 (some 74) (v := ?_) rfl rfl (by kernel_rfl) (by kernel_rfl) (by kernel_rfl) (fun _ _ _ h => h) (by rfl) ?_ (by assumption) ?_
  rotate_left
  · intro w hSw
    (try dsimp only at hSw)
    go_simp
    try with_reducible rfl
  try simp only [Act.put, List.setIfInBounds_toArray, List.set_cons_zero, List.set_cons_succ]
  refine wpAnyH_ready (rs := [32]) (by kernel_rfl) (by simp) ?_
  refine AllReadyH.cons rfl (fun K hK => ?_) AllReadyH.nil
  rw [if_pos (by rfl)]
  go_simp
  go_at_call 18
  refine (one_any _).mono ?_
  rintro e w1 ⟨v1, rfl, hV1, hk⟩
  go_wp2_with fail
  refine hK.out _ _ ?_ (fun hHeld2 => ?_)
  · first | exact hHeld.trans (hk.mono hHeld.size) | (clear hK; have hz := hHeld.size; go_grown)
  clear hK K hHeld
  have hHeld := hHeld2
  clear hHeld2
  try clear hk
  try simp only [Act.put, List.setIfInBounds_toArray, List.set_cons_zero, List.set_cons_succ]
  refine wpAnyH_ready (rs := [33]) (by kernel_rfl) (by simp) ?_
  refine AllReadyH.cons rfl (fun K hK => ?_) AllReadyH.nil
  rw [if_pos (by rfl)]
  go_simp
  go_at_call 14
  refine (right_any _ P1 _ hV1).mono ?_
  rintro e w1 ⟨rfl, hk⟩
  rw [show decide P1.right = true from by decide]
  go_wp2_with fail
  refine hK.out _ _ ?_ (fun hHeld2 => ?_)
  · first | exact hHeld.trans (hk.mono hHeld.size) | (clear hK; have hz := hHeld.size; go_grown)
  clear hK K hHeld
  have hHeld := hHeld2
  clear hHeld2
  try clear hk
  try simp only [Act.put, List.setIfInBounds_toArray, List.set_cons_zero, List.set_cons_succ]
  refine takeD 34 (some 77) (v := ?_) rfl rfl (by kernel_rfl) (by kernel_rfl) (by kernel_rfl) (fun _ _ _ h => h) (by rfl) ?_ (by assumption) ?_
  rotate_left
  · intro w hSw
    (try dsimp only at hSw)
    go_simp
    try with_reducible rfl
  try simp only [Act.put, List.setIfInBounds_toArray, List.set_cons_zero, List.set_cons_succ]
  refine takeD 35 (some 78) (v := ?_) rfl rfl (by kernel_rfl) (by kernel_rfl) (by kernel_rfl) (fun _ _ _ h => h) (by rfl) ?_ (by assumption) ?_
  rotate_left
  · intro w hSw
    (try dsimp only at hSw)
    go_simp
    try with_reducible rfl
  try simp only [Act.put, List.setIfInBounds_toArray, List.set_cons_zero, List.set_cons_succ]
  refine takeD 36 (some 79) (v := ?_) rfl rfl (by kernel_rfl) (by kernel_rfl) (by kernel_rfl) (fun _ _ _ h => h) (by rfl) ?_ (by assumption) ?_
  rotate_left
  · intro w hSw
    (try dsimp only at hSw)
    go_simp
    try with_reducible rfl
  try simp only [Act.put, List.setIfInBounds_toArray, List.set_cons_zero, List.set_cons_succ]
  refine wpAnyH_ready (rs := [37]) (by kernel_rfl) (by simp) ?_
  refine AllReadyH.cons rfl (fun K hK => ?_) AllReadyH.nil
  rw [if_pos (by rfl)]
  go_simp
  go_at_call 14
  refine (right_any _ Pk.zero _ pkzero).mono ?_
  rintro e w1 ⟨rfl, hk⟩
  rw [show decide Pk.zero.right = false from by decide]
  go_wp2_with fail
  refine hK.out _ _ ?_ (fun hHeld2 => ?_)
  · first | exact hHeld.trans (hk.mono hHeld.size) | (clear hK; have hz := hHeld.size; go_grown)
  clear hK K hHeld
  have hHeld := hHeld2
  clear hHeld2
  try clear hk
  try simp only [Act.put, List.setIfInBounds_toArray, List.set_cons_zero, List.set_cons_succ]
  refine takeD 38 (some 81) (v := ?_) rfl rfl (by kernel_rfl) (by kernel_rfl) (by kernel_rfl) (fun _ _ _ h => h) (by rfl) ?_ (by assumption) ?_
  rotate_left
  · intro w hSw
    (try dsimp only at hSw)
    go_simp
    try with_reducible rfl
  try simp only [Act.put, List.setIfInBounds_toArray, List.set_cons_zero, List.set_cons_succ]
  refine takeD 39 (some 82) (v := ?_) rfl rfl (by kernel_rfl) (by kernel_rfl) (by kernel_rfl) (fun _ _ _ h => h) (by rfl) ?_ (by assumption) ?_
  rotate_left
  · intro w hSw
    (try dsimp only at hSw)
    go_simp
    try with_reducible rfl
  try simp only [Act.put, List.setIfInBounds_toArray, List.set_cons_zero, List.set_cons_succ]
  refine takeD 40 (some 0) (v := ?_) rfl rfl (by kernel_rfl) (by kernel_rfl) (by kernel_rfl) (fun _ _ _ h => h) (by rfl) ?_ (by assumption) ?_
  rotate_left
  · intro w hSw
    (try dsimp only at hSw)
    go_simp
    try with_reducible rfl
  try simp only [Act.put, List.setIfInBounds_toArray, List.set_cons_zero, List.set_cons_succ]
  refine wpAnyH_done (by kernel_rfl) ?_ _
  go_wp2
  go_ret
  exact ⟨by simp, hb9.trans (hHeld.mono hb9.size)⟩
end Go.Proofs.Ytnimialdccbdfaa
