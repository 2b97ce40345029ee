/- Layer 4: laws, walked. -/
import Derived.Test.YtnimialdccbdfaaPackK
namespace Go.Proofs.Ytnimialdccbdfaa
open Go.ChangeShapes Go.WideShapes Go.ChangeAt Go.RowKit Go.Deep
set_option linter.unusedVariables false
set_option linter.unusedSimpArgs false

set_option maxRecDepth 100000 in
set_option maxHeartbeats 400000 in
theorem walk_PackApart (v : Value) (p : Pk) (u : Value) (q : Pk) (w : World) (h0 : PkV w v p) (h1 : PkV w u q) :
    Calls Try.prog 6 #[v, u] w fun e w' => e = .returned (.bool true) ∧ Below w.heap.size w w' := by
  obtain ⟨vs, rfl, hIP⟩ := h0
  obtain ⟨A, c, hsP, hcP, hcmP, _⟩ := hIP.shape
  subst hsP
  have hlzP : ((p.vals.length : Nat) : Int) ≤ 9223372036854775807 := by unfold maxLen at hcmP; omega
  have P0 := Lib.hid hIP
  clear hIP hcmP hcP
  obtain ⟨us, rfl, hIQ⟩ := h1
  obtain ⟨B, d, hsQ, hcQ, hcmQ, _⟩ := hIQ.shape
  subst hsQ
  have hlzQ : ((q.vals.length : Nat) : Int) ≤ 9223372036854775807 := by unfold maxLen at hcmQ; omega
  have Q0 := Lib.hid hIQ
  clear hIQ hcmQ hcQ
  go_enter Try.func6, Try.ntmps6
  go_wp2_with fail
  refine calls_world (fun W1 => Below w.heap.size w W1 ∧ Ints .i64 W1 (.slice A p.vals.length c) p.vals ∧ Ints .i64 W1 (.slice B q.vals.length d) q.vals ∧ Blk W1 w.heap.size 24 #[.int .i64 p.dev, .int .i64 p.chan, .int .i64 p.boot, .int .i64 p.seq, .int .i64 p.stamp, .slice A p.vals.length c] ∧ Blk W1 (w.heap.size + 1) 24 #[.int .i64 q.dev, .int .i64 q.chan, .int .i64 q.boot, .int .i64 q.seq, .int .i64 q.stamp, .slice B q.vals.length d]) ⟨(by go_grown), (P0.out.below (by go_grown)), (Q0.out.below (by go_grown)), ((Blk.new _ _ _ _ (by first | rfl | simp)).al _), (Blk.new _ _ _ _ (by first | rfl | simp))⟩ fun W1 ⟨hb1, qP, qQ, qS, qT⟩ => ?_
  have P1 := Lib.hid qP
  have Q1 := Lib.hid qQ
  have S1 := Lib.hid qS
  have T1 := Lib.hid qT
  (try clear cS); (try clear lS); (try clear dS); (try clear cT); (try clear lT); (try clear dT)
  clear qP qQ qS qT P0 Q0
  refine (head_any _).mono ?_
  rintro e W2 ⟨rfl, hk⟩
  have hb2 := hb1.trans (hk.mono hb1.size)
  have P2 := Lib.hid (P1.out.below hk)
  have Q2 := Lib.hid (Q1.out.below hk)
  have S2 := Lib.hid (S1.out.below hk)
  have T2 := Lib.hid (T1.out.below hk)
  (try clear cS); (try clear lS); (try clear dS); (try clear cT); (try clear lT); (try clear dT)
  clear hk P1 Q1 S1 T1 hb1
  have cS := S2.out.cells
  have lS := S2.out.lt
  have cT := T2.out.cells
  have lT := T2.out.lt
  by_cases hbp : 100 < p.vals.length
  · have g1 : decide (((p.vals.length : Nat) : Int) > 100) = true := decide_eq_true (by omega)
    go_wp2
    go_ret
    exact ⟨by first | rfl | simp, hb2⟩
  have g1 : decide (((p.vals.length : Nat) : Int) > 100) = false := decide_eq_false (by omega)
  by_cases hbq : 100 < q.vals.length
  · have g2 : decide (((q.vals.length : Nat) : Int) > 100) = true := decide_eq_true (by omega)
    go_wp2
    go_ret
    exact ⟨by first | rfl | simp, hb2⟩
  have g2 : decide (((q.vals.length : Nat) : Int) > 100) = false := decide_eq_false (by omega)
  go_wp2_with fail
  refine (right_any _ p _ ⟨_, rfl, P2.out⟩).mono ?_
  rintro e W3 ⟨rfl, hk⟩
  have hb3 := hb2.trans (hk.mono hb2.size)
  have P3 := Lib.hid (P2.out.below hk)
  have Q3 := Lib.hid (Q2.out.below hk)
  have S3 := Lib.hid (S2.out.below hk)
  have T3 := Lib.hid (T2.out.below hk)
  (try clear cS); (try clear lS); (try clear dS); (try clear cT); (try clear lT); (try clear dT)
  clear hk P2 Q2 S2 T2 hb2
  have cS := S3.out.cells
  have lS := S3.out.lt
  have cT := T3.out.cells
  have lT := T3.out.lt
  by_cases hp : p.right
  rotate_left
  · rw [show decide p.right = false from decide_eq_false hp]
    go_wp2
    go_ret
    exact ⟨by first | rfl | simp, hb3⟩
  rw [show decide p.right = true from decide_eq_true hp]
  go_wp2_with fail
  refine (right_any _ q _ ⟨_, rfl, Q3.out⟩).mono ?_
  rintro e W4 ⟨rfl, hk⟩
  have hb4 := hb3.trans (hk.mono hb3.size)
  have P4 := Lib.hid (P3.out.below hk)
  have Q4 := Lib.hid (Q3.out.below hk)
  have S4 := Lib.hid (S3.out.below hk)
  have T4 := Lib.hid (T3.out.below hk)
  (try clear cS); (try clear lS); (try clear dS); (try clear cT); (try clear lT); (try clear dT)
  clear hk P3 Q3 S3 T3 hb3
  have cS := S4.out.cells
  have lS := S4.out.lt
  have cT := T4.out.cells
  have lT := T4.out.lt
  by_cases hq : q.right
  rotate_left
  · rw [show decide q.right = false from decide_eq_false hq]
    go_wp2
    go_ret
    exact ⟨by first | rfl | simp, hb4⟩
  rw [show decide q.right = true from decide_eq_true hq]
  have HE := Lib.hid (show decide (p.data = q.data) = decide (p = q) by simp only [data_inj p q hp hq])
  have HP := Lib.hid hp
  have HQ := Lib.hid hq
  clear hp hq
  go_wp2_with fail
  refine (data_yes _ p _ ⟨_, rfl, P4.out⟩ HP.out).mono ?_
  rintro e W5 ⟨b, rfl, hX, hk⟩
  have hb5 := hb4.trans (hk.mono hb4.size)
  have P5 := Lib.hid (P4.out.below hk)
  have Q5 := Lib.hid (Q4.out.below hk)
  have S5 := Lib.hid (S4.out.below hk)
  have T5 := Lib.hid (T4.out.below hk)
  (try clear cS); (try clear lS); (try clear dS); (try clear cT); (try clear lT); (try clear dT)
  clear hk P4 Q4 S4 T4 hb4
  have X5 := Lib.hid (show Bytes W5 b p.data from hX)
  clear hX
  have cS := S5.out.cells
  have lS := S5.out.lt
  have cT := T5.out.cells
  have lT := T5.out.lt
  go_wp2_with fail
  refine (data_yes _ q _ ⟨_, rfl, Q5.out⟩ HQ.out).mono ?_
  rintro e W6 ⟨b2, rfl, hY, hk⟩
  have hb6 := hb5.trans (hk.mono hb5.size)
  have P6 := Lib.hid (P5.out.below hk)
  have Q6 := Lib.hid (Q5.out.below hk)
  have S6 := Lib.hid (S5.out.below hk)
  have T6 := Lib.hid (T5.out.below hk)
  have X6 := Lib.hid (X5.out.below hk)
  (try clear cS); (try clear lS); (try clear dS); (try clear cT); (try clear lT); (try clear dT)
  clear hk P5 Q5 S5 T5 X5 hb5
  have Y6 := Lib.hid (show Bytes W6 b2 q.data from hY)
  clear hY
  have cS := S6.out.cells
  have lS := S6.out.lt
  have cT := T6.out.cells
  have lT := T6.out.lt
  go_wp2_with fail
  refine wp_world (fun W7 => Below w.heap.size w W7 ∧ Ints .i64 W7 (.slice A p.vals.length c) p.vals ∧ Ints .i64 W7 (.slice B q.vals.length d) q.vals ∧ Blk W7 w.heap.size 24 #[.int .i64 p.dev, .int .i64 p.chan, .int .i64 p.boot, .int .i64 p.seq, .int .i64 p.stamp, .slice A p.vals.length c] ∧ Blk W7 (w.heap.size + 1) 24 #[.int .i64 q.dev, .int .i64 q.chan, .int .i64 q.boot, .int .i64 q.seq, .int .i64 q.stamp, .slice B q.vals.length d] ∧ Bytes W7 b p.data ∧ Bytes W7 b2 q.data) ⟨(hb6.trans ((show Below W6.heap.size W6 _ by go_grown).mono hb6.size)), (P6.out.below (by go_grown)), (Q6.out.below (by go_grown)), (S6.out.below (by go_grown)), (T6.out.below (by go_grown)), (X6.out.below (by go_grown)), (Y6.out.below (by go_grown))⟩ fun W7 ⟨hb7, qP, qQ, qS, qT, qX, qY⟩ => ?_
  have P7 := Lib.hid qP
  have Q7 := Lib.hid qQ
  have S7 := Lib.hid qS
  have T7 := Lib.hid qT
  have X7 := Lib.hid qX
  have Y7 := Lib.hid qY
  (try clear cS); (try clear lS); (try clear dS); (try clear cT); (try clear lT); (try clear dT)
  clear qP qQ qS qT qX qY P6 Q6 S6 T6 X6 Y6 hb6
  have dS : ∀ w', Below W7.heap.size W7 w' → ∀ i, w'.cell? ⟨w.heap.size, i, none⟩ = (#[.int .i64 p.dev, .int .i64 p.chan, .int .i64 p.boot, .int .i64 p.seq, .int .i64 p.stamp, .slice A p.vals.length c] : Array Value)[i]? := fun w' hb i => by rw [hb.cell (p := ⟨w.heap.size, i, none⟩) S7.out.lt]; exact S7.out.cells i
  have dT : ∀ w', Below W7.heap.size W7 w' → ∀ i, w'.cell? ⟨(w.heap.size + 1), i, none⟩ = (#[.int .i64 q.dev, .int .i64 q.chan, .int .i64 q.boot, .int .i64 q.seq, .int .i64 q.stamp, .slice B q.vals.length d] : Array Value)[i]? := fun w' hb i => by rw [hb.cell (p := ⟨(w.heap.size + 1), i, none⟩) T7.out.lt]; exact T7.out.cells i
  refine wp_region_held_drew (S := fun w' => Below W7.heap.size W7 w') (by kernel_rfl) (by go_grown) (fun hHeld => ?_)
  refine takeD 0 (some 42) (v := ?_) rfl rfl (by kernel_rfl) (by kernel_rfl) (by kernel_rfl) (fun _ _ _ h => h) (by rfl) ?_ (by assumption) ?_
  rotate_left
  · intro w hSw
    (try dsimp only at hSw)
    go_simp
    try with_reducible rfl
  try simp only [Act.put, List.setIfInBounds_toArray, List.set_cons_zero, List.set_cons_succ]
  refine takeD 1 (some 43) (v := ?_) rfl rfl (by kernel_rfl) (by kernel_rfl) (by kernel_rfl) (fun _ _ _ h => h) (by rfl) ?_ (by assumption) ?_
  rotate_left
  · intro w hSw
    (try dsimp only at hSw)
    go_simp
    try with_reducible rfl
  try simp only [Act.put, List.setIfInBounds_toArray, List.set_cons_zero, List.set_cons_succ]
  refine takeD 2 (some 44) (v := ?_) rfl rfl (by kernel_rfl) (by kernel_rfl) (by kernel_rfl) (fun _ _ _ h => h) (by rfl) ?_ (by assumption) ?_
  rotate_left
  · intro w hSw
    (try dsimp only at hSw)
    go_simp
    try with_reducible rfl
  try simp only [Act.put, List.setIfInBounds_toArray, List.set_cons_zero, List.set_cons_succ]
  refine takeD 3 (some 45) (v := ?_) rfl rfl (by kernel_rfl) (by kernel_rfl) (by kernel_rfl) (fun _ _ _ h => h) (by rfl) ?_ (by assumption) ?_
  rotate_left
  · intro w hSw
    (try dsimp only at hSw)
    go_simp
    try with_reducible rfl
  try simp only [Act.put, List.setIfInBounds_toArray, List.set_cons_zero, List.set_cons_succ]
  refine takeD 5 (some 47) (v := ?_) rfl rfl (by kernel_rfl) (by kernel_rfl) (by kernel_rfl) (fun _ _ _ h => h) (by rfl) ?_ (by assumption) ?_
  rotate_left
  · intro w hSw
    (try dsimp only at hSw)
    go_simp
    try with_reducible rfl
  try simp only [Act.put, List.setIfInBounds_toArray, List.set_cons_zero, List.set_cons_succ]
  refine takeD 6 (some 48) (v := ?_) rfl rfl (by kernel_rfl) (by kernel_rfl) (by kernel_rfl) (fun _ _ _ h => h) (by rfl) ?_ (by assumption) ?_
  rotate_left
  · intro w hSw
    (try dsimp only at hSw)
    go_simp
    try with_reducible rfl
  try simp only [Act.put, List.setIfInBounds_toArray, List.set_cons_zero, List.set_cons_succ]
  refine wpAnyH_ready (rs := [4]) (by kernel_rfl) (by simp) ?_
  refine AllReadyH.cons rfl (fun K hK => ?_) AllReadyH.nil
  rw [if_pos (by rfl)]
  go_simp
  go_at_call 16
  refine (same_any _ _ p.data q.data _ (X7.out.below hHeld) (Y7.out.below hHeld)).mono ?_
  rintro e w1 ⟨rfl, rfl⟩
  rw [HE.out]
  go_wp2_with fail
  refine hK.out _ _ ?_ (fun hHeld2 => ?_)
  · first | exact hHeld.trans (hk.mono hHeld.size) | (clear hK; have hz := hHeld.size; go_grown)
  clear hK K hHeld
  have hHeld := hHeld2
  clear hHeld2
  try clear hk
  try simp only [Act.put, List.setIfInBounds_toArray, List.set_cons_zero, List.set_cons_succ]
  refine wpAnyH_ready (rs := [7]) (by kernel_rfl) (by simp) ?_
  refine AllReadyH.cons rfl (fun K hK => ?_) AllReadyH.nil
  rw [if_pos (by rfl)]
  go_simp
  go_at_call 17
  refine (same_pk _ _ p q _ ⟨_, rfl, P7.out.below hHeld⟩ ⟨_, rfl, Q7.out.below hHeld⟩).mono ?_
  rintro e w1 ⟨rfl, hk⟩
  go_wp2_with fail
  refine hK.out _ _ ?_ (fun hHeld2 => ?_)
  · first | exact hHeld.trans (hk.mono hHeld.size) | (clear hK; have hz := hHeld.size; go_grown)
  clear hK K hHeld
  have hHeld := hHeld2
  clear hHeld2
  try clear hk
  try simp only [Act.put, List.setIfInBounds_toArray, List.set_cons_zero, List.set_cons_succ]
  refine takeD 8 (some 50) (v := ?_) rfl rfl (by kernel_rfl) (by kernel_rfl) (by kernel_rfl) (fun _ _ _ h => h) (by rfl) ?_ (by assumption) ?_
  rotate_left
  · intro w hSw
    (try dsimp only at hSw)
    go_simp
    try with_reducible rfl
  try simp only [Act.put, List.setIfInBounds_toArray, List.set_cons_zero, List.set_cons_succ]
  refine takeD 9 (some 51) (v := ?_) rfl rfl (by kernel_rfl) (by kernel_rfl) (by kernel_rfl) (fun _ _ _ h => h) (by rfl) ?_ (by assumption) ?_
  rotate_left
  · intro w hSw
    (try dsimp only at hSw)
    go_simp
    try with_reducible rfl
  try simp only [Act.put, List.setIfInBounds_toArray, List.set_cons_zero, List.set_cons_succ]
  refine takeD 10 (some 4) (v := ?_) rfl rfl (by kernel_rfl) (by kernel_rfl) (by kernel_rfl) (fun _ _ _ h => h) (by rfl) ?_ (by assumption) ?_
  rotate_left
  · intro w hSw
    (try dsimp only at hSw)
    go_simp
    try with_reducible rfl
  try simp only [Act.put, List.setIfInBounds_toArray, List.set_cons_zero, List.set_cons_succ]
  refine wpAnyH_done (by kernel_rfl) ?_ _
  go_wp2
  go_ret
  exact ⟨by first | rfl | simp, hb7.trans (hHeld.mono hb7.size)⟩
end Go.Proofs.Ytnimialdccbdfaa
