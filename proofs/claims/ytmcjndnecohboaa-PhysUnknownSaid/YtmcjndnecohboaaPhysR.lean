/- Layer 19: laws, walked. -/
import Derived.Test.YtmcjndnecohboaaPhysM
namespace Go.Proofs.Ytmcjndnecohboaa
open Go.ChangeShapes Go.WideShapes Go.ChangeAt Go.RowKit
set_option linter.unusedVariables false
set_option linter.unusedSimpArgs false

theorem right_b (sl : Value) (h : Int) (la : Bool) (s : Ph) (w : World) :
    Calls Try.prog 11 #[.agg #[sl, .int .i64 h, .bool la], .agg #[.int .i64 s.run, .bool s.on, .bool s.now]] w fun e w' => e = .returned (.bool (rightP h la s)) ∧ Below w.heap.size w w' :=
  (right_any sl h la s w).mono fun e w' ⟨he, hw⟩ => ⟨he, by rw [← hw]; go_grown⟩
theorem rightP_bd {h : Int} {la : Bool} {s : Ph} (hr : rightP h la s = true) : 0 ≤ s.run ∧ s.run ≤ h := by
  rw [rightP_iff] at hr
  exact ⟨hr.1, hr.2.1⟩
set_option maxRecDepth 100000 in
set_option maxHeartbeats 4000000 in
theorem walk_PhysRight (n : Int) (la : Bool) (r : Int) (o nw : Bool) (t : Int) (ack : Bool) (w : World) (w0 : (Lit.int .u8 n).wf = true) (w2 : (Lit.int .i64 r).wf = true) (w3 : (Lit.int .i64 t).wf = true) :
    Calls Try.prog 4 #[.int .u8 n, .bool la, .agg #[.int .i64 r, .bool o, .bool nw], .int .i64 t, .bool ack] w fun e w' => e = .returned (.bool true) ∧ Below w.heap.size w w' := by
  have bn := bounds_u8 w0
  have hn0 : 1 ≤ n % 6 + 1 ∧ n % 6 + 1 ≤ 6 := by omega
  clear w0 w2 w3
  go_enter Try.func4, Try.ntmps4
  go_wp2_with fail
  refine calls_world (fun W1 => Below w.heap.size w W1 ∧ Blk W1 w.heap.size 23 #[.int .i64 r, .bool o, .bool nw]) ⟨(by go_grown), (Blk.new _ _ _ _ (by first | rfl | simp))⟩ fun W1 ⟨hb1, qS⟩ => ?_
  have S1 := Lib.hid qS
  (try clear cS); (try clear lS); (try clear dS)
  clear qS
  refine (head_any _).mono ?_
  rintro e W2 ⟨rfl, hk⟩
  have hb2 := hb1.trans (hk.mono hb1.size)
  have S2 := Lib.hid (S1.out.below hk)
  (try clear cS); (try clear lS); (try clear dS)
  clear hk S1 hb1
  go_wp2_with fail
  refine (hold_any n la _ bn.1 bn.2).mono ?_
  rintro e W3 ⟨rfl, hk⟩
  have hb3 := hb2.trans (hk.mono hb2.size)
  have S3 := Lib.hid (S2.out.below hk)
  (try clear cS); (try clear lS); (try clear dS)
  clear hk S2 hb2
  go_wp2_with fail
  generalize n % 6 + 1 = h at *
  refine calls_world (fun W4 => Below w.heap.size w W4 ∧ Blk W4 w.heap.size 23 #[.int .i64 r, .bool o, .bool nw] ∧ Blk W4 W3.heap.size 29 #[.slice none 0 0, .int .i64 h, .bool la]) ⟨(hb3.trans ((show Below W3.heap.size W3 _ by go_grown).mono hb3.size)), (S3.out.below (by go_grown)), (Blk.new _ _ _ _ (by first | rfl | simp))⟩ fun W4 ⟨hb4, qS, qT⟩ => ?_
  have S4 := Lib.hid qS
  have T4 := Lib.hid qT
  (try clear cS); (try clear lS); (try clear dS); (try clear cT); (try clear lT); (try clear dT)
  clear qS qT S3 hb3
  have hz := right_zero h la hn0.1
  refine (right_b (.slice none 0 0) h la ⟨0, false, false⟩ _).mono ?_
  rintro e W5 ⟨rfl, hk⟩
  have hb5 := hb4.trans (hk.mono hb4.size)
  have S5 := Lib.hid (S4.out.below hk)
  have T5 := Lib.hid (T4.out.below hk)
  (try clear cS); (try clear lS); (try clear dS); (try clear cT); (try clear lT); (try clear dT)
  clear hk S4 T4 hb4
  rw [hz]
  clear hz
  have cS := S5.out.cells
  have lS := S5.out.lt
  have cT := T5.out.cells
  have lT := T5.out.lt
  go_wp2_with fail
  refine wp_world (fun W6 => Below w.heap.size w W6 ∧ Blk W6 w.heap.size 23 #[.int .i64 r, .bool o, .bool nw] ∧ Blk W6 W3.heap.size 29 #[.slice none 0 0, .int .i64 h, .bool la]) ⟨(hb5.trans ((show Below W5.heap.size W5 _ by go_grown).mono hb5.size)), (S5.out.below (by go_grown)), (T5.out.below (by go_grown))⟩ fun W6 ⟨hb6, qS, qT⟩ => ?_
  have S6 := Lib.hid qS
  have T6 := Lib.hid qT
  (try clear cS); (try clear lS); (try clear dS); (try clear cT); (try clear lT); (try clear dT)
  clear qS qT S5 T5 hb5
  have cS := S6.out.cells
  have lS := S6.out.lt
  have cT := T6.out.cells
  have lT := T6.out.lt
  rcases hr : rightP h la ⟨r, o, nw⟩ with _ | _
  · have hR := fun W => right_b (.slice none 0 0) h la ⟨r, o, nw⟩ W
    rw [hr] at hR
    have dS : ∀ w', Below W6.heap.size W6 w' → ∀ i, w'.cell? ⟨w.heap.size, i, none⟩ = (#[.int .i64 r, .bool o, .bool nw] : Array Value)[i]? := fun w' hb i => by rw [hb.cell (p := ⟨w.heap.size, i, none⟩) S6.out.lt]; exact S6.out.cells i
    have dT : ∀ w', Below W6.heap.size W6 w' → ∀ i, w'.cell? ⟨W3.heap.size, i, none⟩ = (#[.slice none 0 0, .int .i64 h, .bool la] : Array Value)[i]? := fun w' hb i => by rw [hb.cell (p := ⟨W3.heap.size, i, none⟩) T6.out.lt]; exact T6.out.cells i
    refine wp_region_held_drew (S := fun w' => Below W6.heap.size W6 w') (by kernel_rfl) (by go_grown) (fun hHeld => ?_)
    refine takeD 0 (some 21) (v := ?_) rfl rfl (by kernel_rfl) (by kernel_rfl) (by kernel_rfl) (fun _ _ _ h => h) (by rfl) ?_ (by assumption) ?_
    rotate_left
    · intro w hSw
      (try dsimp only at hSw)
      go_simp
      try with_reducible rfl
    try simp only [Act.put, List.setIfInBounds_toArray, List.set_cons_zero, List.set_cons_succ]
    refine takeD 1 (some 22) (v := ?_) rfl rfl (by kernel_rfl) (by kernel_rfl) (by kernel_rfl) (fun _ _ _ h => h) (by rfl) ?_ (by assumption) ?_
    rotate_left
    · intro w hSw
      (try dsimp only at hSw)
      go_simp
      try with_reducible rfl
    try simp only [Act.put, List.setIfInBounds_toArray, List.set_cons_zero, List.set_cons_succ]
    refine takeD 2 (some 23) (v := ?_) rfl rfl (by kernel_rfl) (by kernel_rfl) (by kernel_rfl) (fun _ _ _ h => h) (by rfl) ?_ (by assumption) ?_
    rotate_left
    · intro w hSw
      (try dsimp only at hSw)
      go_simp
      try with_reducible rfl
    try simp only [Act.put, List.setIfInBounds_toArray, List.set_cons_zero, List.set_cons_succ]
    refine takeD 3 (some 24) (v := ?_) rfl rfl (by kernel_rfl) (by kernel_rfl) (by kernel_rfl) (fun _ _ _ h => h) (by rfl) ?_ (by assumption) ?_
    rotate_left
    · intro w hSw
      (try dsimp only at hSw)
      go_simp
      try with_reducible rfl
    try simp only [Act.put, List.setIfInBounds_toArray, List.set_cons_zero, List.set_cons_succ]
    refine wpAnyH_ready (rs := [4]) (by kernel_rfl) (by simp) ?_
    refine AllReadyH.cons rfl (fun K hK => ?_) AllReadyH.nil
    rw [if_pos (by rfl)]
    go_simp
    go_at_call 11
    refine (hR _).mono ?_
    rintro e w1 ⟨rfl, hk⟩
    go_wp2_with fail
    refine hK.out _ _ ?_ (fun hHeld2 => ?_)
    · first | exact hHeld.trans (hk.mono hHeld.size) | (clear hK; have hz := hHeld.size; go_grown)
    clear hK K hHeld
    have hHeld := hHeld2
    clear hHeld2
    try clear hk
    try simp only [Act.put, List.setIfInBounds_toArray, List.set_cons_zero, List.set_cons_succ]
    refine takeD 5 (some 26) (v := ?_) rfl rfl (by kernel_rfl) (by kernel_rfl) (by kernel_rfl) (fun _ _ _ h => h) (by rfl) ?_ (by assumption) ?_
    rotate_left
    · intro w hSw
      (try dsimp only at hSw)
      go_simp
      try with_reducible rfl
    try simp only [Act.put, List.setIfInBounds_toArray, List.set_cons_zero, List.set_cons_succ]
    refine takeD 6 (some 27) (v := ?_) rfl rfl (by kernel_rfl) (by kernel_rfl) (by kernel_rfl) (fun _ _ _ h => h) (by rfl) ?_ (by assumption) ?_
    rotate_left
    · intro w hSw
      (try dsimp only at hSw)
      go_simp
      try with_reducible rfl
    try simp only [Act.put, List.setIfInBounds_toArray, List.set_cons_zero, List.set_cons_succ]
    refine skipD 7 (some 28) rfl rfl (by kernel_rfl) (by kernel_rfl) (by kernel_rfl) (fun _ _ _ h => h) (by rfl) (by assumption) ?_
    try simp only [Act.put, List.setIfInBounds_toArray, List.set_cons_zero, List.set_cons_succ]
    refine skipD 8 (some 29) rfl rfl (by kernel_rfl) (by kernel_rfl) (by kernel_rfl) (fun _ _ _ h => h) (by rfl) (by assumption) ?_
    try simp only [Act.put, List.setIfInBounds_toArray, List.set_cons_zero, List.set_cons_succ]
    refine skipD 9 (some 30) rfl rfl (by kernel_rfl) (by kernel_rfl) (by kernel_rfl) (fun _ _ _ h => h) (by rfl) (by assumption) ?_
    try simp only [Act.put, List.setIfInBounds_toArray, List.set_cons_zero, List.set_cons_succ]
    refine skipD 10 (some 31) rfl rfl (by kernel_rfl) (by kernel_rfl) (by kernel_rfl) (fun _ _ _ h => h) (by rfl) (by assumption) ?_
    try simp only [Act.put, List.setIfInBounds_toArray, List.set_cons_zero, List.set_cons_succ]
    refine skipD 11 (some 32) rfl rfl (by kernel_rfl) (by kernel_rfl) (by kernel_rfl) (fun _ _ _ h => h) (by rfl) (by assumption) ?_
    try simp only [Act.put, List.setIfInBounds_toArray, List.set_cons_zero, List.set_cons_succ]
    refine skipD 12 (some 33) rfl rfl (by kernel_rfl) (by kernel_rfl) (by kernel_rfl) (fun _ _ _ h => h) (by rfl) (by assumption) ?_
    try simp only [Act.put, List.setIfInBounds_toArray, List.set_cons_zero, List.set_cons_succ]
    refine skipD 13 (some 34) rfl rfl (by kernel_rfl) (by kernel_rfl) (by kernel_rfl) (fun _ _ _ h => h) (by rfl) (by assumption) ?_
    try simp only [Act.put, List.setIfInBounds_toArray, List.set_cons_zero, List.set_cons_succ]
    refine takeD 14 (some 35) (v := ?_) rfl rfl (by kernel_rfl) (by kernel_rfl) (by kernel_rfl) (fun _ _ _ h => h) (by rfl) ?_ (by assumption) ?_
    rotate_left
    · intro w hSw
      (try dsimp only at hSw)
      go_simp
      try with_reducible rfl
    try simp only [Act.put, List.setIfInBounds_toArray, List.set_cons_zero, List.set_cons_succ]
    refine takeD 15 (some 36) (v := ?_) rfl rfl (by kernel_rfl) (by kernel_rfl) (by kernel_rfl) (fun _ _ _ h => h) (by rfl) ?_ (by assumption) ?_
    rotate_left
    · intro w hSw
      (try dsimp only at hSw)
      go_simp
      try with_reducible rfl
    try simp only [Act.put, List.setIfInBounds_toArray, List.set_cons_zero, List.set_cons_succ]
    refine takeD 16 (some 10) (v := ?_) rfl rfl (by kernel_rfl) (by kernel_rfl) (by kernel_rfl) (fun _ _ _ h => h) (by rfl) ?_ (by assumption) ?_
    rotate_left
    · intro w hSw
      (try dsimp only at hSw)
      go_simp
      try with_reducible rfl
    try simp only [Act.put, List.setIfInBounds_toArray, List.set_cons_zero, List.set_cons_succ]
    refine wpAnyH_done (by kernel_rfl) ?_ _
    go_wp2
    go_ret
    exact ⟨by simp, hb6.trans (hHeld.mono hb6.size)⟩
  · have hR := fun W => right_b (.slice none 0 0) h la ⟨r, o, nw⟩ W
    rw [hr] at hR
    have rb := rightP_bd hr
    simp only at rb
    have hR2 := fun W => right_b (.slice none 0 0) h la (pstep h la ⟨r, o, nw⟩ t ack) W
    rw [right_step h la _ _ _ hn0.1 hr] at hR2
    have dS : ∀ w', Below W6.heap.size W6 w' → ∀ i, w'.cell? ⟨w.heap.size, i, none⟩ = (#[.int .i64 r, .bool o, .bool nw] : Array Value)[i]? := fun w' hb i => by rw [hb.cell (p := ⟨w.heap.size, i, none⟩) S6.out.lt]; exact S6.out.cells i
    have dT : ∀ w', Below W6.heap.size W6 w' → ∀ i, w'.cell? ⟨W3.heap.size, i, none⟩ = (#[.slice none 0 0, .int .i64 h, .bool la] : Array Value)[i]? := fun w' hb i => by rw [hb.cell (p := ⟨W3.heap.size, i, none⟩) T6.out.lt]; exact T6.out.cells i
    refine wp_region_held_drew (S := fun w' => Below W6.heap.size W6 w') (by kernel_rfl) (by go_grown) (fun hHeld => ?_)
    refine takeD 0 (some 21) (v := ?_) rfl rfl (by kernel_rfl) (by kernel_rfl) (by kernel_rfl) (fun _ _ _ h => h) (by rfl) ?_ (by assumption) ?_
    rotate_left
    · intro w hSw
      (try dsimp only at hSw)
      go_simp
      try with_reducible rfl
    try simp only [Act.put, List.setIfInBounds_toArray, List.set_cons_zero, List.set_cons_succ]
    refine takeD 1 (some 22) (v := ?_) rfl rfl (by kernel_rfl) (by kernel_rfl) (by kernel_rfl) (fun _ _ _ h => h) (by rfl) ?_ (by assumption) ?_
    rotate_left
    · intro w hSw
      (try dsimp only at hSw)
      go_simp
      try with_reducible rfl
    try simp only [Act.put, List.setIfInBounds_toArray, List.set_cons_zero, List.set_cons_succ]
    refine takeD 2 (some 23) (v := ?_) rfl rfl (by kernel_rfl) (by kernel_rfl) (by kernel_rfl) (fun _ _ _ h => h) (by rfl) ?_ (by assumption) ?_
    rotate_left
    · intro w hSw
      (try dsimp only at hSw)
      go_simp
      try with_reducible rfl
    try simp only [Act.put, List.setIfInBounds_toArray, List.set_cons_zero, List.set_cons_succ]
    refine takeD 3 (some 24) (v := ?_) rfl rfl (by kernel_rfl) (by kernel_rfl) (by kernel_rfl) (fun _ _ _ h => h) (by rfl) ?_ (by assumption) ?_
    rotate_left
    · intro w hSw
      (try dsimp only at hSw)
      go_simp
      try with_reducible rfl
    try simp only [Act.put, List.setIfInBounds_toArray, List.set_cons_zero, List.set_cons_succ]
    refine wpAnyH_ready (rs := [4]) (by kernel_rfl) (by simp) ?_
    refine AllReadyH.cons rfl (fun K hK => ?_) AllReadyH.nil
    rw [if_pos (by rfl)]
    go_simp
    go_at_call 11
    refine (hR _).mono ?_
    rintro e w1 ⟨rfl, hk⟩
    go_wp2_with fail
    refine hK.out _ _ ?_ (fun hHeld2 => ?_)
    · first | exact hHeld.trans (hk.mono hHeld.size) | (clear hK; have hz := hHeld.size; go_grown)
    clear hK K hHeld
    have hHeld := hHeld2
    clear hHeld2
    try clear hk
    try simp only [Act.put, List.setIfInBounds_toArray, List.set_cons_zero, List.set_cons_succ]
    refine takeD 5 (some 26) (v := ?_) rfl rfl (by kernel_rfl) (by kernel_rfl) (by kernel_rfl) (fun _ _ _ h => h) (by rfl) ?_ (by assumption) ?_
    rotate_left
    · intro w hSw
      (try dsimp only at hSw)
      go_simp
      try with_reducible rfl
    try simp only [Act.put, List.setIfInBounds_toArray, List.set_cons_zero, List.set_cons_succ]
    refine takeD 6 (some 27) (v := ?_) rfl rfl (by kernel_rfl) (by kernel_rfl) (by kernel_rfl) (fun _ _ _ h => h) (by rfl) ?_ (by assumption) ?_
    rotate_left
    · intro w hSw
      (try dsimp only at hSw)
      go_simp
      try with_reducible rfl
    try simp only [Act.put, List.setIfInBounds_toArray, List.set_cons_zero, List.set_cons_succ]
    refine takeD 7 (some 28) (v := ?_) rfl rfl (by kernel_rfl) (by kernel_rfl) (by kernel_rfl) (fun _ _ _ h => h) (by rfl) ?_ (by assumption) ?_
    rotate_left
    · intro w hSw
      (try dsimp only at hSw)
      go_simp
      try with_reducible rfl
    try simp only [Act.put, List.setIfInBounds_toArray, List.set_cons_zero, List.set_cons_succ]
    refine takeD 8 (some 29) (v := ?_) rfl rfl (by kernel_rfl) (by kernel_rfl) (by kernel_rfl) (fun _ _ _ h => h) (by rfl) ?_ (by assumption) ?_
    rotate_left
    · intro w hSw
      (try dsimp only at hSw)
      go_simp
      try with_reducible rfl
    try simp only [Act.put, List.setIfInBounds_toArray, List.set_cons_zero, List.set_cons_succ]
    refine takeD 9 (some 30) (v := ?_) rfl rfl (by kernel_rfl) (by kernel_rfl) (by kernel_rfl) (fun _ _ _ h => h) (by rfl) ?_ (by assumption) ?_
    rotate_left
    · intro w hSw
      (try dsimp only at hSw)
      go_simp
      try with_reducible rfl
    try simp only [Act.put, List.setIfInBounds_toArray, List.set_cons_zero, List.set_cons_succ]
    refine takeD 10 (some 31) (v := ?_) rfl rfl (by kernel_rfl) (by kernel_rfl) (by kernel_rfl) (fun _ _ _ h => h) (by rfl) ?_ (by assumption) ?_
    rotate_left
    · intro w hSw
      (try dsimp only at hSw)
      go_simp
      try with_reducible rfl
    try simp only [Act.put, List.setIfInBounds_toArray, List.set_cons_zero, List.set_cons_succ]
    refine takeD 11 (some 32) (v := ?_) rfl rfl (by kernel_rfl) (by kernel_rfl) (by kernel_rfl) (fun _ _ _ h => h) (by rfl) ?_ (by assumption) ?_
    rotate_left
    · intro w hSw
      (try dsimp only at hSw)
      go_simp
      try with_reducible rfl
    try simp only [Act.put, List.setIfInBounds_toArray, List.set_cons_zero, List.set_cons_succ]
    refine wpAnyH_ready (rs := [12]) (by kernel_rfl) (by simp) ?_
    refine AllReadyH.cons rfl (fun K hK => ?_) AllReadyH.nil
    rw [if_pos (by rfl)]
    go_simp
    go_at_call 13
    refine (step_any (.slice none 0 0) h la ⟨r, o, nw⟩ t ack _ rb.1 (show r ≤ 4611686018427387904 by omega)).mono ?_
    rintro e w1 ⟨rfl, hk⟩
    go_wp2_with fail
    refine hK.out _ _ ?_ (fun hHeld2 => ?_)
    · first | exact hHeld.trans (hk.mono hHeld.size) | (clear hK; have hz := hHeld.size; go_grown)
    clear hK K hHeld
    have hHeld := hHeld2
    clear hHeld2
    try clear hk
    try simp only [Act.put, List.setIfInBounds_toArray, List.set_cons_zero, List.set_cons_succ]
    refine wpAnyH_ready (rs := [13]) (by kernel_rfl) (by simp) ?_
    refine AllReadyH.cons rfl (fun K hK => ?_) AllReadyH.nil
    rw [if_pos (by rfl)]
    go_simp
    go_at_call 11
    refine (hR2 _).mono ?_
    rintro e w1 ⟨rfl, hk⟩
    go_wp2_with fail
    refine hK.out _ _ ?_ (fun hHeld2 => ?_)
    · first | exact hHeld.trans (hk.mono hHeld.size) | (clear hK; have hz := hHeld.size; go_grown)
    clear hK K hHeld
    have hHeld := hHeld2
    clear hHeld2
    try clear hk
    try simp only [Act.put, List.setIfInBounds_toArray, List.set_cons_zero, List.set_cons_succ]
    refine takeD 14 (some 35) (v := ?_) rfl rfl (by kernel_rfl) (by kernel_rfl) (by kernel_rfl) (fun _ _ _ h => h) (by rfl) ?_ (by assumption) ?_
    rotate_left
    · intro w hSw
      (try dsimp only at hSw)
      go_simp
      try with_reducible rfl
    try simp only [Act.put, List.setIfInBounds_toArray, List.set_cons_zero, List.set_cons_succ]
    refine takeD 15 (some 36) (v := ?_) rfl rfl (by kernel_rfl) (by kernel_rfl) (by kernel_rfl) (fun _ _ _ h => h) (by rfl) ?_ (by assumption) ?_
    rotate_left
    · intro w hSw
      (try dsimp only at hSw)
      go_simp
      try with_reducible rfl
    try simp only [Act.put, List.setIfInBounds_toArray, List.set_cons_zero, List.set_cons_succ]
    refine takeD 16 (some 10) (v := ?_) rfl rfl (by kernel_rfl) (by kernel_rfl) (by kernel_rfl) (fun _ _ _ h => h) (by rfl) ?_ (by assumption) ?_
    rotate_left
    · intro w hSw
      (try dsimp only at hSw)
      go_simp
      try with_reducible rfl
    try simp only [Act.put, List.setIfInBounds_toArray, List.set_cons_zero, List.set_cons_succ]
    refine wpAnyH_done (by kernel_rfl) ?_ _
    go_wp2
    go_ret
    exact ⟨by simp, hb6.trans (hHeld.mono hb6.size)⟩

theorem eqlP (w : World) (a : Int) (c e : Bool) : (binOp .eql 23 (.agg #[.int .i64 a, .bool c, .bool e]) (.agg #[.int .i64 a, .bool c, .bool e])).run Try.prog w = .ok (.bool true) w := by
  have hu : Try.prog.underlying 23 = some (.struct (Try.prog.fieldsOf 23)) := by kernel_rfl
  have hs : Try.prog.stoodInHeld 23 = false := by kernel_rfl
  have ui := Try.underlying3
  have ub := Try.underlying4
  rw [run_eql_struct, run_equalIn_struct _ _ _ _ _ hu hs]
  simp [Program.fieldsOf, Try.underlying23, Op.eqFields, ui, ub, part, go_sem]
theorem guardP : Try.prog.eqGuardType Try.prog.depth 23 = false := by kernel_rfl

set_option maxRecDepth 100000 in
set_option maxHeartbeats 4000000 in
theorem walk_PhysUnknown (n : Int) (la : Bool) (r : Int) (o nw : Bool) (t : Int) (ack : Bool) (w : World) (w0 : (Lit.int .u8 n).wf = true) (w2 : (Lit.int .i64 r).wf = true) (w3 : (Lit.int .i64 t).wf = true) :
    Calls Try.prog 6 #[.int .u8 n, .bool la, .agg #[.int .i64 r, .bool o, .bool nw], .int .i64 t, .bool ack] w fun e w' => e = .returned (.bool true) ∧ Below w.heap.size w w' := by
  have bn := bounds_u8 w0
  have hn0 : 1 ≤ n % 6 + 1 ∧ n % 6 + 1 ≤ 6 := by omega
  clear w0 w2 w3
  go_enter Try.func6, Try.ntmps6
  go_wp2_with fail
  refine calls_world (fun W1 => Below w.heap.size w W1 ∧ Blk W1 w.heap.size 23 #[.int .i64 r, .bool o, .bool nw]) ⟨(by go_grown), (Blk.new _ _ _ _ (by first | rfl | simp))⟩ fun W1 ⟨hb1, qS⟩ => ?_
  have S1 := Lib.hid qS
  (try clear cS); (try clear lS); (try clear dS)
  clear qS
  refine (head_any _).mono ?_
  rintro e W2 ⟨rfl, hk⟩
  have hb2 := hb1.trans (hk.mono hb1.size)
  have S2 := Lib.hid (S1.out.below hk)
  (try clear cS); (try clear lS); (try clear dS)
  clear hk S1 hb1
  go_wp2_with fail
  refine (hold_any n la _ bn.1 bn.2).mono ?_
  rintro e W3 ⟨rfl, hk⟩
  have hb3 := hb2.trans (hk.mono hb2.size)
  have S3 := Lib.hid (S2.out.below hk)
  (try clear cS); (try clear lS); (try clear dS)
  clear hk S2 hb2
  have cS := S3.out.cells
  have lS := S3.out.lt
  go_wp2_with fail
  generalize n % 6 + 1 = h at *
  refine calls_world (fun W4 => Below w.heap.size w W4 ∧ Blk W4 w.heap.size 23 #[.int .i64 r, .bool o, .bool nw] ∧ Blk W4 W3.heap.size 29 #[.slice none 0 0, .int .i64 h, .bool la]) ⟨(hb3.trans ((show Below W3.heap.size W3 _ by go_grown).mono hb3.size)), (S3.out.below (by go_grown)), (Blk.new _ _ _ _ (by first | rfl | simp))⟩ fun W4 ⟨hb4, qS, qT⟩ => ?_
  have S4 := Lib.hid qS
  have T4 := Lib.hid qT
  (try clear cS); (try clear lS); (try clear dS); (try clear cT); (try clear lT); (try clear dT)
  clear qS qT S3 hb3
  refine (right_b (.slice none 0 0) h la ⟨r, o, nw⟩ _).mono ?_
  rintro e W5 ⟨rfl, hk⟩
  have hb5 := hb4.trans (hk.mono hb4.size)
  have S5 := Lib.hid (S4.out.below hk)
  have T5 := Lib.hid (T4.out.below hk)
  (try clear cS); (try clear lS); (try clear dS); (try clear cT); (try clear lT); (try clear dT)
  clear hk S4 T4 hb4
  have cS := S5.out.cells
  have lS := S5.out.lt
  have cT := T5.out.cells
  have lT := T5.out.lt
  rcases hr : rightP h la ⟨r, o, nw⟩ with _ | _
  · go_wp2
    all_goals
      go_ret
      exact ⟨by simp, hb5⟩
  have rb := rightP_bd hr
  simp only at rb
  by_cases t2 : t = 2
  · subst t2
    go_wp2
    all_goals
      go_ret
      exact ⟨by simp, hb5⟩
  by_cases t1 : t = 1
  · subst t1
    go_wp2
    all_goals
      go_ret
      exact ⟨by simp, hb5⟩
  have g2 : (t == 2) = false := by simp [t2]
  have g1 : (t == 1) = false := by simp [t1]
  have E := Lib.hid (show pstep h la ⟨r, o, nw⟩ t ack = akd ⟨r, o, nw⟩ ack by unfold pstep hrd; rw [if_neg t2, if_neg t1])
  rw [rightP_iff] at hr
  obtain ⟨-, -, -, hon, -⟩ := hr
  simp only at hon
  clear t1 t2
  go_wp2_with fail
  refine calls_world (fun W6 => Below w.heap.size w W6 ∧ Blk W6 w.heap.size 23 #[.int .i64 r, .bool o, .bool nw] ∧ Blk W6 W3.heap.size 29 #[.slice none 0 0, .int .i64 h, .bool la]) ⟨(hb5.trans ((show Below W5.heap.size W5 _ by go_grown).mono hb5.size)), (S5.out.below (by go_grown)), (T5.out.below (by go_grown))⟩ fun W6 ⟨hb6, qS, qT⟩ => ?_
  have S6 := Lib.hid qS
  have T6 := Lib.hid qT
  (try clear cS); (try clear lS); (try clear dS); (try clear cT); (try clear lT); (try clear dT)
  clear qS qT S5 T5 hb5
  refine (step_any (.slice none 0 0) h la ⟨r, o, nw⟩ t ack _ rb.1 (show r ≤ 4611686018427387904 by omega)).mono ?_
  rintro e W7 ⟨rfl, hk⟩
  have hb7 := hb6.trans (hk.mono hb6.size)
  have S7 := Lib.hid (S6.out.below hk)
  have T7 := Lib.hid (T6.out.below hk)
  (try clear cS); (try clear lS); (try clear dS); (try clear cT); (try clear lT); (try clear dT)
  clear hk S6 T6 hb6
  rw [E.out]
  have cS := S7.out.cells
  have lS := S7.out.lt
  have cT := T7.out.cells
  have lT := T7.out.lt
  have hq := fun w => eqlP w r o nw
  have hgd := guardP
  cases ack <;> cases nw <;> (try have ho := hon rfl) <;> (try subst ho)
  all_goals
    clear hon
    simp only [akd, reduceCtorEq, and_self, and_true, and_false, if_true, if_false, Bool.false_eq_true]
    go_wp2
    go_ret
    refine ⟨by simp, ?_⟩
    have hz := hb7.size
    go_grown
end Go.Proofs.Ytmcjndnecohboaa
