/- Layer 13: laws, walked: reasons for other counts. -/
import Derived.Test.YtoiaagdpckgpoaaGridK
import Derived.StillTailTactics
namespace Go.Proofs.Ytoiaagdpckgpoaa
open Go.ChangeShapes Go.WideShapes Go.ChangeAt Go.RowKit
set_option linter.unusedVariables false
set_option linter.unusedSimpArgs false

theorem put_one (k N : Nat) (x1 x2 : Int) (hk : 0 < k) (hN : 0 < N) : gputR k (G0 0 N k) 0 0 (x1, x2) = (G0 0 N k).set 0 (0, (List.replicate k ((0, 0), false)).set 0 ((x1, x2), true)) := by
  have h := gputR_in k (G0 0 N k) 0 0 (x1, x2) _ (G0_at 0 N k 0 hN)
  have hp : putC 0 k (List.replicate k (((0 : Int), (0 : Int)), false)) 0 = 9 := by
    have := putC_rep 0 k 0 hk
    simp at this
    simpa [show ¬ (0 ≥ (k : Int)) by omega, show k ≠ 0 by omega] using this
  refine Eq.trans h ?_
  unfold putQ
  rw [if_pos hp]
  rfl
theorem put_code (k N : Nat) (hk : 0 < k) (hN : 0 < N) : gputC k (G0 0 N k) 0 0 = 9 := by
  have h := gputC_in k (G0 0 N k) 0 0 _ (G0_at 0 N k 0 hN)
  refine Eq.trans h ?_
  have := putC_rep 0 k 0 hk
  simp at this
  simpa [show ¬ (0 ≥ (k : Int)) by omega, show k ≠ 0 by omega] using this
theorem first_set (k N : Nat) (q : List SB) (hN : 0 < N) : gfirst ((G0 0 N k).set 0 (0, q)) = 0 := by
  obtain ⟨m, rfl⟩ : ∃ m, N = m + 1 := ⟨N - 1, by omega⟩
  rfl
theorem set_ok (k N : Nat) (i : Nat) (q : List SB) : ∀ r ∈ (G0 0 N k).set i (0, q), r.1 < 4611686018427387904 := by
  intro r hr
  rcases List.mem_or_eq_of_mem_set hr with hr | rfl
  · exact G0_ok 0 N k (by omega) r hr
  · show 0 < 4611686018427387904
    omega
theorem tell_one (k N : Nat) (x1 x2 : Int) (hk : 0 < k) (hN : 0 < N) : ∃ (y : Int) (l : List Value), (c3 (tellC (reasonsL N 0) ((G0 0 N k).set 0 (0, (List.replicate k ((0, 0), false)).set 0 ((x1, x2), true))))) = .int .i64 1 :: .int .i64 x1 :: .int .i64 x2 :: l := by
  obtain ⟨m, rfl⟩ : ∃ m, N = m + 1 := ⟨N - 1, by omega⟩
  obtain ⟨j, rfl⟩ : ∃ j, k = j + 1 := ⟨k - 1, by omega⟩
  have hr : ∃ y l, reasonsL (m + 1) 0 = y :: l := by
    cases h : reasonsL (m + 1) 0 with
    | nil => have := reasonsL_len (m + 1) 0; rw [h] at this; simp at this
    | cons y l => exact ⟨y, l, rfl⟩
  obtain ⟨y, l, hr⟩ := hr
  rw [hr]
  exact ⟨y, _, rfl⟩

set_option maxRecDepth 100000 in
set_option maxHeartbeats 4000000 in
theorem walk_GridRefused (v : Value) (c : Cf) (vw : Value) (why : List Int) (x1 x2 : Int) (w : World) (hc : IsConf w v c) (wc : (Lit.int .i64 c.P).wf = true ∧ (Lit.int .i64 c.H).wf = true ∧ (Lit.int .i64 c.C).wf = true ∧ (Lit.int .i64 c.Mn).wf = true ∧ (Lit.int .i64 c.Mx).wf = true ∧ (Lit.int .i64 c.Rho).wf = true ∧ (Lit.int .i64 c.Bd).wf = true ∧ (Lit.int .i64 c.Win).wf = true ∧ (Lit.int .i64 c.St).wf = true) (wr : ∀ r ∈ c.rows, ∀ z ∈ r, (Lit.int .i64 z).wf = true) (hw : Ints .i64 w vw why) (w1 : (Lit.int .i64 x1).wf = true) (w2 : (Lit.int .i64 x2).wf = true) :
    Calls Try.prog 8 #[v, vw, .agg #[.int .i64 x1, .int .i64 x2]] w fun e w' => e = .returned (.bool true) ∧ Below w.heap.size w w' := by
  obtain ⟨s, r, rfl, hs⟩ := hc
  have HS := Lib.hid hs
  obtain ⟨A, cp, rfl, _, _, q⟩ := hs.src
  clear hs q wc wr
  obtain ⟨Aw, cw, hve, _, _⟩ := hw.1.shape
  rw [List.length_map] at hve
  subst hve
  clear hw w1 w2
  go_enter Try.func8, Try.ntmps8
  go_wp2_with fail
  refine calls_world (fun W1 => Below w.heap.size w W1 ∧ Blk W1 w.heap.size 25 #[.int .i64 c.P, .int .i64 c.H, .int .i64 c.C, .int .i64 c.Mn, .int .i64 c.Mx, .int .i64 c.Rho, .int .i64 c.Bd, .int .i64 c.Win, .int .i64 c.St, .slice A c.rows.length cp, r] ∧ Blk W1 (w.heap.size + 1) 39 #[.int .i64 x1, .int .i64 x2]) ⟨(by go_grown), ((Blk.new _ _ _ _ (by first | rfl | simp)).al _), (Blk.new _ _ _ _ (by first | rfl | simp))⟩ fun W1 ⟨hb1, qB, qX⟩ => ?_
  have B1 := Lib.hid qB
  have X1 := Lib.hid qX
  (try clear cB); (try clear lB); (try clear dB); (try clear cX); (try clear lX); (try clear dX)
  clear qB qX
  refine (head_any _).mono ?_
  rintro e W2 ⟨rfl, hk⟩
  (try clear cB); (try clear lB); (try clear dB); (try clear cX); (try clear lX); (try clear dX)
  have hb2 := Btrans hb1 hk
  have B2 := Lib.hid (B1.out.below hk)
  have X2 := Lib.hid (X1.out.below hk)
  clear hk B1 X1 hb1
  have cB := B2.out.cells
  have lB := B2.out.lt
  have cX := X2.out.cells
  have lX := X2.out.lt
  go_wp2_with fail
  refine (right_c _ c _ ⟨_, _, rfl, HS.out.below hb2⟩).mono ?_
  rintro e W3 ⟨rfl, hk⟩
  (try clear cB); (try clear lB); (try clear dB); (try clear cX); (try clear lX); (try clear dX)
  have hb3 := Btrans hb2 hk
  have B3 := Lib.hid (B2.out.below hk)
  have X3 := Lib.hid (X2.out.below hk)
  clear hk B2 X2 hb2
  have cB := B3.out.cells
  have lB := B3.out.lt
  have cX := X3.out.cells
  have lX := X3.out.lt
  obtain ⟨ok, hok⟩ : ∃ b, b = (!greatB c.rows && confO c) := ⟨_, rfl⟩
  rw [← hok]
  cases ok with
  | false =>
    clear hok
    go_wp2
    go_ret
    exact ⟨by first | rfl | simp, hb3⟩
  | true =>
    obtain ⟨k, hC, hk1, hk64, hN0, hN⟩ := conf_facts hok.symm
    obtain ⟨N, hNN⟩ : ∃ N, N = (chansOf c.rows).length := ⟨_, rfl⟩
    rw [← hNN] at hN0 hN
    have HNN := Lib.hid hNN
    have HCK := Lib.hid hC
    clear hok hNN hC
    by_cases hbig : 100 < why.length
    · have g1 : decide (((why.length : Nat) : Int) > 100) = true := decide_eq_true (by omega)
      go_wp2
      go_ret
      exact ⟨by first | rfl | simp, hb3⟩
    have g1 : decide (((why.length : Nat) : Int) > 100) = false := decide_eq_false (by omega)
    go_wp2_with fail
    refine (rmany_any _ c _ ⟨_, _, rfl, HS.out.below hb3⟩ (by rw [← HNN.out]; omega)).mono ?_
    rintro e W4 ⟨rfl, hk⟩
    (try clear cB); (try clear lB); (try clear dB); (try clear cX); (try clear lX); (try clear dX)
    try rw [← HNN.out]
    have hb4 := Btrans hb3 hk
    have B4 := Lib.hid (B3.out.below hk)
    have X4 := Lib.hid (X3.out.below hk)
    clear hk B3 X3 hb3
    have cB := B4.out.cells
    have lB := B4.out.lt
    have cX := X4.out.cells
    have lX := X4.out.lt
    by_cases heq : why.length = N
    · have g2 : (((why.length : Nat) : Int) == (N : Int)) = true := by rw [beq_iff_eq]; omega
      go_wp2
      go_ret
      exact ⟨by first | rfl | simp, hb4⟩
    have g2 : (((why.length : Nat) : Int) == (N : Int)) = false := beq_false_of_ne (by omega)
    go_wp2_with fail
    refine (gnew_any _ c _ ⟨_, _, rfl, HS.out.below hb4⟩ k HCK.out (by omega) (by rw [← HNN.out]; omega)).mono ?_
    rintro e W5 ⟨Gg, Gab, Gbs, rfl, hbl, hg, hk, hlo⟩
    (try clear cB); (try clear lB); (try clear dB); (try clear cX); (try clear lX); (try clear dX)
    have hzz := hb4.size
    rw [← HNN.out] at hbl hg
    have HLG := Lib.hid hlo
    have HBG := Lib.hid hbl
    have hlGB := B4.out.lt
    have hlGX := X4.out.lt
    obtain ⟨limG, hlim⟩ : ∃ m, m = W4.heap.size := ⟨_, rfl⟩
    rw [← hlim] at HLG hzz hlGB hlGX
    clear hlim hlo hbl
    have hb5 := Btrans hb4 hk
    have B5 := Lib.hid (B4.out.below hk)
    have X5 := Lib.hid (X4.out.below hk)
    clear hk B4 X4 hb4
    have G5 := Lib.hid (show GridS W5 Gg Gab Gbs k (G0 0 N k) from hg)
    clear hg
    have cB := B5.out.cells
    have lB := B5.out.lt
    have cX := X5.out.cells
    have lX := X5.out.lt
    go_wp2_with fail
    refine (gput_any _ Gg Gab k Gbs (G0 0 N k) 0 0 (x1, x2) G5.out (by omega)).mono ?_
    rintro e W6 ⟨rfl, hG, hO⟩
    (try clear cB); (try clear lB); (try clear dB); (try clear cX); (try clear lX); (try clear dX)
    rw [put_one k N x1 x2 (by omega) hN0] at hG
    rw [put_code k N (by omega) hN0]
    have hb6 := Only.below hb5 hb5.size hO (fun x hx => by have := HLG.out x hx; omega)
    have G6 := Lib.hid (show GridS W6 Gg Gab Gbs k ((G0 0 N k).set 0 (0, (List.replicate k ((0, 0), false)).set 0 ((x1, x2), true))) from hG)
    have B6 := Lib.hid (B5.out.only hO (fun hm => by have := HLG.out _ hm; omega))
    have X6 := Lib.hid (X5.out.only hO (fun hm => by have := HLG.out _ hm; omega))
    clear hG hO B5 X5 G5 hb5
    have cB := B6.out.cells
    have lB := B6.out.lt
    have cX := X6.out.cells
    have lX := X6.out.lt
    go_wp2_with fail
    refine (gtell_none _ Gg Gab k why.length cw Gbs _ Aw G6.out (by rw [HBG.out]; exact heq)).mono ?_
    rintro e W7 ⟨rfl, hk⟩
    (try clear cB); (try clear lB); (try clear dB); (try clear cX); (try clear lX); (try clear dX)
    have hb7 := Btrans hb6 hk
    have B7 := Lib.hid (B6.out.below hk)
    have X7 := Lib.hid (X6.out.below hk)
    have G7 := Lib.hid (G6.out.below hk)
    clear hk B6 X6 G6 hb6
    have cB := B7.out.cells
    have lB := B7.out.lt
    have cX := X7.out.cells
    have lX := X7.out.lt
    go_wp2_with fail
    refine (gfirst_any _ Gg Gab k Gbs _ G7.out (by rw [HBG.out]; exact hN0)).mono ?_
    rintro e W8 ⟨rfl, hk⟩
    (try clear cB); (try clear lB); (try clear dB); (try clear cX); (try clear lX); (try clear dX)
    rw [first_set k N _ hN0]
    have hb8 := Btrans hb7 hk
    have B8 := Lib.hid (B7.out.below hk)
    have X8 := Lib.hid (X7.out.below hk)
    have G8 := Lib.hid (G7.out.below hk)
    clear hk B7 X7 G7 hb7
    have cB := B8.out.cells
    have lB := B8.out.lt
    have cX := X8.out.cells
    have lX := X8.out.lt
    go_wp2_with fail
    refine (reasons_any _ c 0 _ ⟨_, _, rfl, HS.out.below hb8⟩ (by omega) (by rw [← HNN.out]; omega)).mono ?_
    rintro e W9 ⟨Ar, cr, rfl, hrow, hoff, hk⟩
    (try clear cB); (try clear lB); (try clear dB); (try clear cX); (try clear lX); (try clear dX)
    rw [← HNN.out] at hrow hoff
    try rw [← HNN.out]
    have hoffG := hoff (gblocks Gg Gab Gbs) G8.out.lt
    have hb9 := Btrans hb8 hk
    have B9 := Lib.hid (B8.out.below hk)
    have X9 := Lib.hid (X8.out.below hk)
    have G9 := Lib.hid (G8.out.below hk)
    clear hk B8 X8 G8 hb8
    have HROW := Lib.hid hrow
    have HOFF := Lib.hid hoffG
    clear hrow hoff hoffG
    have cB := B9.out.cells
    have lB := B9.out.lt
    have cX := X9.out.cells
    have lX := X9.out.lt
    go_wp2_with fail
    refine (gtell_any _ Gg Gab k cr Gbs _ Ar (reasonsL N 0) G9.out (set_ok k N _ _) HROW.out (by rw [reasonsL_len, HBG.out]) HOFF.out).mono ?_
    rintro e W10 ⟨cb, rfl, hcb, hcl, hG, hO⟩
    (try clear cB); (try clear lB); (try clear dB); (try clear cX); (try clear lX); (try clear dX)
    have hltG := G9.out.lt
    have hlc := hcb.lt
    rw [HBG.out]
    have hb10 := Only.below hb9 hb9.size hO (fun x hx => by have := HLG.out x hx; omega)
    have G10 := Lib.hid (show GridS W10 Gg Gab Gbs k (((G0 0 N k).set 0 (0, (List.replicate k ((0, 0), false)).set 0 ((x1, x2), true))).map adv) from hG)
    have B10 := Lib.hid (B9.out.only hO (fun hm => by have := HLG.out _ hm; omega))
    have X10 := Lib.hid (X9.out.only hO (fun hm => by have := HLG.out _ hm; omega))
    clear hG hO B9 X9 G9 hb9
    have C10 := Lib.hid (show Blk W10 cb 51 (c3 (tellC (reasonsL N 0) ((G0 0 N k).set 0 (0, (List.replicate k ((0, 0), false)).set 0 ((x1, x2), true))))).toArray from hcb)
    clear hcb
    obtain ⟨y, l3, hl3⟩ := tell_one k N x1 x2 (by omega) hN0
    have HL3 := Lib.hid hl3
    have dB : ∀ w', Below W10.heap.size W10 w' → ∀ i, w'.cell? ⟨w.heap.size, i, none⟩ = (#[.int .i64 c.P, .int .i64 c.H, .int .i64 c.C, .int .i64 c.Mn, .int .i64 c.Mx, .int .i64 c.Rho, .int .i64 c.Bd, .int .i64 c.Win, .int .i64 c.St, .slice A c.rows.length cp, r] : Array Value)[i]? := fun w' hb i => by rw [hb.cell (p := ⟨w.heap.size, i, none⟩) B10.out.lt]; exact B10.out.cells i
    have dX : ∀ w', Below W10.heap.size W10 w' → ∀ i, w'.cell? ⟨w.heap.size + 1, i, none⟩ = (#[.int .i64 x1, .int .i64 x2] : Array Value)[i]? := fun w' hb i => by rw [hb.cell (p := ⟨w.heap.size + 1, i, none⟩) X10.out.lt]; exact X10.out.cells i
    have dC : ∀ w', Below W10.heap.size W10 w' → w'.cell? ⟨cb, 0, none⟩ = some (.int .i64 1) ∧ w'.cell? ⟨cb, 1, none⟩ = some (.int .i64 x1) ∧ w'.cell? ⟨cb, 2, none⟩ = some (.int .i64 x2) := fun w' hb => by
      refine ⟨?_, ?_, ?_⟩
      all_goals
        rw [hb.cell (by exact hlc), C10.out.cells, HL3.out]
        rfl
    have dC0 := fun w' hb => (dC w' hb).1
    have dC1 := fun w' hb => (dC w' hb).2.1
    have dC2 := fun w' hb => (dC w' hb).2.2
    have hge := guardC
    have heqC : ∀ w : World, (binOp .eql 51 (.agg #[.int .i64 1, .int .i64 x1, .int .i64 x2]) (.agg #[.int .i64 1, .int .i64 x1, .int .i64 x2])).run Try.prog w = .ok (.bool true) w := fun w => by rw [eqlC]; simp
    have hN1 : (0 : Int) < (N : Int) := by omega
    clear dC hl3 hltG
    go_wp2_with fail
    refine wp_region_held_drew (S := fun w' => Below W10.heap.size W10 w') (by kernel_rfl) (by go_grown) (fun hHeld => ?_)
    refine takeD 0 (some 44) (v := ?_) rfl rfl (by kernel_rfl) (by kernel_rfl) (by kernel_rfl) (fun _ _ _ h => h) (by rfl) ?_ (by assumption) ?_
    rotate_left
    · intro w hSw
      (try dsimp only at hSw)
      go_simp
      try with_reducible rfl
    try simp only [Act.put, List.setIfInBounds_toArray, List.set_cons_zero, List.set_cons_succ]
    refine takeD 1 (some 45) (v := ?_) rfl rfl (by kernel_rfl) (by kernel_rfl) (by kernel_rfl) (fun _ _ _ h => h) (by rfl) ?_ (by assumption) ?_
    rotate_left
    · intro w hSw
      (try dsimp only at hSw)
      go_simp
      try with_reducible rfl
    try simp only [Act.put, List.setIfInBounds_toArray, List.set_cons_zero, List.set_cons_succ]
    refine takeD 2 (some 46) (v := ?_) rfl rfl (by kernel_rfl) (by kernel_rfl) (by kernel_rfl) (fun _ _ _ h => h) (by rfl) ?_ (by assumption) ?_
    rotate_left
    · intro w hSw
      (try dsimp only at hSw)
      go_simp
      try with_reducible rfl
    try simp only [Act.put, List.setIfInBounds_toArray, List.set_cons_zero, List.set_cons_succ]
    refine takeD 3 (some 47) (v := ?_) rfl rfl (by kernel_rfl) (by kernel_rfl) (by kernel_rfl) (fun _ _ _ h => h) (by rfl) ?_ (by assumption) ?_
    rotate_left
    · intro w hSw
      (try dsimp only at hSw)
      go_simp
      try with_reducible rfl
    try simp only [Act.put, List.setIfInBounds_toArray, List.set_cons_zero, List.set_cons_succ]
    refine takeD 4 (some 48) (v := ?_) rfl rfl (by kernel_rfl) (by kernel_rfl) (by kernel_rfl) (fun _ _ _ h => h) (by rfl) ?_ (by assumption) ?_
    rotate_left
    · intro w hSw
      (try dsimp only at hSw)
      go_simp
      try with_reducible rfl
    try simp only [Act.put, List.setIfInBounds_toArray, List.set_cons_zero, List.set_cons_succ]
    refine takeD 5 (some 49) (v := ?_) rfl rfl (by kernel_rfl) (by kernel_rfl) (by kernel_rfl) (fun _ _ _ h => h) (by rfl) ?_ (by assumption) ?_
    rotate_left
    · intro w hSw
      (try dsimp only at hSw)
      go_simp
      try with_reducible rfl
    try simp only [Act.put, List.setIfInBounds_toArray, List.set_cons_zero, List.set_cons_succ]
    refine takeD 6 (some 50) (v := ?_) rfl rfl (by kernel_rfl) (by kernel_rfl) (by kernel_rfl) (fun _ _ _ h => h) (by rfl) ?_ (by assumption) ?_
    rotate_left
    · intro w hSw
      (try dsimp only at hSw)
      go_simp
      try with_reducible rfl
    try simp only [Act.put, List.setIfInBounds_toArray, List.set_cons_zero, List.set_cons_succ]
    refine takeD 7 (some 51) (v := ?_) rfl rfl (by kernel_rfl) (by kernel_rfl) (by kernel_rfl) (fun _ _ _ h => h) (by rfl) ?_ (by assumption) ?_
    rotate_left
    · intro w hSw
      (try dsimp only at hSw)
      go_simp
      try with_reducible rfl
    try simp only [Act.put, List.setIfInBounds_toArray, List.set_cons_zero, List.set_cons_succ]
    refine takeD 8 (some 52) (v := ?_) rfl rfl (by kernel_rfl) (by kernel_rfl) (by kernel_rfl) (fun _ _ _ h => h) (by rfl) ?_ (by assumption) ?_
    rotate_left
    · intro w hSw
      (try dsimp only at hSw)
      go_simp
      try with_reducible rfl
    try simp only [Act.put, List.setIfInBounds_toArray, List.set_cons_zero, List.set_cons_succ]
    refine takeD 9 (some 53) (v := ?_) rfl rfl (by kernel_rfl) (by kernel_rfl) (by kernel_rfl) (fun _ _ _ h => h) (by rfl) ?_ (by assumption) ?_
    rotate_left
    · intro w hSw
      (try dsimp only at hSw)
      go_simp
      try with_reducible rfl
    try simp only [Act.put, List.setIfInBounds_toArray, List.set_cons_zero, List.set_cons_succ]
    refine takeD 10 (some 54) (v := ?_) rfl rfl (by kernel_rfl) (by kernel_rfl) (by kernel_rfl) (fun _ _ _ h => h) (by rfl) ?_ (by assumption) ?_
    rotate_left
    · intro w hSw
      (try dsimp only at hSw)
      go_simp
      try with_reducible rfl
    try simp only [Act.put, List.setIfInBounds_toArray, List.set_cons_zero, List.set_cons_succ]
    refine takeD 11 (some 55) (v := ?_) rfl rfl (by kernel_rfl) (by kernel_rfl) (by kernel_rfl) (fun _ _ _ h => h) (by rfl) ?_ (by assumption) ?_
    rotate_left
    · intro w hSw
      (try dsimp only at hSw)
      go_simp
      try with_reducible rfl
    try simp only [Act.put, List.setIfInBounds_toArray, List.set_cons_zero, List.set_cons_succ]
    refine takeD 12 (some 56) (v := ?_) rfl rfl (by kernel_rfl) (by kernel_rfl) (by kernel_rfl) (fun _ _ _ h => h) (by rfl) ?_ (by assumption) ?_
    rotate_left
    · intro w hSw
      (try dsimp only at hSw)
      go_simp
      try with_reducible rfl
    try simp only [Act.put, List.setIfInBounds_toArray, List.set_cons_zero, List.set_cons_succ]
    refine takeD 13 (some 57) (v := ?_) rfl rfl (by kernel_rfl) (by kernel_rfl) (by kernel_rfl) (fun _ _ _ h => h) (by rfl) ?_ (by assumption) ?_
    rotate_left
    · intro w hSw
      (try dsimp only at hSw)
      go_simp
      try with_reducible rfl
    try simp only [Act.put, List.setIfInBounds_toArray, List.set_cons_zero, List.set_cons_succ]
    refine takeD 14 (some 58) (v := ?_) rfl rfl (by kernel_rfl) (by kernel_rfl) (by kernel_rfl) (fun _ _ _ h => h) (by rfl) ?_ (by assumption) ?_
    rotate_left
    · intro w hSw
      (try dsimp only at hSw)
      go_simp
      try with_reducible rfl
    try simp only [Act.put, List.setIfInBounds_toArray, List.set_cons_zero, List.set_cons_succ]
    refine takeD 15 (some 59) (v := ?_) rfl rfl (by kernel_rfl) (by kernel_rfl) (by kernel_rfl) (fun _ _ _ h => h) (by rfl) ?_ (by assumption) ?_
    rotate_left
    · intro w hSw
      (try dsimp only at hSw)
      go_simp
      try with_reducible rfl
    try simp only [Act.put, List.setIfInBounds_toArray, List.set_cons_zero, List.set_cons_succ]
    refine takeD 16 (some 60) (v := ?_) rfl rfl (by kernel_rfl) (by kernel_rfl) (by kernel_rfl) (fun _ _ _ h => h) (by rfl) ?_ (by assumption) ?_
    rotate_left
    · intro w hSw
      (try dsimp only at hSw)
      go_simp
      try with_reducible rfl
    try simp only [Act.put, List.setIfInBounds_toArray, List.set_cons_zero, List.set_cons_succ]
    refine takeD 17 (some 61) (v := ?_) rfl rfl (by kernel_rfl) (by kernel_rfl) (by kernel_rfl) (fun _ _ _ h => h) (by rfl) ?_ (by assumption) ?_
    rotate_left
    · intro w hSw
      (try dsimp only at hSw)
      go_simp
      try with_reducible rfl
    try simp only [Act.put, List.setIfInBounds_toArray, List.set_cons_zero, List.set_cons_succ]
    refine wpAnyH_ready (rs := [18]) (by kernel_rfl) (by simp) ?_
    refine AllReadyH.cons rfl (fun K hK => ?_) AllReadyH.nil
    rw [if_pos (by rfl)]
    go_simp
    go_at_call 20
    refine (rmany_any _ c _ ⟨_, _, rfl, HS.out.below (hb10.trans (hHeld.mono hb10.size))⟩ (by rw [← HNN.out]; omega)).mono ?_
    rintro e w1 ⟨rfl, hk⟩
    rw [← HNN.out]
    go_wp2_with fail
    refine hK.out _ _ ?_ (fun hHeld2 => ?_)
    · first | exact hHeld.trans (hk.mono hHeld.size) | (clear hK; have hz := hHeld.size; go_grown)
    clear hK K hHeld
    have hHeld := hHeld2
    clear hHeld2
    try clear hk
    try simp only [Act.put, List.setIfInBounds_toArray, List.set_cons_zero, List.set_cons_succ]
    refine takeD 19 (some 63) (v := ?_) rfl rfl (by kernel_rfl) (by kernel_rfl) (by kernel_rfl) (fun _ _ _ h => h) (by rfl) ?_ (by assumption) ?_
    rotate_left
    · intro w hSw
      (try dsimp only at hSw)
      go_simp
      try with_reducible rfl
    try simp only [Act.put, List.setIfInBounds_toArray, List.set_cons_zero, List.set_cons_succ]
    refine takeD 20 (some 64) (v := ?_) rfl rfl (by kernel_rfl) (by kernel_rfl) (by kernel_rfl) (fun _ _ _ h => h) (by rfl) ?_ (by assumption) ?_
    rotate_left
    · intro w hSw
      (try dsimp only at hSw)
      go_simp
      try with_reducible rfl
    try simp only [Act.put, List.setIfInBounds_toArray, List.set_cons_zero, List.set_cons_succ]
    refine takeD 21 (some 65) (v := ?_) rfl rfl (by kernel_rfl) (by kernel_rfl) (by kernel_rfl) (fun _ _ _ h => h) (by rfl) ?_ (by assumption) ?_
    rotate_left
    · intro w hSw
      (try dsimp only at hSw)
      go_simp
      try with_reducible rfl
    try simp only [Act.put, List.setIfInBounds_toArray, List.set_cons_zero, List.set_cons_succ]
    refine takeD 22 (some 66) (v := ?_) rfl rfl (by kernel_rfl) (by kernel_rfl) (by kernel_rfl) (fun _ _ _ h => h) (by rfl) ?_ (by assumption) ?_
    rotate_left
    · intro w hSw
      (try dsimp only at hSw)
      go_simp
      try with_reducible rfl
    try simp only [Act.put, List.setIfInBounds_toArray, List.set_cons_zero, List.set_cons_succ]
    refine takeD 23 (some 67) (v := ?_) rfl rfl (by kernel_rfl) (by kernel_rfl) (by kernel_rfl) (fun _ _ _ h => h) (by rfl) ?_ (by assumption) ?_
    rotate_left
    · intro w hSw
      (try dsimp only at hSw)
      go_simp
      try with_reducible rfl
    try simp only [Act.put, List.setIfInBounds_toArray, List.set_cons_zero, List.set_cons_succ]
    refine takeD 24 (some 68) (v := ?_) rfl rfl (by kernel_rfl) (by kernel_rfl) (by kernel_rfl) (fun _ _ _ h => h) (by rfl) ?_ (by assumption) ?_
    rotate_left
    · intro w hSw
      (try dsimp only at hSw)
      go_simp
      try with_reducible rfl
    try simp only [Act.put, List.setIfInBounds_toArray, List.set_cons_zero, List.set_cons_succ]
    refine takeD 25 (some 69) (v := ?_) rfl rfl (by kernel_rfl) (by kernel_rfl) (by kernel_rfl) (fun _ _ _ h => h) (by rfl) ?_ (by assumption) ?_
    rotate_left
    · intro w hSw
      (try dsimp only at hSw)
      go_simp
      try with_reducible rfl
    try simp only [Act.put, List.setIfInBounds_toArray, List.set_cons_zero, List.set_cons_succ]
    refine takeD 26 (some 70) (v := ?_) rfl rfl (by kernel_rfl) (by kernel_rfl) (by kernel_rfl) (fun _ _ _ h => h) (by rfl) ?_ (by assumption) ?_
    rotate_left
    · intro w hSw
      (try dsimp only at hSw)
      go_simp
      try with_reducible rfl
    try simp only [Act.put, List.setIfInBounds_toArray, List.set_cons_zero, List.set_cons_succ]
    refine takeD 27 (some 71) (v := ?_) rfl rfl (by kernel_rfl) (by kernel_rfl) (by kernel_rfl) (fun _ _ _ h => h) (by rfl) ?_ (by assumption) ?_
    rotate_left
    · intro w hSw
      (try dsimp only at hSw)
      go_simp
      try with_reducible rfl
    try simp only [Act.put, List.setIfInBounds_toArray, List.set_cons_zero, List.set_cons_succ]
    refine takeD 28 (some 72) (v := ?_) rfl rfl (by kernel_rfl) (by kernel_rfl) (by kernel_rfl) (fun _ _ _ h => h) (by rfl) ?_ (by assumption) ?_
    rotate_left
    · intro w hSw
      (try dsimp only at hSw)
      go_simp
      try with_reducible rfl
    try simp only [Act.put, List.setIfInBounds_toArray, List.set_cons_zero, List.set_cons_succ]
    refine takeD 29 (some 73) (v := ?_) rfl rfl (by kernel_rfl) (by kernel_rfl) (by kernel_rfl) (fun _ _ _ h => h) (by rfl) ?_ (by assumption) ?_
    rotate_left
    · intro w hSw
      (try dsimp only at hSw)
      go_simp
      try with_reducible rfl
    try simp only [Act.put, List.setIfInBounds_toArray, List.set_cons_zero, List.set_cons_succ]
    refine takeD 30 (some 74) (v := ?_) rfl rfl (by kernel_rfl) (by kernel_rfl) (by kernel_rfl) (fun _ _ _ h => h) (by rfl) ?_ (by assumption) ?_
    rotate_left
    · intro w hSw
      (try dsimp only at hSw)
      go_simp
      try with_reducible rfl
    try simp only [Act.put, List.setIfInBounds_toArray, List.set_cons_zero, List.set_cons_succ]
    refine takeD 31 (some 75) (v := ?_) rfl rfl (by kernel_rfl) (by kernel_rfl) (by kernel_rfl) (fun _ _ _ h => h) (by rfl) ?_ (by assumption) ?_
    rotate_left
    · intro w hSw
      (try dsimp only at hSw)
      go_simp
      try with_reducible rfl
    try simp only [Act.put, List.setIfInBounds_toArray, List.set_cons_zero, List.set_cons_succ]
    refine takeD 32 (some 6) (v := ?_) rfl rfl (by kernel_rfl) (by kernel_rfl) (by kernel_rfl) (fun _ _ _ h => h) (by rfl) ?_ (by assumption) ?_
    rotate_left
    · intro w hSw
      (try dsimp only at hSw)
      go_simp
      try with_reducible rfl
    try simp only [Act.put, List.setIfInBounds_toArray, List.set_cons_zero, List.set_cons_succ]
    refine wpAnyH_done (by kernel_rfl) ?_ _
    go_wp2
    go_ret
    exact ⟨by first | rfl | simp, hb10.trans (hHeld.mono hb10.size)⟩
end Go.Proofs.Ytoiaagdpckgpoaa
