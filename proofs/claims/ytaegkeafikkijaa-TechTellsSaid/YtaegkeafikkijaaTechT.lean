/- Layer 20: the law of the document's answers, walked. -/
import Derived.Test.YtaegkeafikkijaaTechR
namespace Go.Proofs.Ytaegkeafikkijaa
open Go.ChangeShapes Go.WideShapes Go.ChangeAt Go.RowKit
set_option linter.unusedVariables false
set_option linter.unusedSimpArgs false

set_option maxRecDepth 100000 in
set_option maxHeartbeats 4000000 in
theorem walk_TechTells (n : Int) (r : Int) (o nw q : Bool) (x y : Bool) (vl : Value) (l : List Bool) (vm : Value) (m : List Bool) (w : World) (w0 : (Lit.int .u8 n).wf = true) (w1 : (Lit.int .i64 r).wf = true) (h1 : Row w vl (l.map .bool)) (h2 : Row w vm (m.map .bool)) :
    Calls Try.prog 3 #[.int .u8 n, .agg #[.int .i64 r, .bool o, .bool nw, .bool q], .bool x, .bool y, vl, vm] w fun e w' => e = .returned (.bool true) ∧ Below w.heap.size w w' := by
  clear w1
  have bn := bounds_u8 w0
  have hn0 : 1 ≤ n % 6 + 1 ∧ n % 6 + 1 ≤ 6 := by omega
  have HL := h1
  have HM := h2
  obtain ⟨A, c, rfl, hc, hcm⟩ := h1.shape2
  obtain ⟨B, d, rfl, hd, hdm⟩ := h2.shape2
  rw [List.length_map] at hc hd
  simp only [List.length_map] at HL HM ⊢
  clear h1 h2 w0
  by_cases hbl : 300 < l.length
  · have hdl : decide ((300 : Int) < (l.length : Int)) = true := by simp; omega
    have HL0 := Lib.hid HL
    have HM0 := Lib.hid HM
    clear HL HM
    go_enter Try.func3, Try.ntmps3
    go_wp2_with fail
    refine calls_world (fun W1 => Below w.heap.size w W1 ∧ Row W1 (.slice A l.length c) (l.map .bool) ∧ Row W1 (.slice B m.length d) (m.map .bool) ∧ Blk W1 w.heap.size 23 #[.int .i64 r, .bool o, .bool nw, .bool q]) ⟨(by go_grown), (HL0.out.below (by go_grown)), (HM0.out.below (by go_grown)), (Blk.new _ _ _ _ (by first | rfl | simp))⟩ fun W1 ⟨hb1, qHL, qHM, qS⟩ => ?_
    have HL1 := Lib.hid qHL
    have HM1 := Lib.hid qHM
    have S1 := Lib.hid qS
    (try clear cS); (try clear lS); (try clear dS)
    clear qHL qHM qS HL0 HM0
    refine (head_any _).mono ?_
    rintro e W2 ⟨rfl, hk⟩
    have hb2 := hb1.trans (hk.mono hb1.size)
    have HL2 := Lib.hid (HL1.out.below hk)
    have HM2 := Lib.hid (HM1.out.below hk)
    have S2 := Lib.hid (S1.out.below hk)
    (try clear cS); (try clear lS); (try clear dS)
    clear hk HL1 HM1 S1 hb1
    go_wp2_with fail
    refine (limit_any n _ bn.1 bn.2).mono ?_
    rintro e W3 ⟨rfl, hk⟩
    have hb3 := hb2.trans (hk.mono hb2.size)
    have HL3 := Lib.hid (HL2.out.below hk)
    have HM3 := Lib.hid (HM2.out.below hk)
    have S3 := Lib.hid (S2.out.below hk)
    (try clear cS); (try clear lS); (try clear dS)
    clear hk HL2 HM2 S2 hb2
    generalize n % 6 + 1 = k at *
    go_wp2_with fail
    have cS := S3.out.cells
    have lS := S3.out.lt
    go_quiet (fail)
    go_wp2
    go_ret
    exact ⟨rfl, Bdrew hb3 _⟩
  have hdl : decide ((300 : Int) < (l.length : Int)) = false := by simp; omega
  by_cases hbm : 300 < m.length
  · have hdm : decide ((300 : Int) < (m.length : Int)) = true := by simp; omega
    have HL0 := Lib.hid HL
    have HM0 := Lib.hid HM
    clear HL HM
    go_enter Try.func3, Try.ntmps3
    go_wp2_with fail
    refine calls_world (fun W1 => Below w.heap.size w W1 ∧ Row W1 (.slice A l.length c) (l.map .bool) ∧ Row W1 (.slice B m.length d) (m.map .bool) ∧ Blk W1 w.heap.size 23 #[.int .i64 r, .bool o, .bool nw, .bool q]) ⟨(by go_grown), (HL0.out.below (by go_grown)), (HM0.out.below (by go_grown)), (Blk.new _ _ _ _ (by first | rfl | simp))⟩ fun W1 ⟨hb1, qHL, qHM, qS⟩ => ?_
    have HL1 := Lib.hid qHL
    have HM1 := Lib.hid qHM
    have S1 := Lib.hid qS
    (try clear cS); (try clear lS); (try clear dS)
    clear qHL qHM qS HL0 HM0
    refine (head_any _).mono ?_
    rintro e W2 ⟨rfl, hk⟩
    have hb2 := hb1.trans (hk.mono hb1.size)
    have HL2 := Lib.hid (HL1.out.below hk)
    have HM2 := Lib.hid (HM1.out.below hk)
    have S2 := Lib.hid (S1.out.below hk)
    (try clear cS); (try clear lS); (try clear dS)
    clear hk HL1 HM1 S1 hb1
    go_wp2_with fail
    refine (limit_any n _ bn.1 bn.2).mono ?_
    rintro e W3 ⟨rfl, hk⟩
    have hb3 := hb2.trans (hk.mono hb2.size)
    have HL3 := Lib.hid (HL2.out.below hk)
    have HM3 := Lib.hid (HM2.out.below hk)
    have S3 := Lib.hid (S2.out.below hk)
    (try clear cS); (try clear lS); (try clear dS)
    clear hk HL2 HM2 S2 hb2
    generalize n % 6 + 1 = k at *
    go_wp2_with fail
    have cS := S3.out.cells
    have lS := S3.out.lt
    go_quiet (fail)
    go_wp2
    go_ret
    exact ⟨rfl, Bdrew hb3 _⟩
  have hdm : decide ((300 : Int) < (m.length : Int)) = false := by simp; omega
  have HL0 := Lib.hid HL
  have HM0 := Lib.hid HM
  clear HL HM
  go_enter Try.func3, Try.ntmps3
  go_wp2_with fail
  refine calls_world (fun W1 => Below w.heap.size w W1 ∧ Row W1 (.slice A l.length c) (l.map .bool) ∧ Row W1 (.slice B m.length d) (m.map .bool) ∧ Blk W1 w.heap.size 23 #[.int .i64 r, .bool o, .bool nw, .bool q]) ⟨(by go_grown), (HL0.out.below (by go_grown)), (HM0.out.below (by go_grown)), (Blk.new _ _ _ _ (by first | rfl | simp))⟩ fun W1 ⟨hb1, qHL, qHM, qS⟩ => ?_
  have HL1 := Lib.hid qHL
  have HM1 := Lib.hid qHM
  have S1 := Lib.hid qS
  (try clear cS); (try clear lS); (try clear dS)
  clear qHL qHM qS HL0 HM0
  refine (head_any _).mono ?_
  rintro e W2 ⟨rfl, hk⟩
  have hb2 := hb1.trans (hk.mono hb1.size)
  have HL2 := Lib.hid (HL1.out.below hk)
  have HM2 := Lib.hid (HM1.out.below hk)
  have S2 := Lib.hid (S1.out.below hk)
  (try clear cS); (try clear lS); (try clear dS)
  clear hk HL1 HM1 S1 hb1
  go_wp2_with fail
  refine (limit_any n _ bn.1 bn.2).mono ?_
  rintro e W3 ⟨rfl, hk⟩
  have hb3 := hb2.trans (hk.mono hb2.size)
  have HL3 := Lib.hid (HL2.out.below hk)
  have HM3 := Lib.hid (HM2.out.below hk)
  have S3 := Lib.hid (S2.out.below hk)
  (try clear cS); (try clear lS); (try clear dS)
  clear hk HL2 HM2 S2 hb2
  generalize n % 6 + 1 = k at *
  go_wp2_with fail
  have cS := S3.out.cells
  have lS := S3.out.lt
  have dS : ∀ w', Below W3.heap.size W3 w' → ∀ i, w'.cell? ⟨w.heap.size, i, none⟩ = (#[.int .i64 r, .bool o, .bool nw, .bool q] : Array Value)[i]? := fun w' hb i => by rw [hb.cell (p := ⟨w.heap.size, i, none⟩) S3.out.lt]; exact S3.out.cells i
  refine wp_region_held_drew (S := fun w' => Below W3.heap.size W3 w') (by kernel_rfl) (by go_grown) (fun hHeld => ?_)
  refine takeD 0 (some 18) (v := ?_) rfl rfl (by kernel_rfl) (by kernel_rfl) (by kernel_rfl) (fun _ _ _ h => h) (by rfl) ?_ (by assumption) ?_
  rotate_left
  · intro w hSw
    (try dsimp only at hSw)
    go_simp
    try with_reducible rfl
  try simp only [Act.put, List.setIfInBounds_toArray, List.set_cons_zero, List.set_cons_succ]
  refine takeD 1 (some 19) (v := ?_) rfl rfl (by kernel_rfl) (by kernel_rfl) (by kernel_rfl) (fun _ _ _ h => h) (by rfl) ?_ (by assumption) ?_
  rotate_left
  · intro w hSw
    (try dsimp only at hSw)
    go_simp
    try with_reducible rfl
  try simp only [Act.put, List.setIfInBounds_toArray, List.set_cons_zero, List.set_cons_succ]
  refine takeD 2 (some 20) (v := ?_) rfl rfl (by kernel_rfl) (by kernel_rfl) (by kernel_rfl) (fun _ _ _ h => h) (by rfl) ?_ (by assumption) ?_
  rotate_left
  · intro w hSw
    (try dsimp only at hSw)
    go_simp
    try with_reducible rfl
  try simp only [Act.put, List.setIfInBounds_toArray, List.set_cons_zero, List.set_cons_succ]
  refine takeD 3 (some 21) (v := ?_) rfl rfl (by kernel_rfl) (by kernel_rfl) (by kernel_rfl) (fun _ _ _ h => h) (by rfl) ?_ (by assumption) ?_
  rotate_left
  · intro w hSw
    (try dsimp only at hSw)
    go_simp
    try with_reducible rfl
  try simp only [Act.put, List.setIfInBounds_toArray, List.set_cons_zero, List.set_cons_succ]
  refine takeD 4 (some 22) (v := ?_) rfl rfl (by kernel_rfl) (by kernel_rfl) (by kernel_rfl) (fun _ _ _ h => h) (by rfl) ?_ (by assumption) ?_
  rotate_left
  · intro w hSw
    (try dsimp only at hSw)
    go_simp
    try with_reducible rfl
  try simp only [Act.put, List.setIfInBounds_toArray, List.set_cons_zero, List.set_cons_succ]
  refine takeD 5 (some 23) (v := ?_) rfl rfl (by kernel_rfl) (by kernel_rfl) (by kernel_rfl) (fun _ _ _ h => h) (by rfl) ?_ (by assumption) ?_
  rotate_left
  · intro w hSw
    (try dsimp only at hSw)
    go_simp
    try with_reducible rfl
  try simp only [Act.put, List.setIfInBounds_toArray, List.set_cons_zero, List.set_cons_succ]
  refine takeD 6 (some 24) (v := ?_) rfl rfl (by kernel_rfl) (by kernel_rfl) (by kernel_rfl) (fun _ _ _ h => h) (by rfl) ?_ (by assumption) ?_
  rotate_left
  · intro w hSw
    (try dsimp only at hSw)
    go_simp
    try with_reducible rfl
  try simp only [Act.put, List.setIfInBounds_toArray, List.set_cons_zero, List.set_cons_succ]
  refine takeD 7 (some 25) (v := ?_) rfl rfl (by kernel_rfl) (by kernel_rfl) (by kernel_rfl) (fun _ _ _ h => h) (by rfl) ?_ (by assumption) ?_
  rotate_left
  · intro w hSw
    (try dsimp only at hSw)
    go_simp
    try with_reducible rfl
  try simp only [Act.put, List.setIfInBounds_toArray, List.set_cons_zero, List.set_cons_succ]
  refine takeD 8 (some 26) (v := ?_) rfl rfl (by kernel_rfl) (by kernel_rfl) (by kernel_rfl) (fun _ _ _ h => h) (by rfl) ?_ (by assumption) ?_
  rotate_left
  · intro w hSw
    (try dsimp only at hSw)
    go_simp
    try with_reducible rfl
  try simp only [Act.put, List.setIfInBounds_toArray, List.set_cons_zero, List.set_cons_succ]
  refine takeD 9 (some 27) (v := ?_) rfl rfl (by kernel_rfl) (by kernel_rfl) (by kernel_rfl) (fun _ _ _ h => h) (by rfl) ?_ (by assumption) ?_
  rotate_left
  · intro w hSw
    (try dsimp only at hSw)
    go_simp
    try with_reducible rfl
  try simp only [Act.put, List.setIfInBounds_toArray, List.set_cons_zero, List.set_cons_succ]
  refine takeD 10 (some 28) (v := ?_) rfl rfl (by kernel_rfl) (by kernel_rfl) (by kernel_rfl) (fun _ _ _ h => h) (by rfl) ?_ (by assumption) ?_
  rotate_left
  · intro w hSw
    (try dsimp only at hSw)
    go_simp
    try with_reducible rfl
  try simp only [Act.put, List.setIfInBounds_toArray, List.set_cons_zero, List.set_cons_succ]
  refine takeD 12 (some 30) (v := ?_) rfl rfl (by kernel_rfl) (by kernel_rfl) (by kernel_rfl) (fun _ _ _ h => h) (by rfl) ?_ (by assumption) ?_
  rotate_left
  · intro w hSw
    (try dsimp only at hSw)
    go_simp
    try with_reducible rfl
  try simp only [Act.put, List.setIfInBounds_toArray, List.set_cons_zero, List.set_cons_succ]
  refine takeD 13 (some 31) (v := ?_) rfl rfl (by kernel_rfl) (by kernel_rfl) (by kernel_rfl) (fun _ _ _ h => h) (by rfl) ?_ (by assumption) ?_
  rotate_left
  · intro w hSw
    (try dsimp only at hSw)
    go_simp
    try with_reducible rfl
  try simp only [Act.put, List.setIfInBounds_toArray, List.set_cons_zero, List.set_cons_succ]
  refine wpAnyH_ready (rs := [11]) (by kernel_rfl) (by simp) ?_
  refine AllReadyH.cons rfl (fun K hK => ?_) AllReadyH.nil
  rw [if_pos (by rfl)]
  go_simp
  go_at_call 11
  refine (tright_any k ⟨r, o, nw, q⟩ _).mono ?_
  rintro e w1 ⟨rfl, hk⟩
  go_wp2_with fail
  refine hK.out _ _ ?_ (fun hHeld2 => ?_)
  · first | exact hHeld.trans (hk.mono hHeld.size) | (clear hK; have hz := hHeld.size; go_grown)
  clear hK K hHeld
  have hHeld := hHeld2
  clear hHeld2
  try clear hk
  try simp only [Act.put, List.setIfInBounds_toArray, List.set_cons_zero, List.set_cons_succ]
  refine wpAnyH_ready (rs := [14]) (by kernel_rfl) (by simp) ?_
  refine AllReadyH.cons rfl (fun K hK => ?_) AllReadyH.nil
  rw [if_pos (by rfl)]
  go_simp
  go_at_call 12
  refine (rtright_any k ⟨r, o, nw, q⟩ _).mono ?_
  rintro e w1 ⟨rfl, hk⟩
  go_wp2_with fail
  refine hK.out _ _ ?_ (fun hHeld2 => ?_)
  · first | exact hHeld.trans (hk.mono hHeld.size) | (clear hK; have hz := hHeld.size; go_grown)
  clear hK K hHeld
  have hHeld := hHeld2
  clear hHeld2
  try clear hk
  try simp only [Act.put, List.setIfInBounds_toArray, List.set_cons_zero, List.set_cons_succ]
  refine takeD 15 (some 33) (v := ?_) rfl rfl (by kernel_rfl) (by kernel_rfl) (by kernel_rfl) (fun _ _ _ h => h) (by rfl) ?_ (by assumption) ?_
  rotate_left
  · intro w hSw
    (try dsimp only at hSw)
    go_simp
    try with_reducible rfl
  try simp only [Act.put, List.setIfInBounds_toArray, List.set_cons_zero, List.set_cons_succ]
  refine takeD 16 (some 34) (v := ?_) rfl rfl (by kernel_rfl) (by kernel_rfl) (by kernel_rfl) (fun _ _ _ h => h) (by rfl) ?_ (by assumption) ?_
  rotate_left
  · intro w hSw
    (try dsimp only at hSw)
    go_simp
    try with_reducible rfl
  try simp only [Act.put, List.setIfInBounds_toArray, List.set_cons_zero, List.set_cons_succ]
  refine wpAnyH_done (by kernel_rfl) ?_ _
  go_wp2_with fail
  have hk := hHeld
  refine wp_world (fun W4 => Below w.heap.size w W4 ∧ Row W4 (.slice A l.length c) (l.map .bool) ∧ Row W4 (.slice B m.length d) (m.map .bool) ∧ Blk W4 w.heap.size 23 #[.int .i64 r, .bool o, .bool nw, .bool q]) ⟨(hb3.trans ((show Below W3.heap.size W3 _ by go_grown).mono hb3.size)), (HL3.out.below (by go_grown)), (HM3.out.below (by go_grown)), (S3.out.below (by go_grown))⟩ fun W4 ⟨hb4, qHL, qHM, qS⟩ => ?_
  have HL4 := Lib.hid qHL
  have HM4 := Lib.hid qHM
  have S4 := Lib.hid qS
  (try clear cS); (try clear lS); (try clear dS)
  clear qHL qHM qS HL3 HM3 S3 hb3
  clear hk
  have cS := S4.out.cells
  have lS := S4.out.lt
  rcases hr : rightT k ⟨r, o, nw, q⟩ with _ | _
  · have hR := fun W => rtright_any k ⟨r, o, nw, q⟩ W
    rw [hr] at hR
    have dS : ∀ w', Below W4.heap.size W4 w' → ∀ i, w'.cell? ⟨w.heap.size, i, none⟩ = (#[.int .i64 r, .bool o, .bool nw, .bool q] : Array Value)[i]? := fun w' hb i => by rw [hb.cell (p := ⟨w.heap.size, i, none⟩) S4.out.lt]; exact S4.out.cells i
    refine wp_region_held_drew (S := fun w' => Below W4.heap.size W4 w') (by kernel_rfl) (by go_grown) (fun hHeld => ?_)
    refine takeD 0 (some 46) (v := ?_) rfl rfl (by kernel_rfl) (by kernel_rfl) (by kernel_rfl) (fun _ _ _ h => h) (by rfl) ?_ (by assumption) ?_
    rotate_left
    · intro w hSw
      (try dsimp only at hSw)
      go_simp
      try with_reducible rfl
    try simp only [Act.put, List.setIfInBounds_toArray, List.set_cons_zero, List.set_cons_succ]
    refine takeD 1 (some 47) (v := ?_) rfl rfl (by kernel_rfl) (by kernel_rfl) (by kernel_rfl) (fun _ _ _ h => h) (by rfl) ?_ (by assumption) ?_
    rotate_left
    · intro w hSw
      (try dsimp only at hSw)
      go_simp
      try with_reducible rfl
    try simp only [Act.put, List.setIfInBounds_toArray, List.set_cons_zero, List.set_cons_succ]
    refine wpAnyH_ready (rs := [2]) (by kernel_rfl) (by simp) ?_
    refine AllReadyH.cons rfl (fun K hK => ?_) AllReadyH.nil
    rw [if_pos (by rfl)]
    go_simp
    go_at_call 12
    refine (hR _).mono ?_
    rintro e w1 ⟨rfl, hk⟩
    go_wp2_with fail
    refine hK.out _ _ ?_ (fun hHeld2 => ?_)
    · first | exact hHeld.trans (hk.mono hHeld.size) | (clear hK; have hz := hHeld.size; go_grown)
    clear hK K hHeld
    have hHeld := hHeld2
    clear hHeld2
    try clear hk
    try simp only [Act.put, List.setIfInBounds_toArray, List.set_cons_zero, List.set_cons_succ]
    refine takeD 3 (some 49) (v := ?_) rfl rfl (by kernel_rfl) (by kernel_rfl) (by kernel_rfl) (fun _ _ _ h => h) (by rfl) ?_ (by assumption) ?_
    rotate_left
    · intro w hSw
      (try dsimp only at hSw)
      go_simp
      try with_reducible rfl
    try simp only [Act.put, List.setIfInBounds_toArray, List.set_cons_zero, List.set_cons_succ]
    refine skipD 4 (some 50) rfl rfl (by kernel_rfl) (by kernel_rfl) (by kernel_rfl) (fun _ _ _ h => h) (by rfl) (by assumption) ?_
    try simp only [Act.put, List.setIfInBounds_toArray, List.set_cons_zero, List.set_cons_succ]
    refine skipD 5 (some 51) rfl rfl (by kernel_rfl) (by kernel_rfl) (by kernel_rfl) (fun _ _ _ h => h) (by rfl) (by assumption) ?_
    try simp only [Act.put, List.setIfInBounds_toArray, List.set_cons_zero, List.set_cons_succ]
    refine skipD 6 (some 52) rfl rfl (by kernel_rfl) (by kernel_rfl) (by kernel_rfl) (fun _ _ _ h => h) (by rfl) (by assumption) ?_
    try simp only [Act.put, List.setIfInBounds_toArray, List.set_cons_zero, List.set_cons_succ]
    refine skipD 7 (some 53) rfl rfl (by kernel_rfl) (by kernel_rfl) (by kernel_rfl) (fun _ _ _ h => h) (by rfl) (by assumption) ?_
    try simp only [Act.put, List.setIfInBounds_toArray, List.set_cons_zero, List.set_cons_succ]
    refine skipD 8 (some 54) rfl rfl (by kernel_rfl) (by kernel_rfl) (by kernel_rfl) (fun _ _ _ h => h) (by rfl) (by assumption) ?_
    try simp only [Act.put, List.setIfInBounds_toArray, List.set_cons_zero, List.set_cons_succ]
    refine skipD 9 (some 55) rfl rfl (by kernel_rfl) (by kernel_rfl) (by kernel_rfl) (fun _ _ _ h => h) (by rfl) (by assumption) ?_
    try simp only [Act.put, List.setIfInBounds_toArray, List.set_cons_zero, List.set_cons_succ]
    refine skipD 10 (some 56) rfl rfl (by kernel_rfl) (by kernel_rfl) (by kernel_rfl) (fun _ _ _ h => h) (by rfl) (by assumption) ?_
    try simp only [Act.put, List.setIfInBounds_toArray, List.set_cons_zero, List.set_cons_succ]
    refine skipD 11 (some 57) rfl rfl (by kernel_rfl) (by kernel_rfl) (by kernel_rfl) (fun _ _ _ h => h) (by rfl) (by assumption) ?_
    try simp only [Act.put, List.setIfInBounds_toArray, List.set_cons_zero, List.set_cons_succ]
    refine skipD 12 (some 58) rfl rfl (by kernel_rfl) (by kernel_rfl) (by kernel_rfl) (fun _ _ _ h => h) (by rfl) (by assumption) ?_
    try simp only [Act.put, List.setIfInBounds_toArray, List.set_cons_zero, List.set_cons_succ]
    refine skipD 13 (some 59) rfl rfl (by kernel_rfl) (by kernel_rfl) (by kernel_rfl) (fun _ _ _ h => h) (by rfl) (by assumption) ?_
    try simp only [Act.put, List.setIfInBounds_toArray, List.set_cons_zero, List.set_cons_succ]
    refine skipD 14 (some 60) rfl rfl (by kernel_rfl) (by kernel_rfl) (by kernel_rfl) (fun _ _ _ h => h) (by rfl) (by assumption) ?_
    try simp only [Act.put, List.setIfInBounds_toArray, List.set_cons_zero, List.set_cons_succ]
    refine takeD 15 (some 61) (v := ?_) rfl rfl (by kernel_rfl) (by kernel_rfl) (by kernel_rfl) (fun _ _ _ h => h) (by rfl) ?_ (by assumption) ?_
    rotate_left
    · intro w hSw
      (try dsimp only at hSw)
      go_simp
      try with_reducible rfl
    try simp only [Act.put, List.setIfInBounds_toArray, List.set_cons_zero, List.set_cons_succ]
    refine wpAnyH_done (by kernel_rfl) ?_ _
    go_wp2_with fail
    have hk := hHeld
    refine calls_world (fun W5 => Below w.heap.size w W5 ∧ Row W5 (.slice A l.length c) (l.map .bool) ∧ Row W5 (.slice B m.length d) (m.map .bool) ∧ Blk W5 w.heap.size 23 #[.int .i64 r, .bool o, .bool nw, .bool q]) ⟨(hb4.trans ((show Below W4.heap.size W4 _ by go_grown).mono hb4.size)), (HL4.out.below (by go_grown)), (HM4.out.below (by go_grown)), (S4.out.below (by go_grown))⟩ fun W5 ⟨hb5, qHL, qHM, qS⟩ => ?_
    have HL5 := Lib.hid qHL
    have HM5 := Lib.hid qHM
    have S5 := Lib.hid qS
    (try clear cS); (try clear lS); (try clear dS)
    clear qHL qHM qS HL4 HM4 S4 hb4
    clear hk
    refine (tsteps_any k _ _ l m _ hn0.1 (by omega) HL5.out HM5.out (by omega)).mono ?_
    rintro e W6 ⟨v1, rfl, r1, hk⟩
    have hb6 := hb5.trans (hk.mono hb5.size)
    have HL6 := Lib.hid (HL5.out.below hk)
    have HM6 := Lib.hid (HM5.out.below hk)
    have S6 := Lib.hid (S5.out.below hk)
    (try clear cS); (try clear lS); (try clear dS)
    clear hk HL5 HM5 S5 hb5
    have R1 := Lib.hid r1
    clear r1
    go_wp2_with fail
    refine (rtsteps_any k _ _ l m _ hn0.1 (by omega) HL6.out HM6.out (by omega)).mono ?_
    rintro e w2 ⟨v2, rfl, r2, hk⟩
    have R2 := Lib.hid r2
    have R1b := Lib.hid (R1.out.below hk)
    have hb9 := hb6.trans (hk.mono hb6.size)
    clear r2 R1 hk
    go_wp2_with fail
    refine (same_any _ _ _ _ _ _ _ R1b.out R2.out).mono ?_
    rintro e w3 ⟨rfl, hk⟩
    go_wp2
    go_ret
    exact ⟨by simp, hb9.trans (hk.mono hb9.size)⟩
  · have hR := fun W => rtright_any k ⟨r, o, nw, q⟩ W
    rw [hr] at hR
    have rb := rightT_bd hr
    simp only at rb
    have hnq := fun w => neqT w (tstep k ⟨r, o, nw, q⟩ x y).run (tstep k ⟨r, o, nw, q⟩ x y).on (tstep k ⟨r, o, nw, q⟩ x y).now (tstep k ⟨r, o, nw, q⟩ x y).ok
    have hgd := guardT
    have dS : ∀ w', Below W4.heap.size W4 w' → ∀ i, w'.cell? ⟨w.heap.size, i, none⟩ = (#[.int .i64 r, .bool o, .bool nw, .bool q] : Array Value)[i]? := fun w' hb i => by rw [hb.cell (p := ⟨w.heap.size, i, none⟩) S4.out.lt]; exact S4.out.cells i
    refine wp_region_held_drew (S := fun w' => Below W4.heap.size W4 w') (by kernel_rfl) (by go_grown) (fun hHeld => ?_)
    refine takeD 0 (some 46) (v := ?_) rfl rfl (by kernel_rfl) (by kernel_rfl) (by kernel_rfl) (fun _ _ _ h => h) (by rfl) ?_ (by assumption) ?_
    rotate_left
    · intro w hSw
      (try dsimp only at hSw)
      go_simp
      try with_reducible rfl
    try simp only [Act.put, List.setIfInBounds_toArray, List.set_cons_zero, List.set_cons_succ]
    refine takeD 1 (some 47) (v := ?_) rfl rfl (by kernel_rfl) (by kernel_rfl) (by kernel_rfl) (fun _ _ _ h => h) (by rfl) ?_ (by assumption) ?_
    rotate_left
    · intro w hSw
      (try dsimp only at hSw)
      go_simp
      try with_reducible rfl
    try simp only [Act.put, List.setIfInBounds_toArray, List.set_cons_zero, List.set_cons_succ]
    refine wpAnyH_ready (rs := [2]) (by kernel_rfl) (by simp) ?_
    refine AllReadyH.cons rfl (fun K hK => ?_) AllReadyH.nil
    rw [if_pos (by rfl)]
    go_simp
    go_at_call 12
    refine (hR _).mono ?_
    rintro e w1 ⟨rfl, hk⟩
    go_wp2_with fail
    refine hK.out _ _ ?_ (fun hHeld2 => ?_)
    · first | exact hHeld.trans (hk.mono hHeld.size) | (clear hK; have hz := hHeld.size; go_grown)
    clear hK K hHeld
    have hHeld := hHeld2
    clear hHeld2
    try clear hk
    try simp only [Act.put, List.setIfInBounds_toArray, List.set_cons_zero, List.set_cons_succ]
    refine takeD 3 (some 49) (v := ?_) rfl rfl (by kernel_rfl) (by kernel_rfl) (by kernel_rfl) (fun _ _ _ h => h) (by rfl) ?_ (by assumption) ?_
    rotate_left
    · intro w hSw
      (try dsimp only at hSw)
      go_simp
      try with_reducible rfl
    try simp only [Act.put, List.setIfInBounds_toArray, List.set_cons_zero, List.set_cons_succ]
    refine takeD 4 (some 50) (v := ?_) rfl rfl (by kernel_rfl) (by kernel_rfl) (by kernel_rfl) (fun _ _ _ h => h) (by rfl) ?_ (by assumption) ?_
    rotate_left
    · intro w hSw
      (try dsimp only at hSw)
      go_simp
      try with_reducible rfl
    try simp only [Act.put, List.setIfInBounds_toArray, List.set_cons_zero, List.set_cons_succ]
    refine takeD 5 (some 51) (v := ?_) rfl rfl (by kernel_rfl) (by kernel_rfl) (by kernel_rfl) (fun _ _ _ h => h) (by rfl) ?_ (by assumption) ?_
    rotate_left
    · intro w hSw
      (try dsimp only at hSw)
      go_simp
      try with_reducible rfl
    try simp only [Act.put, List.setIfInBounds_toArray, List.set_cons_zero, List.set_cons_succ]
    refine takeD 6 (some 52) (v := ?_) rfl rfl (by kernel_rfl) (by kernel_rfl) (by kernel_rfl) (fun _ _ _ h => h) (by rfl) ?_ (by assumption) ?_
    rotate_left
    · intro w hSw
      (try dsimp only at hSw)
      go_simp
      try with_reducible rfl
    try simp only [Act.put, List.setIfInBounds_toArray, List.set_cons_zero, List.set_cons_succ]
    refine takeD 7 (some 53) (v := ?_) rfl rfl (by kernel_rfl) (by kernel_rfl) (by kernel_rfl) (fun _ _ _ h => h) (by rfl) ?_ (by assumption) ?_
    rotate_left
    · intro w hSw
      (try dsimp only at hSw)
      go_simp
      try with_reducible rfl
    try simp only [Act.put, List.setIfInBounds_toArray, List.set_cons_zero, List.set_cons_succ]
    refine takeD 9 (some 55) (v := ?_) rfl rfl (by kernel_rfl) (by kernel_rfl) (by kernel_rfl) (fun _ _ _ h => h) (by rfl) ?_ (by assumption) ?_
    rotate_left
    · intro w hSw
      (try dsimp only at hSw)
      go_simp
      try with_reducible rfl
    try simp only [Act.put, List.setIfInBounds_toArray, List.set_cons_zero, List.set_cons_succ]
    refine takeD 10 (some 56) (v := ?_) rfl rfl (by kernel_rfl) (by kernel_rfl) (by kernel_rfl) (fun _ _ _ h => h) (by rfl) ?_ (by assumption) ?_
    rotate_left
    · intro w hSw
      (try dsimp only at hSw)
      go_simp
      try with_reducible rfl
    try simp only [Act.put, List.setIfInBounds_toArray, List.set_cons_zero, List.set_cons_succ]
    refine takeD 11 (some 57) (v := ?_) rfl rfl (by kernel_rfl) (by kernel_rfl) (by kernel_rfl) (fun _ _ _ h => h) (by rfl) ?_ (by assumption) ?_
    rotate_left
    · intro w hSw
      (try dsimp only at hSw)
      go_simp
      try with_reducible rfl
    try simp only [Act.put, List.setIfInBounds_toArray, List.set_cons_zero, List.set_cons_succ]
    refine takeD 12 (some 58) (v := ?_) rfl rfl (by kernel_rfl) (by kernel_rfl) (by kernel_rfl) (fun _ _ _ h => h) (by rfl) ?_ (by assumption) ?_
    rotate_left
    · intro w hSw
      (try dsimp only at hSw)
      go_simp
      try with_reducible rfl
    try simp only [Act.put, List.setIfInBounds_toArray, List.set_cons_zero, List.set_cons_succ]
    refine wpAnyH_ready (rs := [8]) (by kernel_rfl) (by simp) ?_
    refine AllReadyH.cons rfl (fun K hK => ?_) AllReadyH.nil
    rw [if_pos (by rfl)]
    go_simp
    go_at_call 13
    refine (tstep_any k ⟨r, o, nw, q⟩ x y _ rb.1 (show r ≤ 4611686018427387904 by omega)).mono ?_
    rintro e w1 ⟨rfl, hk⟩
    go_wp2_with fail
    refine hK.out _ _ ?_ (fun hHeld2 => ?_)
    · first | exact hHeld.trans (hk.mono hHeld.size) | (clear hK; have hz := hHeld.size; go_grown)
    clear hK K hHeld
    have hHeld := hHeld2
    clear hHeld2
    try clear hk
    try simp only [Act.put, List.setIfInBounds_toArray, List.set_cons_zero, List.set_cons_succ]
    refine wpAnyH_ready (rs := [13]) (by kernel_rfl) (by simp) ?_
    refine AllReadyH.cons rfl (fun K hK => ?_) AllReadyH.nil
    rw [if_pos (by rfl)]
    go_simp
    go_at_call 14
    refine (rtstep_any k ⟨r, o, nw, q⟩ x y _ rb.1 (show r ≤ 4611686018427387904 by omega)).mono ?_
    rintro e w1 ⟨rfl, hk⟩
    go_wp2_with fail
    refine hK.out _ _ ?_ (fun hHeld2 => ?_)
    · first | exact hHeld.trans (hk.mono hHeld.size) | (clear hK; have hz := hHeld.size; go_grown)
    clear hK K hHeld
    have hHeld := hHeld2
    clear hHeld2
    try clear hk
    try simp only [Act.put, List.setIfInBounds_toArray, List.set_cons_zero, List.set_cons_succ]
    refine takeD 14 (some 60) (v := ?_) rfl rfl (by kernel_rfl) (by kernel_rfl) (by kernel_rfl) (fun _ _ _ h => h) (by rfl) ?_ (by assumption) ?_
    rotate_left
    · intro w hSw
      (try dsimp only at hSw)
      go_simp
      try with_reducible rfl
    try simp only [Act.put, List.setIfInBounds_toArray, List.set_cons_zero, List.set_cons_succ]
    refine takeD 15 (some 61) (v := ?_) rfl rfl (by kernel_rfl) (by kernel_rfl) (by kernel_rfl) (fun _ _ _ h => h) (by rfl) ?_ (by assumption) ?_
    rotate_left
    · intro w hSw
      (try dsimp only at hSw)
      go_simp
      try with_reducible rfl
    try simp only [Act.put, List.setIfInBounds_toArray, List.set_cons_zero, List.set_cons_succ]
    refine wpAnyH_done (by kernel_rfl) ?_ _
    go_wp2_with fail
    have hk := hHeld
    refine calls_world (fun W5 => Below w.heap.size w W5 ∧ Row W5 (.slice A l.length c) (l.map .bool) ∧ Row W5 (.slice B m.length d) (m.map .bool) ∧ Blk W5 w.heap.size 23 #[.int .i64 r, .bool o, .bool nw, .bool q]) ⟨(hb4.trans ((show Below W4.heap.size W4 _ by go_grown).mono hb4.size)), (HL4.out.below (by go_grown)), (HM4.out.below (by go_grown)), (S4.out.below (by go_grown))⟩ fun W5 ⟨hb5, qHL, qHM, qS⟩ => ?_
    have HL5 := Lib.hid qHL
    have HM5 := Lib.hid qHM
    have S5 := Lib.hid qS
    (try clear cS); (try clear lS); (try clear dS)
    clear qHL qHM qS HL4 HM4 S4 hb4
    clear hk
    refine (tsteps_any k _ _ l m _ hn0.1 (by omega) HL5.out HM5.out (by omega)).mono ?_
    rintro e W6 ⟨v1, rfl, r1, hk⟩
    have hb6 := hb5.trans (hk.mono hb5.size)
    have HL6 := Lib.hid (HL5.out.below hk)
    have HM6 := Lib.hid (HM5.out.below hk)
    have S6 := Lib.hid (S5.out.below hk)
    (try clear cS); (try clear lS); (try clear dS)
    clear hk HL5 HM5 S5 hb5
    have R1 := Lib.hid r1
    clear r1
    go_wp2_with fail
    refine (rtsteps_any k _ _ l m _ hn0.1 (by omega) HL6.out HM6.out (by omega)).mono ?_
    rintro e w2 ⟨v2, rfl, r2, hk⟩
    have R2 := Lib.hid r2
    have R1b := Lib.hid (R1.out.below hk)
    have hb9 := hb6.trans (hk.mono hb6.size)
    clear r2 R1 hk
    go_wp2_with fail
    refine (same_any _ _ _ _ _ _ _ R1b.out R2.out).mono ?_
    rintro e w3 ⟨rfl, hk⟩
    go_wp2
    go_ret
    exact ⟨by simp, hb9.trans (hk.mono hb9.size)⟩
end Go.Proofs.Ytaegkeafikkijaa
