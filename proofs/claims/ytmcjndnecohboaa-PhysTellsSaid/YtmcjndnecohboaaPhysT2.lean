/- Layer 19: the law of the document's answers, walked. -/
import Derived.Test.YtmcjndnecohboaaPhysH
import Derived.Test.YtmcjndnecohboaaReg
namespace Go.Proofs.Ytmcjndnecohboaa
open Go.ChangeShapes Go.WideShapes Go.ChangeAt Go.RowKit
set_option linter.unusedVariables false
set_option linter.unusedSimpArgs false

theorem neqP (w : World) (a : Int) (c e : Bool) : (binOp .neq 23 (.agg #[.int .i64 a, .bool c, .bool e]) (.agg #[.int .i64 a, .bool c, .bool e])).run Try.prog w = .ok (.bool false) w := by
  have hu : Try.prog.underlying 23 = some (.struct (Try.prog.fieldsOf 23)) := by kernel_rfl
  have hs : Try.prog.stoodInHeld 23 = false := by kernel_rfl
  have ui := Try.underlying3
  have ub := Try.underlying4
  rw [run_neq_struct, run_equalIn_struct _ _ _ _ _ hu hs]
  simp [Program.fieldsOf, Try.underlying23, Op.eqFields, ui, ub, part, go_sem]
theorem guardP : Try.prog.eqGuardType Try.prog.depth 23 = false := by kernel_rfl

theorem rightP_bd {h : Int} {la : Bool} {s : Ph} (hr : rightP h la s = true) : 0 ≤ s.run ∧ s.run ≤ h := by
  unfold rightP at hr
  simp only [Bool.and_eq_true, decide_eq_true_eq] at hr
  exact ⟨hr.1.1.1.1, hr.1.1.1.2⟩

theorem Row.shape2 {w : World} {v : Value} {xs : List Value} (h : Row w v xs) : ∃ A c, v = .slice A xs.length c ∧ xs.length ≤ c ∧ c ≤ 9223372036854775807 := by
  obtain ⟨A, c, h1, h2, h3, _⟩ := h
  exact ⟨A, c, h1, h2, h3⟩

set_option maxRecDepth 100000 in
set_option maxHeartbeats 4000000 in
theorem walk_PhysTells (n : Int) (la : Bool) (r : Int) (o nw : Bool) (t : Int) (ack : Bool) (vl : Value) (l : List Int) (vm : Value) (m : List Bool) (w : World) (w0 : (Lit.int .u8 n).wf = true) (w2 : (Lit.int .i64 r).wf = true) (w3 : (Lit.int .i64 t).wf = true)
    (w5 : Ints .i64 w vl l) (w6 : Row w vm (m.map .bool)) :
    Calls Try.prog 3 #[.int .u8 n, .bool la, .agg #[.int .i64 r, .bool o, .bool nw], .int .i64 t, .bool ack, vl, vm] w fun e w' => e = .returned (.bool true) ∧ Below w.heap.size w w' := by
  have bn := bounds_u8 w0
  have hn0 : 1 ≤ n % 6 + 1 ∧ n % 6 + 1 ≤ 6 := by omega
  have HL := w5.1
  have HM := w6
  obtain ⟨A, c, rfl, hc, hcm⟩ := w5.1.shape2
  obtain ⟨B, d, rfl, hd, hdm⟩ := w6.shape2
  rw [List.length_map] at hc hd
  simp only [List.length_map] at HL HM ⊢
  clear w0 w2 w3 w5 w6
  by_cases hbl : 300 < l.length
  · have hdl : decide ((300 : Int) < (l.length : Int)) = true := by simp; omega
    have HL0 := Lib.hid HL
    have HM0 := Lib.hid HM
    clear HL HM
    go_enter Try.func3, Try.ntmps3
    go_wp2_with fail
    refine calls_world (fun W1 => Below w.heap.size w W1 ∧ Row W1 (.slice A l.length c) (l.map (.int .i64)) ∧ Row W1 (.slice B m.length d) (m.map .bool) ∧ Blk W1 w.heap.size 23 #[.int .i64 r, .bool o, .bool nw]) ⟨(by go_grown), (HL0.out.below (by go_grown)), (HM0.out.below (by go_grown)), (Blk.new _ _ _ _ (by first | rfl | simp))⟩ fun W1 ⟨hb1, qHL, qHM, qS⟩ => ?_
    have HL1 := Lib.hid qHL
    have HM1 := Lib.hid qHM
    have S1 := Lib.hid qS
    (try clear cS); (try clear lS); (try clear dS)
    clear qHL qHM qS HL0 HM0
    refine (head_any _).mono ?_
    rintro e W2 ⟨rfl, hk⟩
    have hb2 := hb1.trans (hk.mono hb1.size)
    have HL2 := Lib.hid (HL1.out.below hk)
    have HM2 := Lib.hid (HM1.out.below hk)
    have S2 := Lib.hid (S1.out.below hk)
    (try clear cS); (try clear lS); (try clear dS)
    clear hk HL1 HM1 S1 hb1
    go_wp2_with fail
    refine (hold_any n la _ bn.1 bn.2).mono ?_
    rintro e W3 ⟨rfl, hk⟩
    have hb3 := hb2.trans (hk.mono hb2.size)
    have HL3 := Lib.hid (HL2.out.below hk)
    have HM3 := Lib.hid (HM2.out.below hk)
    have S3 := Lib.hid (S2.out.below hk)
    (try clear cS); (try clear lS); (try clear dS)
    clear hk HL2 HM2 S2 hb2
    go_wp2_with fail
    generalize n % 6 + 1 = h at *
    refine wp_world (fun W4 => Below w.heap.size w W4 ∧ Row W4 (.slice A l.length c) (l.map (.int .i64)) ∧ Row W4 (.slice B m.length d) (m.map .bool) ∧ Blk W4 w.heap.size 23 #[.int .i64 r, .bool o, .bool nw] ∧ Blk W4 W3.heap.size 29 #[.slice none 0 0, .int .i64 h, .bool la]) ⟨(hb3.trans ((show Below W3.heap.size W3 _ by go_grown).mono hb3.size)), (HL3.out.below (by go_grown)), (HM3.out.below (by go_grown)), (S3.out.below (by go_grown)), (Blk.new _ _ _ _ (by first | rfl | simp))⟩ fun W4 ⟨hb4, qHL, qHM, qS, qT⟩ => ?_
    have HL4 := Lib.hid qHL
    have HM4 := Lib.hid qHM
    have S4 := Lib.hid qS
    have T4 := Lib.hid qT
    (try clear cS); (try clear lS); (try clear dS); (try clear cT); (try clear lT); (try clear dT)
    clear qHL qHM qS qT HL3 HM3 S3 hb3
    have cS := S4.out.cells
    have lS := S4.out.lt
    have cT := T4.out.cells
    have lT := T4.out.lt
    go_quiet (fail)
    go_wp2
    go_ret
    exact ⟨rfl, Bdrew hb4 _⟩
  have hdl : decide ((300 : Int) < (l.length : Int)) = false := by simp; omega
  by_cases hbm : 300 < m.length
  · have hdm : decide ((300 : Int) < (m.length : Int)) = true := by simp; omega
    have HL0 := Lib.hid HL
    have HM0 := Lib.hid HM
    clear HL HM
    go_enter Try.func3, Try.ntmps3
    go_wp2_with fail
    refine calls_world (fun W1 => Below w.heap.size w W1 ∧ Row W1 (.slice A l.length c) (l.map (.int .i64)) ∧ Row W1 (.slice B m.length d) (m.map .bool) ∧ Blk W1 w.heap.size 23 #[.int .i64 r, .bool o, .bool nw]) ⟨(by go_grown), (HL0.out.below (by go_grown)), (HM0.out.below (by go_grown)), (Blk.new _ _ _ _ (by first | rfl | simp))⟩ fun W1 ⟨hb1, qHL, qHM, qS⟩ => ?_
    have HL1 := Lib.hid qHL
    have HM1 := Lib.hid qHM
    have S1 := Lib.hid qS
    (try clear cS); (try clear lS); (try clear dS)
    clear qHL qHM qS HL0 HM0
    refine (head_any _).mono ?_
    rintro e W2 ⟨rfl, hk⟩
    have hb2 := hb1.trans (hk.mono hb1.size)
    have HL2 := Lib.hid (HL1.out.below hk)
    have HM2 := Lib.hid (HM1.out.below hk)
    have S2 := Lib.hid (S1.out.below hk)
    (try clear cS); (try clear lS); (try clear dS)
    clear hk HL1 HM1 S1 hb1
    go_wp2_with fail
    refine (hold_any n la _ bn.1 bn.2).mono ?_
    rintro e W3 ⟨rfl, hk⟩
    have hb3 := hb2.trans (hk.mono hb2.size)
    have HL3 := Lib.hid (HL2.out.below hk)
    have HM3 := Lib.hid (HM2.out.below hk)
    have S3 := Lib.hid (S2.out.below hk)
    (try clear cS); (try clear lS); (try clear dS)
    clear hk HL2 HM2 S2 hb2
    go_wp2_with fail
    generalize n % 6 + 1 = h at *
    refine wp_world (fun W4 => Below w.heap.size w W4 ∧ Row W4 (.slice A l.length c) (l.map (.int .i64)) ∧ Row W4 (.slice B m.length d) (m.map .bool) ∧ Blk W4 w.heap.size 23 #[.int .i64 r, .bool o, .bool nw] ∧ Blk W4 W3.heap.size 29 #[.slice none 0 0, .int .i64 h, .bool la]) ⟨(hb3.trans ((show Below W3.heap.size W3 _ by go_grown).mono hb3.size)), (HL3.out.below (by go_grown)), (HM3.out.below (by go_grown)), (S3.out.below (by go_grown)), (Blk.new _ _ _ _ (by first | rfl | simp))⟩ fun W4 ⟨hb4, qHL, qHM, qS, qT⟩ => ?_
    have HL4 := Lib.hid qHL
    have HM4 := Lib.hid qHM
    have S4 := Lib.hid qS
    have T4 := Lib.hid qT
    (try clear cS); (try clear lS); (try clear dS); (try clear cT); (try clear lT); (try clear dT)
    clear qHL qHM qS qT HL3 HM3 S3 hb3
    have cS := S4.out.cells
    have lS := S4.out.lt
    have cT := T4.out.cells
    have lT := T4.out.lt
    go_quiet (fail)
    go_wp2
    go_ret
    exact ⟨rfl, Bdrew hb4 _⟩
  have hdm : decide ((300 : Int) < (m.length : Int)) = false := by simp; omega
  have HL0 := Lib.hid HL
  have HM0 := Lib.hid HM
  clear HL HM
  go_enter Try.func3, Try.ntmps3
  go_wp2_with fail
  refine calls_world (fun W1 => Below w.heap.size w W1 ∧ Row W1 (.slice A l.length c) (l.map (.int .i64)) ∧ Row W1 (.slice B m.length d) (m.map .bool) ∧ Blk W1 w.heap.size 23 #[.int .i64 r, .bool o, .bool nw]) ⟨(by go_grown), (HL0.out.below (by go_grown)), (HM0.out.below (by go_grown)), (Blk.new _ _ _ _ (by first | rfl | simp))⟩ fun W1 ⟨hb1, qHL, qHM, qS⟩ => ?_
  have HL1 := Lib.hid qHL
  have HM1 := Lib.hid qHM
  have S1 := Lib.hid qS
  (try clear cS); (try clear lS); (try clear dS)
  clear qHL qHM qS HL0 HM0
  refine (head_any _).mono ?_
  rintro e W2 ⟨rfl, hk⟩
  have hb2 := hb1.trans (hk.mono hb1.size)
  have HL2 := Lib.hid (HL1.out.below hk)
  have HM2 := Lib.hid (HM1.out.below hk)
  have S2 := Lib.hid (S1.out.below hk)
  (try clear cS); (try clear lS); (try clear dS)
  clear hk HL1 HM1 S1 hb1
  go_wp2_with fail
  refine (hold_any n la _ bn.1 bn.2).mono ?_
  rintro e W3 ⟨rfl, hk⟩
  have hb3 := hb2.trans (hk.mono hb2.size)
  have HL3 := Lib.hid (HL2.out.below hk)
  have HM3 := Lib.hid (HM2.out.below hk)
  have S3 := Lib.hid (S2.out.below hk)
  (try clear cS); (try clear lS); (try clear dS)
  clear hk HL2 HM2 S2 hb2
  go_wp2_with fail
  generalize n % 6 + 1 = h at *
  refine wp_world (fun W4 => Below w.heap.size w W4 ∧ Row W4 (.slice A l.length c) (l.map (.int .i64)) ∧ Row W4 (.slice B m.length d) (m.map .bool) ∧ Blk W4 w.heap.size 23 #[.int .i64 r, .bool o, .bool nw] ∧ Blk W4 W3.heap.size 29 #[.slice none 0 0, .int .i64 h, .bool la]) ⟨(hb3.trans ((show Below W3.heap.size W3 _ by go_grown).mono hb3.size)), (HL3.out.below (by go_grown)), (HM3.out.below (by go_grown)), (S3.out.below (by go_grown)), (Blk.new _ _ _ _ (by first | rfl | simp))⟩ fun W4 ⟨hb4, qHL, qHM, qS, qT⟩ => ?_
  have HL4 := Lib.hid qHL
  have HM4 := Lib.hid qHM
  have S4 := Lib.hid qS
  have T4 := Lib.hid qT
  (try clear cS); (try clear lS); (try clear dS); (try clear cT); (try clear lT); (try clear dT)
  clear qHL qHM qS qT HL3 HM3 S3 hb3
  have cS := S4.out.cells
  have lS := S4.out.lt
  have cT := T4.out.cells
  have lT := T4.out.lt
  have dS : ∀ w', Below W4.heap.size W4 w' → ∀ i, w'.cell? ⟨w.heap.size, i, none⟩ = (#[.int .i64 r, .bool o, .bool nw] : Array Value)[i]? := fun w' hb i => by rw [hb.cell (p := ⟨w.heap.size, i, none⟩) S4.out.lt]; exact S4.out.cells i
  have dT : ∀ w', Below W4.heap.size W4 w' → ∀ i, w'.cell? ⟨W3.heap.size, i, none⟩ = (#[.slice none 0 0, .int .i64 h, .bool la] : Array Value)[i]? := fun w' hb i => by rw [hb.cell (p := ⟨W3.heap.size, i, none⟩) T4.out.lt]; exact T4.out.cells i
  refine wp_region_held_drew (S := fun w' => Below W4.heap.size W4 w') (by kernel_rfl) (by go_grown) (fun hHeld => ?_)
  refine takeD 0 (some 21) (v := ?_) rfl rfl (by kernel_rfl) (by kernel_rfl) (by kernel_rfl) (fun _ _ _ h => h) (by rfl) ?_ (by assumption) ?_
  rotate_left
  · intro w hSw
    (try dsimp only at hSw)
    go_simp
    try with_reducible rfl
  try simp only [Act.put, List.setIfInBounds_toArray, List.set_cons_zero, List.set_cons_succ]
  refine takeD 1 (some 22) (v := ?_) rfl rfl (by kernel_rfl) (by kernel_rfl) (by kernel_rfl) (fun _ _ _ h => h) (by rfl) ?_ (by assumption) ?_
  rotate_left
  · intro w hSw
    (try dsimp only at hSw)
    go_simp
    try with_reducible rfl
  try simp only [Act.put, List.setIfInBounds_toArray, List.set_cons_zero, List.set_cons_succ]
  refine takeD 2 (some 23) (v := ?_) rfl rfl (by kernel_rfl) (by kernel_rfl) (by kernel_rfl) (fun _ _ _ h => h) (by rfl) ?_ (by assumption) ?_
  rotate_left
  · intro w hSw
    (try dsimp only at hSw)
    go_simp
    try with_reducible rfl
  try simp only [Act.put, List.setIfInBounds_toArray, List.set_cons_zero, List.set_cons_succ]
  refine takeD 3 (some 24) (v := ?_) rfl rfl (by kernel_rfl) (by kernel_rfl) (by kernel_rfl) (fun _ _ _ h => h) (by rfl) ?_ (by assumption) ?_
  rotate_left
  · intro w hSw
    (try dsimp only at hSw)
    go_simp
    try with_reducible rfl
  try simp only [Act.put, List.setIfInBounds_toArray, List.set_cons_zero, List.set_cons_succ]
  refine takeD 4 (some 25) (v := ?_) rfl rfl (by kernel_rfl) (by kernel_rfl) (by kernel_rfl) (fun _ _ _ h => h) (by rfl) ?_ (by assumption) ?_
  rotate_left
  · intro w hSw
    (try dsimp only at hSw)
    go_simp
    try with_reducible rfl
  try simp only [Act.put, List.setIfInBounds_toArray, List.set_cons_zero, List.set_cons_succ]
  refine takeD 5 (some 26) (v := ?_) rfl rfl (by kernel_rfl) (by kernel_rfl) (by kernel_rfl) (fun _ _ _ h => h) (by rfl) ?_ (by assumption) ?_
  rotate_left
  · intro w hSw
    (try dsimp only at hSw)
    go_simp
    try with_reducible rfl
  try simp only [Act.put, List.setIfInBounds_toArray, List.set_cons_zero, List.set_cons_succ]
  refine takeD 6 (some 27) (v := ?_) rfl rfl (by kernel_rfl) (by kernel_rfl) (by kernel_rfl) (fun _ _ _ h => h) (by rfl) ?_ (by assumption) ?_
  rotate_left
  · intro w hSw
    (try dsimp only at hSw)
    go_simp
    try with_reducible rfl
  try simp only [Act.put, List.setIfInBounds_toArray, List.set_cons_zero, List.set_cons_succ]
  refine takeD 7 (some 28) (v := ?_) rfl rfl (by kernel_rfl) (by kernel_rfl) (by kernel_rfl) (fun _ _ _ h => h) (by rfl) ?_ (by assumption) ?_
  rotate_left
  · intro w hSw
    (try dsimp only at hSw)
    go_simp
    try with_reducible rfl
  try simp only [Act.put, List.setIfInBounds_toArray, List.set_cons_zero, List.set_cons_succ]
  refine takeD 8 (some 29) (v := ?_) rfl rfl (by kernel_rfl) (by kernel_rfl) (by kernel_rfl) (fun _ _ _ h => h) (by rfl) ?_ (by assumption) ?_
  rotate_left
  · intro w hSw
    (try dsimp only at hSw)
    go_simp
    try with_reducible rfl
  try simp only [Act.put, List.setIfInBounds_toArray, List.set_cons_zero, List.set_cons_succ]
  refine takeD 9 (some 30) (v := ?_) rfl rfl (by kernel_rfl) (by kernel_rfl) (by kernel_rfl) (fun _ _ _ h => h) (by rfl) ?_ (by assumption) ?_
  rotate_left
  · intro w hSw
    (try dsimp only at hSw)
    go_simp
    try with_reducible rfl
  try simp only [Act.put, List.setIfInBounds_toArray, List.set_cons_zero, List.set_cons_succ]
  refine takeD 10 (some 31) (v := ?_) rfl rfl (by kernel_rfl) (by kernel_rfl) (by kernel_rfl) (fun _ _ _ h => h) (by rfl) ?_ (by assumption) ?_
  rotate_left
  · intro w hSw
    (try dsimp only at hSw)
    go_simp
    try with_reducible rfl
  try simp only [Act.put, List.setIfInBounds_toArray, List.set_cons_zero, List.set_cons_succ]
  refine takeD 12 (some 33) (v := ?_) rfl rfl (by kernel_rfl) (by kernel_rfl) (by kernel_rfl) (fun _ _ _ h => h) (by rfl) ?_ (by assumption) ?_
  rotate_left
  · intro w hSw
    (try dsimp only at hSw)
    go_simp
    try with_reducible rfl
  try simp only [Act.put, List.setIfInBounds_toArray, List.set_cons_zero, List.set_cons_succ]
  refine takeD 13 (some 34) (v := ?_) rfl rfl (by kernel_rfl) (by kernel_rfl) (by kernel_rfl) (fun _ _ _ h => h) (by rfl) ?_ (by assumption) ?_
  rotate_left
  · intro w hSw
    (try dsimp only at hSw)
    go_simp
    try with_reducible rfl
  try simp only [Act.put, List.setIfInBounds_toArray, List.set_cons_zero, List.set_cons_succ]
  refine wpAnyH_ready (rs := [11]) (by kernel_rfl) (by simp) ?_
  refine AllReadyH.cons rfl (fun K hK => ?_) AllReadyH.nil
  rw [if_pos (by rfl)]
  go_simp
  go_at_call 11
  refine (right_any (.slice none 0 0) h la ⟨r, o, nw⟩ _).mono ?_
  rintro e w1 ⟨rfl, rfl⟩
  go_wp2_with fail
  refine hK.out _ _ ?_ (fun hHeld2 => ?_)
  · first | exact hHeld.trans (hk.mono hHeld.size) | (clear hK; have hz := hHeld.size; go_grown)
  clear hK K hHeld
  have hHeld := hHeld2
  clear hHeld2
  try clear hk
  try simp only [Act.put, List.setIfInBounds_toArray, List.set_cons_zero, List.set_cons_succ]
  refine wpAnyH_ready (rs := [14]) (by kernel_rfl) (by simp) ?_
  refine AllReadyH.cons rfl (fun K hK => ?_) AllReadyH.nil
  rw [if_pos (by rfl)]
  go_simp
  go_at_call 12
  refine (rright_any (.slice none 0 0) h la ⟨r, o, nw⟩ _).mono ?_
  rintro e w1 ⟨rfl, rfl⟩
  go_wp2_with fail
  refine hK.out _ _ ?_ (fun hHeld2 => ?_)
  · first | exact hHeld.trans (hk.mono hHeld.size) | (clear hK; have hz := hHeld.size; go_grown)
  clear hK K hHeld
  have hHeld := hHeld2
  clear hHeld2
  try clear hk
  try simp only [Act.put, List.setIfInBounds_toArray, List.set_cons_zero, List.set_cons_succ]
  refine takeD 15 (some 36) (v := ?_) rfl rfl (by kernel_rfl) (by kernel_rfl) (by kernel_rfl) (fun _ _ _ h => h) (by rfl) ?_ (by assumption) ?_
  rotate_left
  · intro w hSw
    (try dsimp only at hSw)
    go_simp
    try with_reducible rfl
  try simp only [Act.put, List.setIfInBounds_toArray, List.set_cons_zero, List.set_cons_succ]
  refine takeD 16 (some 37) (v := ?_) rfl rfl (by kernel_rfl) (by kernel_rfl) (by kernel_rfl) (fun _ _ _ h => h) (by rfl) ?_ (by assumption) ?_
  rotate_left
  · intro w hSw
    (try dsimp only at hSw)
    go_simp
    try with_reducible rfl
  try simp only [Act.put, List.setIfInBounds_toArray, List.set_cons_zero, List.set_cons_succ]
  refine wpAnyH_done (by kernel_rfl) ?_ _
  go_wp2_with fail
  have hk := hHeld
  refine wp_world (fun W5 => Below w.heap.size w W5 ∧ Row W5 (.slice A l.length c) (l.map (.int .i64)) ∧ Row W5 (.slice B m.length d) (m.map .bool) ∧ Blk W5 w.heap.size 23 #[.int .i64 r, .bool o, .bool nw] ∧ Blk W5 W3.heap.size 29 #[.slice none 0 0, .int .i64 h, .bool la]) ⟨(hb4.trans ((show Below W4.heap.size W4 _ by go_grown).mono hb4.size)), (HL4.out.below (by go_grown)), (HM4.out.below (by go_grown)), (S4.out.below (by go_grown)), (T4.out.below (by go_grown))⟩ fun W5 ⟨hb5, qHL, qHM, qS, qT⟩ => ?_
  have HL5 := Lib.hid qHL
  have HM5 := Lib.hid qHM
  have S5 := Lib.hid qS
  have T5 := Lib.hid qT
  (try clear cS); (try clear lS); (try clear dS); (try clear cT); (try clear lT); (try clear dT)
  clear qHL qHM qS qT HL4 HM4 S4 T4 hb4
  clear hk
  rcases hr : rightP h la ⟨r, o, nw⟩ with _ | _
  · have hR := fun W => rright_any (.slice none 0 0) h la ⟨r, o, nw⟩ W
    rw [hr] at hR
    have dS : ∀ w', Below W5.heap.size W5 w' → ∀ i, w'.cell? ⟨w.heap.size, i, none⟩ = (#[.int .i64 r, .bool o, .bool nw] : Array Value)[i]? := fun w' hb i => by rw [hb.cell (p := ⟨w.heap.size, i, none⟩) S5.out.lt]; exact S5.out.cells i
    have dT : ∀ w', Below W5.heap.size W5 w' → ∀ i, w'.cell? ⟨W3.heap.size, i, none⟩ = (#[.slice none 0 0, .int .i64 h, .bool la] : Array Value)[i]? := fun w' hb i => by rw [hb.cell (p := ⟨W3.heap.size, i, none⟩) T5.out.lt]; exact T5.out.cells i
    refine wp_region_held_drew (S := fun w' => Below W5.heap.size W5 w') (by kernel_rfl) (by go_grown) (fun hHeld => ?_)
    refine takeD 0 (some 49) (v := ?_) rfl rfl (by kernel_rfl) (by kernel_rfl) (by kernel_rfl) (fun _ _ _ h => h) (by rfl) ?_ (by assumption) ?_
    rotate_left
    · intro w hSw
      (try dsimp only at hSw)
      go_simp
      try with_reducible rfl
    try simp only [Act.put, List.setIfInBounds_toArray, List.set_cons_zero, List.set_cons_succ]
    refine takeD 1 (some 50) (v := ?_) rfl rfl (by kernel_rfl) (by kernel_rfl) (by kernel_rfl) (fun _ _ _ h => h) (by rfl) ?_ (by assumption) ?_
    rotate_left
    · intro w hSw
      (try dsimp only at hSw)
      go_simp
      try with_reducible rfl
    try simp only [Act.put, List.setIfInBounds_toArray, List.set_cons_zero, List.set_cons_succ]
    refine wpAnyH_ready (rs := [2]) (by kernel_rfl) (by simp) ?_
    refine AllReadyH.cons rfl (fun K hK => ?_) AllReadyH.nil
    rw [if_pos (by rfl)]
    go_simp
    go_at_call 12
    refine (hR _).mono ?_
    rintro e w1 ⟨rfl, rfl⟩
    go_wp2_with fail
    refine hK.out _ _ ?_ (fun hHeld2 => ?_)
    · first | exact hHeld.trans (hk.mono hHeld.size) | (clear hK; have hz := hHeld.size; go_grown)
    clear hK K hHeld
    have hHeld := hHeld2
    clear hHeld2
    try clear hk
    try simp only [Act.put, List.setIfInBounds_toArray, List.set_cons_zero, List.set_cons_succ]
    refine takeD 3 (some 52) (v := ?_) rfl rfl (by kernel_rfl) (by kernel_rfl) (by kernel_rfl) (fun _ _ _ h => h) (by rfl) ?_ (by assumption) ?_
    rotate_left
    · intro w hSw
      (try dsimp only at hSw)
      go_simp
      try with_reducible rfl
    try simp only [Act.put, List.setIfInBounds_toArray, List.set_cons_zero, List.set_cons_succ]
    refine skipD 4 (some 53) rfl rfl (by kernel_rfl) (by kernel_rfl) (by kernel_rfl) (fun _ _ _ h => h) (by rfl) (by assumption) ?_
    try simp only [Act.put, List.setIfInBounds_toArray, List.set_cons_zero, List.set_cons_succ]
    refine skipD 5 (some 54) rfl rfl (by kernel_rfl) (by kernel_rfl) (by kernel_rfl) (fun _ _ _ h => h) (by rfl) (by assumption) ?_
    try simp only [Act.put, List.setIfInBounds_toArray, List.set_cons_zero, List.set_cons_succ]
    refine skipD 6 (some 55) rfl rfl (by kernel_rfl) (by kernel_rfl) (by kernel_rfl) (fun _ _ _ h => h) (by rfl) (by assumption) ?_
    try simp only [Act.put, List.setIfInBounds_toArray, List.set_cons_zero, List.set_cons_succ]
    refine skipD 7 (some 56) rfl rfl (by kernel_rfl) (by kernel_rfl) (by kernel_rfl) (fun _ _ _ h => h) (by rfl) (by assumption) ?_
    try simp only [Act.put, List.setIfInBounds_toArray, List.set_cons_zero, List.set_cons_succ]
    refine skipD 8 (some 57) rfl rfl (by kernel_rfl) (by kernel_rfl) (by kernel_rfl) (fun _ _ _ h => h) (by rfl) (by assumption) ?_
    try simp only [Act.put, List.setIfInBounds_toArray, List.set_cons_zero, List.set_cons_succ]
    refine skipD 9 (some 58) rfl rfl (by kernel_rfl) (by kernel_rfl) (by kernel_rfl) (fun _ _ _ h => h) (by rfl) (by assumption) ?_
    try simp only [Act.put, List.setIfInBounds_toArray, List.set_cons_zero, List.set_cons_succ]
    refine skipD 10 (some 59) rfl rfl (by kernel_rfl) (by kernel_rfl) (by kernel_rfl) (fun _ _ _ h => h) (by rfl) (by assumption) ?_
    try simp only [Act.put, List.setIfInBounds_toArray, List.set_cons_zero, List.set_cons_succ]
    refine skipD 11 (some 60) rfl rfl (by kernel_rfl) (by kernel_rfl) (by kernel_rfl) (fun _ _ _ h => h) (by rfl) (by assumption) ?_
    try simp only [Act.put, List.setIfInBounds_toArray, List.set_cons_zero, List.set_cons_succ]
    refine skipD 12 (some 61) rfl rfl (by kernel_rfl) (by kernel_rfl) (by kernel_rfl) (fun _ _ _ h => h) (by rfl) (by assumption) ?_
    try simp only [Act.put, List.setIfInBounds_toArray, List.set_cons_zero, List.set_cons_succ]
    refine skipD 13 (some 62) rfl rfl (by kernel_rfl) (by kernel_rfl) (by kernel_rfl) (fun _ _ _ h => h) (by rfl) (by assumption) ?_
    try simp only [Act.put, List.setIfInBounds_toArray, List.set_cons_zero, List.set_cons_succ]
    refine skipD 14 (some 63) rfl rfl (by kernel_rfl) (by kernel_rfl) (by kernel_rfl) (fun _ _ _ h => h) (by rfl) (by assumption) ?_
    try simp only [Act.put, List.setIfInBounds_toArray, List.set_cons_zero, List.set_cons_succ]
    refine takeD 15 (some 64) (v := ?_) rfl rfl (by kernel_rfl) (by kernel_rfl) (by kernel_rfl) (fun _ _ _ h => h) (by rfl) ?_ (by assumption) ?_
    rotate_left
    · intro w hSw
      (try dsimp only at hSw)
      go_simp
      try with_reducible rfl
    try simp only [Act.put, List.setIfInBounds_toArray, List.set_cons_zero, List.set_cons_succ]
    refine wpAnyH_done (by kernel_rfl) ?_ _
    go_wp2_with fail
    have hk := hHeld
    refine wp_world (fun W6 => Below w.heap.size w W6 ∧ Row W6 (.slice A l.length c) (l.map (.int .i64)) ∧ Row W6 (.slice B m.length d) (m.map .bool) ∧ Blk W6 w.heap.size 23 #[.int .i64 r, .bool o, .bool nw] ∧ Blk W6 W3.heap.size 29 #[.slice none 0 0, .int .i64 h, .bool la]) ⟨(hb5.trans ((show Below W5.heap.size W5 _ by go_grown).mono hb5.size)), (HL5.out.below (by go_grown)), (HM5.out.below (by go_grown)), (S5.out.below (by go_grown)), (T5.out.below (by go_grown))⟩ fun W6 ⟨hb6, qHL, qHM, qS, qT⟩ => ?_
    have HL6 := Lib.hid qHL
    have HM6 := Lib.hid qHM
    have S6 := Lib.hid qS
    have T6 := Lib.hid qT
    (try clear cS); (try clear lS); (try clear dS); (try clear cT); (try clear lT); (try clear dT)
    clear qHL qHM qS qT HL5 HM5 S5 T5 hb5
    clear hk
    have cS := S6.out.cells
    have lS := S6.out.lt
    have cT := T6.out.cells
    have lT := T6.out.lt
    have dS : ∀ w', Below W6.heap.size W6 w' → ∀ i, w'.cell? ⟨w.heap.size, i, none⟩ = (#[.int .i64 r, .bool o, .bool nw] : Array Value)[i]? := fun w' hb i => by rw [hb.cell (p := ⟨w.heap.size, i, none⟩) S6.out.lt]; exact S6.out.cells i
    have dT : ∀ w', Below W6.heap.size W6 w' → ∀ i, w'.cell? ⟨W3.heap.size, i, none⟩ = (#[.slice none 0 0, .int .i64 h, .bool la] : Array Value)[i]? := fun w' hb i => by rw [hb.cell (p := ⟨W3.heap.size, i, none⟩) T6.out.lt]; exact T6.out.cells i
    refine wp_region_held_drew (S := fun w' => Below W6.heap.size W6 w') (by kernel_rfl) (by go_grown) (fun hHeld => ?_)
    refine takeD 0 (some 65) (v := ?_) rfl rfl (by kernel_rfl) (by kernel_rfl) (by kernel_rfl) (fun _ _ _ h => h) (by rfl) ?_ (by assumption) ?_
    rotate_left
    · intro w hSw
      (try dsimp only at hSw)
      go_simp
      try with_reducible rfl
    try simp only [Act.put, List.setIfInBounds_toArray, List.set_cons_zero, List.set_cons_succ]
    refine takeD 1 (some 66) (v := ?_) rfl rfl (by kernel_rfl) (by kernel_rfl) (by kernel_rfl) (fun _ _ _ h => h) (by rfl) ?_ (by assumption) ?_
    rotate_left
    · intro w hSw
      (try dsimp only at hSw)
      go_simp
      try with_reducible rfl
    try simp only [Act.put, List.setIfInBounds_toArray, List.set_cons_zero, List.set_cons_succ]
    refine takeD 2 (some 67) (v := ?_) rfl rfl (by kernel_rfl) (by kernel_rfl) (by kernel_rfl) (fun _ _ _ h => h) (by rfl) ?_ (by assumption) ?_
    rotate_left
    · intro w hSw
      (try dsimp only at hSw)
      go_simp
      try with_reducible rfl
    try simp only [Act.put, List.setIfInBounds_toArray, List.set_cons_zero, List.set_cons_succ]
    refine takeD 3 (some 68) (v := ?_) rfl rfl (by kernel_rfl) (by kernel_rfl) (by kernel_rfl) (fun _ _ _ h => h) (by rfl) ?_ (by assumption) ?_
    rotate_left
    · intro w hSw
      (try dsimp only at hSw)
      go_simp
      try with_reducible rfl
    try simp only [Act.put, List.setIfInBounds_toArray, List.set_cons_zero, List.set_cons_succ]
    refine takeD 4 (some 69) (v := ?_) rfl rfl (by kernel_rfl) (by kernel_rfl) (by kernel_rfl) (fun _ _ _ h => h) (by rfl) ?_ (by assumption) ?_
    rotate_left
    · intro w hSw
      (try dsimp only at hSw)
      go_simp
      try with_reducible rfl
    try simp only [Act.put, List.setIfInBounds_toArray, List.set_cons_zero, List.set_cons_succ]
    refine takeD 6 (some 71) (v := ?_) rfl rfl (by kernel_rfl) (by kernel_rfl) (by kernel_rfl) (fun _ _ _ h => h) (by rfl) ?_ (by assumption) ?_
    rotate_left
    · intro w hSw
      (try dsimp only at hSw)
      go_simp
      try with_reducible rfl
    try simp only [Act.put, List.setIfInBounds_toArray, List.set_cons_zero, List.set_cons_succ]
    refine takeD 7 (some 72) (v := ?_) rfl rfl (by kernel_rfl) (by kernel_rfl) (by kernel_rfl) (fun _ _ _ h => h) (by rfl) ?_ (by assumption) ?_
    rotate_left
    · intro w hSw
      (try dsimp only at hSw)
      go_simp
      try with_reducible rfl
    try simp only [Act.put, List.setIfInBounds_toArray, List.set_cons_zero, List.set_cons_succ]
    refine takeD 8 (some 73) (v := ?_) rfl rfl (by kernel_rfl) (by kernel_rfl) (by kernel_rfl) (fun _ _ _ h => h) (by rfl) ?_ (by assumption) ?_
    rotate_left
    · intro w hSw
      (try dsimp only at hSw)
      go_simp
      try with_reducible rfl
    try simp only [Act.put, List.setIfInBounds_toArray, List.set_cons_zero, List.set_cons_succ]
    refine wpAnyH_ready (rs := [5]) (by kernel_rfl) (by simp) ?_
    refine AllReadyH.cons rfl (fun K hK => ?_) AllReadyH.nil
    rw [if_pos (by rfl)]
    go_simp
    go_at_call 16
    refine (steps_any (.slice none 0 0) h la _ _ l m _ hn0.1 (by omega) (HL6.out.below hHeld) (HM6.out.below hHeld) (by omega)).mono ?_
    rintro e w1 ⟨v1, rfl, r1, hk⟩
    go_wp2_with fail
    refine hK.out _ _ ?_ (fun hHeld2 => ?_)
    · first | exact hHeld.trans (hk.mono hHeld.size) | (clear hK; have hz := hHeld.size; go_grown)
    clear hK K hHeld
    have hHeld := hHeld2
    clear hHeld2
    try clear hk
    try simp only [Act.put, List.setIfInBounds_toArray, List.set_cons_zero, List.set_cons_succ]
    refine wpAnyH_ready (rs := [9]) (by kernel_rfl) (by simp) ?_
    refine AllReadyH.cons rfl (fun K hK => ?_) AllReadyH.nil
    rw [if_pos (by rfl)]
    go_simp
    go_at_call 17
    refine (rsteps_any (.slice none 0 0) h la _ _ l m _ hn0.1 (by omega) (HL6.out.below hHeld) (HM6.out.below hHeld) (by omega)).mono ?_
    rintro e w2 ⟨v2, rfl, r2, hk⟩
    replace r1 := r1.below hk
    go_wp2_with fail
    refine hK.out _ _ ?_ (fun hHeld2 => ?_)
    · first | exact hHeld.trans (hk.mono hHeld.size) | (clear hK; have hz := hHeld.size; go_grown)
    clear hK K hHeld
    have hHeld := hHeld2
    clear hHeld2
    try clear hk
    try simp only [Act.put, List.setIfInBounds_toArray, List.set_cons_zero, List.set_cons_succ]
    refine wpAnyH_ready (rs := [10]) (by kernel_rfl) (by simp) ?_
    refine AllReadyH.cons rfl (fun K hK => ?_) AllReadyH.nil
    rw [if_pos (by rfl)]
    go_simp
    go_at_call 15
    refine (same_any _ _ _ _ _ _ _ r1 r2).mono ?_
    rintro e w3 ⟨rfl, hk⟩
    go_wp2_with fail
    refine hK.out _ _ ?_ (fun hHeld2 => ?_)
    · first | exact hHeld.trans (hk.mono hHeld.size) | (clear hK; have hz := hHeld.size; go_grown)
    clear hK K hHeld
    have hHeld := hHeld2
    clear hHeld2
    try clear hk
    try simp only [Act.put, List.setIfInBounds_toArray, List.set_cons_zero, List.set_cons_succ]
    refine takeD 11 (some 76) (v := ?_) rfl rfl (by kernel_rfl) (by kernel_rfl) (by kernel_rfl) (fun _ _ _ h => h) (by rfl) ?_ (by assumption) ?_
    rotate_left
    · intro w hSw
      (try dsimp only at hSw)
      go_simp
      try with_reducible rfl
    try simp only [Act.put, List.setIfInBounds_toArray, List.set_cons_zero, List.set_cons_succ]
    refine takeD 12 (some 14) (v := ?_) rfl rfl (by kernel_rfl) (by kernel_rfl) (by kernel_rfl) (fun _ _ _ h => h) (by rfl) ?_ (by assumption) ?_
    rotate_left
    · intro w hSw
      (try dsimp only at hSw)
      go_simp
      try with_reducible rfl
    try simp only [Act.put, List.setIfInBounds_toArray, List.set_cons_zero, List.set_cons_succ]
    refine wpAnyH_done (by kernel_rfl) ?_ _
    go_wp2
    go_ret
    exact ⟨by simp, hb6.trans (hHeld.mono hb6.size)⟩
  · have hR := fun W => rright_any (.slice none 0 0) h la ⟨r, o, nw⟩ W
    rw [hr] at hR
    have rb := rightP_bd hr
    simp only at rb
    have hnq := fun w => neqP w (pstep h la ⟨r, o, nw⟩ t ack).run (pstep h la ⟨r, o, nw⟩ t ack).on (pstep h la ⟨r, o, nw⟩ t ack).now
    have hgd := guardP
    have dS : ∀ w', Below W5.heap.size W5 w' → ∀ i, w'.cell? ⟨w.heap.size, i, none⟩ = (#[.int .i64 r, .bool o, .bool nw] : Array Value)[i]? := fun w' hb i => by rw [hb.cell (p := ⟨w.heap.size, i, none⟩) S5.out.lt]; exact S5.out.cells i
    have dT : ∀ w', Below W5.heap.size W5 w' → ∀ i, w'.cell? ⟨W3.heap.size, i, none⟩ = (#[.slice none 0 0, .int .i64 h, .bool la] : Array Value)[i]? := fun w' hb i => by rw [hb.cell (p := ⟨W3.heap.size, i, none⟩) T5.out.lt]; exact T5.out.cells i
    refine wp_region_held_drew (S := fun w' => Below W5.heap.size W5 w') (by kernel_rfl) (by go_grown) (fun hHeld => ?_)
    refine takeD 0 (some 49) (v := ?_) rfl rfl (by kernel_rfl) (by kernel_rfl) (by kernel_rfl) (fun _ _ _ h => h) (by rfl) ?_ (by assumption) ?_
    rotate_left
    · intro w hSw
      (try dsimp only at hSw)
      go_simp
      try with_reducible rfl
    try simp only [Act.put, List.setIfInBounds_toArray, List.set_cons_zero, List.set_cons_succ]
    refine takeD 1 (some 50) (v := ?_) rfl rfl (by kernel_rfl) (by kernel_rfl) (by kernel_rfl) (fun _ _ _ h => h) (by rfl) ?_ (by assumption) ?_
    rotate_left
    · intro w hSw
      (try dsimp only at hSw)
      go_simp
      try with_reducible rfl
    try simp only [Act.put, List.setIfInBounds_toArray, List.set_cons_zero, List.set_cons_succ]
    refine wpAnyH_ready (rs := [2]) (by kernel_rfl) (by simp) ?_
    refine AllReadyH.cons rfl (fun K hK => ?_) AllReadyH.nil
    rw [if_pos (by rfl)]
    go_simp
    go_at_call 12
    refine (hR _).mono ?_
    rintro e w1 ⟨rfl, rfl⟩
    go_wp2_with fail
    refine hK.out _ _ ?_ (fun hHeld2 => ?_)
    · first | exact hHeld.trans (hk.mono hHeld.size) | (clear hK; have hz := hHeld.size; go_grown)
    clear hK K hHeld
    have hHeld := hHeld2
    clear hHeld2
    try clear hk
    try simp only [Act.put, List.setIfInBounds_toArray, List.set_cons_zero, List.set_cons_succ]
    refine takeD 3 (some 52) (v := ?_) rfl rfl (by kernel_rfl) (by kernel_rfl) (by kernel_rfl) (fun _ _ _ h => h) (by rfl) ?_ (by assumption) ?_
    rotate_left
    · intro w hSw
      (try dsimp only at hSw)
      go_simp
      try with_reducible rfl
    try simp only [Act.put, List.setIfInBounds_toArray, List.set_cons_zero, List.set_cons_succ]
    refine takeD 4 (some 53) (v := ?_) rfl rfl (by kernel_rfl) (by kernel_rfl) (by kernel_rfl) (fun _ _ _ h => h) (by rfl) ?_ (by assumption) ?_
    rotate_left
    · intro w hSw
      (try dsimp only at hSw)
      go_simp
      try with_reducible rfl
    try simp only [Act.put, List.setIfInBounds_toArray, List.set_cons_zero, List.set_cons_succ]
    refine takeD 5 (some 54) (v := ?_) rfl rfl (by kernel_rfl) (by kernel_rfl) (by kernel_rfl) (fun _ _ _ h => h) (by rfl) ?_ (by assumption) ?_
    rotate_left
    · intro w hSw
      (try dsimp only at hSw)
      go_simp
      try with_reducible rfl
    try simp only [Act.put, List.setIfInBounds_toArray, List.set_cons_zero, List.set_cons_succ]
    refine takeD 6 (some 55) (v := ?_) rfl rfl (by kernel_rfl) (by kernel_rfl) (by kernel_rfl) (fun _ _ _ h => h) (by rfl) ?_ (by assumption) ?_
    rotate_left
    · intro w hSw
      (try dsimp only at hSw)
      go_simp
      try with_reducible rfl
    try simp only [Act.put, List.setIfInBounds_toArray, List.set_cons_zero, List.set_cons_succ]
    refine takeD 7 (some 56) (v := ?_) rfl rfl (by kernel_rfl) (by kernel_rfl) (by kernel_rfl) (fun _ _ _ h => h) (by rfl) ?_ (by assumption) ?_
    rotate_left
    · intro w hSw
      (try dsimp only at hSw)
      go_simp
      try with_reducible rfl
    try simp only [Act.put, List.setIfInBounds_toArray, List.set_cons_zero, List.set_cons_succ]
    refine takeD 9 (some 58) (v := ?_) rfl rfl (by kernel_rfl) (by kernel_rfl) (by kernel_rfl) (fun _ _ _ h => h) (by rfl) ?_ (by assumption) ?_
    rotate_left
    · intro w hSw
      (try dsimp only at hSw)
      go_simp
      try with_reducible rfl
    try simp only [Act.put, List.setIfInBounds_toArray, List.set_cons_zero, List.set_cons_succ]
    refine takeD 10 (some 59) (v := ?_) rfl rfl (by kernel_rfl) (by kernel_rfl) (by kernel_rfl) (fun _ _ _ h => h) (by rfl) ?_ (by assumption) ?_
    rotate_left
    · intro w hSw
      (try dsimp only at hSw)
      go_simp
      try with_reducible rfl
    try simp only [Act.put, List.setIfInBounds_toArray, List.set_cons_zero, List.set_cons_succ]
    refine takeD 11 (some 60) (v := ?_) rfl rfl (by kernel_rfl) (by kernel_rfl) (by kernel_rfl) (fun _ _ _ h => h) (by rfl) ?_ (by assumption) ?_
    rotate_left
    · intro w hSw
      (try dsimp only at hSw)
      go_simp
      try with_reducible rfl
    try simp only [Act.put, List.setIfInBounds_toArray, List.set_cons_zero, List.set_cons_succ]
    refine takeD 12 (some 61) (v := ?_) rfl rfl (by kernel_rfl) (by kernel_rfl) (by kernel_rfl) (fun _ _ _ h => h) (by rfl) ?_ (by assumption) ?_
    rotate_left
    · intro w hSw
      (try dsimp only at hSw)
      go_simp
      try with_reducible rfl
    try simp only [Act.put, List.setIfInBounds_toArray, List.set_cons_zero, List.set_cons_succ]
    refine wpAnyH_ready (rs := [8]) (by kernel_rfl) (by simp) ?_
    refine AllReadyH.cons rfl (fun K hK => ?_) AllReadyH.nil
    rw [if_pos (by rfl)]
    go_simp
    go_at_call 13
    refine (step_any (.slice none 0 0) h la ⟨r, o, nw⟩ t ack _ rb.1 (show r ≤ 4611686018427387904 by omega)).mono ?_
    rintro e w1 ⟨rfl, hk⟩
    go_wp2_with fail
    refine hK.out _ _ ?_ (fun hHeld2 => ?_)
    · first | exact hHeld.trans (hk.mono hHeld.size) | (clear hK; have hz := hHeld.size; go_grown)
    clear hK K hHeld
    have hHeld := hHeld2
    clear hHeld2
    try clear hk
    try simp only [Act.put, List.setIfInBounds_toArray, List.set_cons_zero, List.set_cons_succ]
    refine wpAnyH_ready (rs := [13]) (by kernel_rfl) (by simp) ?_
    refine AllReadyH.cons rfl (fun K hK => ?_) AllReadyH.nil
    rw [if_pos (by rfl)]
    go_simp
    go_at_call 14
    refine (rstep_any (.slice none 0 0) h la ⟨r, o, nw⟩ t ack _ rb.1 (show r ≤ 4611686018427387904 by omega)).mono ?_
    rintro e w2 ⟨rfl, hk⟩
    go_wp2_with fail
    refine hK.out _ _ ?_ (fun hHeld2 => ?_)
    · first | exact hHeld.trans (hk.mono hHeld.size) | (clear hK; have hz := hHeld.size; go_grown)
    clear hK K hHeld
    have hHeld := hHeld2
    clear hHeld2
    try clear hk
    try simp only [Act.put, List.setIfInBounds_toArray, List.set_cons_zero, List.set_cons_succ]
    refine takeD 14 (some 63) (v := ?_) rfl rfl (by kernel_rfl) (by kernel_rfl) (by kernel_rfl) (fun _ _ _ h => h) (by rfl) ?_ (by assumption) ?_
    rotate_left
    · intro w hSw
      (try dsimp only at hSw)
      go_simp
      try with_reducible rfl
    try simp only [Act.put, List.setIfInBounds_toArray, List.set_cons_zero, List.set_cons_succ]
    refine takeD 15 (some 64) (v := ?_) rfl rfl (by kernel_rfl) (by kernel_rfl) (by kernel_rfl) (fun _ _ _ h => h) (by rfl) ?_ (by assumption) ?_
    rotate_left
    · intro w hSw
      (try dsimp only at hSw)
      go_simp
      try with_reducible rfl
    try simp only [Act.put, List.setIfInBounds_toArray, List.set_cons_zero, List.set_cons_succ]
    refine wpAnyH_done (by kernel_rfl) ?_ _
    go_wp2_with fail
    have hk := hHeld
    refine wp_world (fun W6 => Below w.heap.size w W6 ∧ Row W6 (.slice A l.length c) (l.map (.int .i64)) ∧ Row W6 (.slice B m.length d) (m.map .bool) ∧ Blk W6 w.heap.size 23 #[.int .i64 r, .bool o, .bool nw] ∧ Blk W6 W3.heap.size 29 #[.slice none 0 0, .int .i64 h, .bool la]) ⟨(hb5.trans ((show Below W5.heap.size W5 _ by go_grown).mono hb5.size)), (HL5.out.below (by go_grown)), (HM5.out.below (by go_grown)), (S5.out.below (by go_grown)), (T5.out.below (by go_grown))⟩ fun W6 ⟨hb6, qHL, qHM, qS, qT⟩ => ?_
    have HL6 := Lib.hid qHL
    have HM6 := Lib.hid qHM
    have S6 := Lib.hid qS
    have T6 := Lib.hid qT
    (try clear cS); (try clear lS); (try clear dS); (try clear cT); (try clear lT); (try clear dT)
    clear qHL qHM qS qT HL5 HM5 S5 T5 hb5
    clear hk
    have cS := S6.out.cells
    have lS := S6.out.lt
    have cT := T6.out.cells
    have lT := T6.out.lt
    have dS : ∀ w', Below W6.heap.size W6 w' → ∀ i, w'.cell? ⟨w.heap.size, i, none⟩ = (#[.int .i64 r, .bool o, .bool nw] : Array Value)[i]? := fun w' hb i => by rw [hb.cell (p := ⟨w.heap.size, i, none⟩) S6.out.lt]; exact S6.out.cells i
    have dT : ∀ w', Below W6.heap.size W6 w' → ∀ i, w'.cell? ⟨W3.heap.size, i, none⟩ = (#[.slice none 0 0, .int .i64 h, .bool la] : Array Value)[i]? := fun w' hb i => by rw [hb.cell (p := ⟨W3.heap.size, i, none⟩) T6.out.lt]; exact T6.out.cells i
    refine wp_region_held_drew (S := fun w' => Below W6.heap.size W6 w') (by kernel_rfl) (by go_grown) (fun hHeld => ?_)
    refine takeD 0 (some 65) (v := ?_) rfl rfl (by kernel_rfl) (by kernel_rfl) (by kernel_rfl) (fun _ _ _ h => h) (by rfl) ?_ (by assumption) ?_
    rotate_left
    · intro w hSw
      (try dsimp only at hSw)
      go_simp
      try with_reducible rfl
    try simp only [Act.put, List.setIfInBounds_toArray, List.set_cons_zero, List.set_cons_succ]
    refine takeD 1 (some 66) (v := ?_) rfl rfl (by kernel_rfl) (by kernel_rfl) (by kernel_rfl) (fun _ _ _ h => h) (by rfl) ?_ (by assumption) ?_
    rotate_left
    · intro w hSw
      (try dsimp only at hSw)
      go_simp
      try with_reducible rfl
    try simp only [Act.put, List.setIfInBounds_toArray, List.set_cons_zero, List.set_cons_succ]
    refine takeD 2 (some 67) (v := ?_) rfl rfl (by kernel_rfl) (by kernel_rfl) (by kernel_rfl) (fun _ _ _ h => h) (by rfl) ?_ (by assumption) ?_
    rotate_left
    · intro w hSw
      (try dsimp only at hSw)
      go_simp
      try with_reducible rfl
    try simp only [Act.put, List.setIfInBounds_toArray, List.set_cons_zero, List.set_cons_succ]
    refine takeD 3 (some 68) (v := ?_) rfl rfl (by kernel_rfl) (by kernel_rfl) (by kernel_rfl) (fun _ _ _ h => h) (by rfl) ?_ (by assumption) ?_
    rotate_left
    · intro w hSw
      (try dsimp only at hSw)
      go_simp
      try with_reducible rfl
    try simp only [Act.put, List.setIfInBounds_toArray, List.set_cons_zero, List.set_cons_succ]
    refine takeD 4 (some 69) (v := ?_) rfl rfl (by kernel_rfl) (by kernel_rfl) (by kernel_rfl) (fun _ _ _ h => h) (by rfl) ?_ (by assumption) ?_
    rotate_left
    · intro w hSw
      (try dsimp only at hSw)
      go_simp
      try with_reducible rfl
    try simp only [Act.put, List.setIfInBounds_toArray, List.set_cons_zero, List.set_cons_succ]
    refine takeD 6 (some 71) (v := ?_) rfl rfl (by kernel_rfl) (by kernel_rfl) (by kernel_rfl) (fun _ _ _ h => h) (by rfl) ?_ (by assumption) ?_
    rotate_left
    · intro w hSw
      (try dsimp only at hSw)
      go_simp
      try with_reducible rfl
    try simp only [Act.put, List.setIfInBounds_toArray, List.set_cons_zero, List.set_cons_succ]
    refine takeD 7 (some 72) (v := ?_) rfl rfl (by kernel_rfl) (by kernel_rfl) (by kernel_rfl) (fun _ _ _ h => h) (by rfl) ?_ (by assumption) ?_
    rotate_left
    · intro w hSw
      (try dsimp only at hSw)
      go_simp
      try with_reducible rfl
    try simp only [Act.put, List.setIfInBounds_toArray, List.set_cons_zero, List.set_cons_succ]
    refine takeD 8 (some 73) (v := ?_) rfl rfl (by kernel_rfl) (by kernel_rfl) (by kernel_rfl) (fun _ _ _ h => h) (by rfl) ?_ (by assumption) ?_
    rotate_left
    · intro w hSw
      (try dsimp only at hSw)
      go_simp
      try with_reducible rfl
    try simp only [Act.put, List.setIfInBounds_toArray, List.set_cons_zero, List.set_cons_succ]
    refine wpAnyH_ready (rs := [5]) (by kernel_rfl) (by simp) ?_
    refine AllReadyH.cons rfl (fun K hK => ?_) AllReadyH.nil
    rw [if_pos (by rfl)]
    go_simp
    go_at_call 16
    refine (steps_any (.slice none 0 0) h la _ _ l m _ hn0.1 (by omega) (HL6.out.below hHeld) (HM6.out.below hHeld) (by omega)).mono ?_
    rintro e w1 ⟨v1, rfl, r1, hk⟩
    go_wp2_with fail
    refine hK.out _ _ ?_ (fun hHeld2 => ?_)
    · first | exact hHeld.trans (hk.mono hHeld.size) | (clear hK; have hz := hHeld.size; go_grown)
    clear hK K hHeld
    have hHeld := hHeld2
    clear hHeld2
    try clear hk
    try simp only [Act.put, List.setIfInBounds_toArray, List.set_cons_zero, List.set_cons_succ]
    refine wpAnyH_ready (rs := [9]) (by kernel_rfl) (by simp) ?_
    refine AllReadyH.cons rfl (fun K hK => ?_) AllReadyH.nil
    rw [if_pos (by rfl)]
    go_simp
    go_at_call 17
    refine (rsteps_any (.slice none 0 0) h la _ _ l m _ hn0.1 (by omega) (HL6.out.below hHeld) (HM6.out.below hHeld) (by omega)).mono ?_
    rintro e w2 ⟨v2, rfl, r2, hk⟩
    replace r1 := r1.below hk
    go_wp2_with fail
    refine hK.out _ _ ?_ (fun hHeld2 => ?_)
    · first | exact hHeld.trans (hk.mono hHeld.size) | (clear hK; have hz := hHeld.size; go_grown)
    clear hK K hHeld
    have hHeld := hHeld2
    clear hHeld2
    try clear hk
    try simp only [Act.put, List.setIfInBounds_toArray, List.set_cons_zero, List.set_cons_succ]
    refine wpAnyH_ready (rs := [10]) (by kernel_rfl) (by simp) ?_
    refine AllReadyH.cons rfl (fun K hK => ?_) AllReadyH.nil
    rw [if_pos (by rfl)]
    go_simp
    go_at_call 15
    refine (same_any _ _ _ _ _ _ _ r1 r2).mono ?_
    rintro e w3 ⟨rfl, hk⟩
    go_wp2_with fail
    refine hK.out _ _ ?_ (fun hHeld2 => ?_)
    · first | exact hHeld.trans (hk.mono hHeld.size) | (clear hK; have hz := hHeld.size; go_grown)
    clear hK K hHeld
    have hHeld := hHeld2
    clear hHeld2
    try clear hk
    try simp only [Act.put, List.setIfInBounds_toArray, List.set_cons_zero, List.set_cons_succ]
    refine takeD 11 (some 76) (v := ?_) rfl rfl (by kernel_rfl) (by kernel_rfl) (by kernel_rfl) (fun _ _ _ h => h) (by rfl) ?_ (by assumption) ?_
    rotate_left
    · intro w hSw
      (try dsimp only at hSw)
      go_simp
      try with_reducible rfl
    try simp only [Act.put, List.setIfInBounds_toArray, List.set_cons_zero, List.set_cons_succ]
    refine takeD 12 (some 14) (v := ?_) rfl rfl (by kernel_rfl) (by kernel_rfl) (by kernel_rfl) (fun _ _ _ h => h) (by rfl) ?_ (by assumption) ?_
    rotate_left
    · intro w hSw
      (try dsimp only at hSw)
      go_simp
      try with_reducible rfl
    try simp only [Act.put, List.setIfInBounds_toArray, List.set_cons_zero, List.set_cons_succ]
    refine wpAnyH_done (by kernel_rfl) ?_ _
    go_wp2
    go_ret
    exact ⟨by simp, hb6.trans (hHeld.mono hb6.size)⟩
end Go.Proofs.Ytmcjndnecohboaa
