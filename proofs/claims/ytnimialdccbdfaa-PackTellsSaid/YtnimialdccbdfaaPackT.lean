/- Layer 4: the law of the text's answers, walked. -/
import Derived.Test.YtnimialdccbdfaaPackS
namespace Go.Proofs.Ytnimialdccbdfaa
open Go.ChangeShapes Go.WideShapes Go.ChangeAt Go.RowKit Go.Deep
set_option linter.unusedVariables false
set_option linter.unusedSimpArgs false

def unp (bs : List Int) : Pk := if 12 ≤ bs.length ∧ bs.length ≤ 26 ∧ bs.length % 2 = 0 then ofB bs else Pk.zero
def codeOf (bs : List Int) : Int := if 12 ≤ bs.length ∧ bs.length ≤ 26 ∧ bs.length % 2 = 0 then 0 else badCode bs.length
theorem data_any (v : Value) (p : Pk) (w : World) (h : PkV w v p) :
    Calls Try.prog 10 #[v] w fun e w' => ∃ u, e = .returned (.tuple #[u, .bool (decide p.right)]) ∧ Bytes w' u (if p.right then p.data else []) ∧ Below w.heap.size w w' := by
  by_cases hr : p.right
  · rw [if_pos hr, decide_eq_true hr]
    exact data_yes v p w h hr
  · rw [if_neg hr, decide_eq_false hr]
    exact (data_no v p w h hr).mono fun e w' ⟨he, hk⟩ => ⟨_, he, Bytes.nil_, hk⟩
theorem rdata_any (v : Value) (p : Pk) (w : World) (h : PkV w v p) :
    Calls Try.prog 11 #[v] w fun e w' => ∃ u, e = .returned (.tuple #[u, .bool (decide p.right)]) ∧ Bytes w' u (if p.right then p.data else []) ∧ Below w.heap.size w w' := by
  by_cases hr : p.right
  · rw [if_pos hr, decide_eq_true hr]
    exact rdata_yes v p w h hr
  · rw [if_neg hr, decide_eq_false hr]
    exact (rdata_no v p w h hr).mono fun e w' ⟨he, hk⟩ => ⟨_, he, Bytes.nil_, hk⟩
theorem unpack_any (v : Value) (bs : List Int) (w : World) (h : Bytes w v bs) :
    Calls Try.prog 12 #[v] w fun e w' => ∃ A c, e = .returned (.tuple #[.agg #[.int .i64 (unp bs).dev, .int .i64 (unp bs).chan, .int .i64 (unp bs).boot, .int .i64 (unp bs).seq, .int .i64 (unp bs).stamp, .slice A (unp bs).vals.length c], .int .i64 (codeOf bs)]) ∧ Ints .i64 w' (.slice A (unp bs).vals.length c) (unp bs).vals ∧ Below w.heap.size w w' := by
  by_cases hr : 12 ≤ bs.length ∧ bs.length ≤ 26 ∧ bs.length % 2 = 0
  · have e1 : unp bs = ofB bs := if_pos hr
    have e2 : codeOf bs = 0 := if_pos hr
    rw [e1, e2]
    refine (unpack_ok v bs w h hr.1 hr.2.1 hr.2.2).mono fun e w' ⟨u, he, hP, hk⟩ => ?_
    obtain ⟨vs, rfl, hI⟩ := hP
    obtain ⟨A, c, rfl, _⟩ := hI.shape
    exact ⟨A, c, he, hI, hk⟩
  · have e1 : unp bs = Pk.zero := if_neg hr
    have e2 : codeOf bs = badCode bs.length := if_neg hr
    rw [e1, e2]
    exact (unpack_bad v bs w h hr).mono fun e w' ⟨he, hk⟩ => ⟨none, 0, he, ⟨Row.nil_, by simp [Pk.zero]⟩, hk⟩
theorem runpack_any (v : Value) (bs : List Int) (w : World) (h : Bytes w v bs) :
    Calls Try.prog 13 #[v] w fun e w' => ∃ A c, e = .returned (.tuple #[.agg #[.int .i64 (unp bs).dev, .int .i64 (unp bs).chan, .int .i64 (unp bs).boot, .int .i64 (unp bs).seq, .int .i64 (unp bs).stamp, .slice A (unp bs).vals.length c], .int .i64 (codeOf bs)]) ∧ Ints .i64 w' (.slice A (unp bs).vals.length c) (unp bs).vals ∧ Below w.heap.size w w' := by
  by_cases hr : 12 ≤ bs.length ∧ bs.length ≤ 26 ∧ bs.length % 2 = 0
  · have e1 : unp bs = ofB bs := if_pos hr
    have e2 : codeOf bs = 0 := if_pos hr
    rw [e1, e2]
    refine (runpack_ok v bs w h hr.1 hr.2.1 hr.2.2).mono fun e w' ⟨u, he, hP, hk⟩ => ?_
    obtain ⟨vs, rfl, hI⟩ := hP
    obtain ⟨A, c, rfl, _⟩ := hI.shape
    exact ⟨A, c, he, hI, hk⟩
  · have e1 : unp bs = Pk.zero := if_neg hr
    have e2 : codeOf bs = badCode bs.length := if_neg hr
    rw [e1, e2]
    exact (runpack_bad v bs w h hr).mono fun e w' ⟨he, hk⟩ => ⟨none, 0, he, ⟨Row.nil_, by simp [Pk.zero]⟩, hk⟩

set_option maxRecDepth 100000 in
set_option maxHeartbeats 400000 in
theorem walk_PackTells (v : Value) (p : Pk) (u : Value) (bs : List Int) (w : World) (h0 : PkV w v p) (h1 : Ints .u8 w u bs) :
    Calls Try.prog 3 #[v, u] w fun e w' => e = .returned (.bool true) ∧ Below w.heap.size w w' := by
  obtain ⟨vs, rfl, hIP⟩ := h0
  obtain ⟨A, c, hsP, hcP, hcmP, _⟩ := hIP.shape
  subst hsP
  have hlzP : ((p.vals.length : Nat) : Int) ≤ 9223372036854775807 := by unfold maxLen at hcmP; omega
  have P0 := Lib.hid hIP
  clear hIP hcmP hcP
  obtain ⟨B, d, hs, hd, hdm⟩ := h1.bytes.shape
  subst hs
  have hlzB : ((bs.length : Nat) : Int) ≤ 9223372036854775807 := by omega
  have B0 := Lib.hid h1.bytes
  clear h1 hdm hd
  go_enter Try.func3, Try.ntmps3
  go_wp2_with fail
  refine calls_world (fun W1 => Below w.heap.size w W1 ∧ Ints .i64 W1 (.slice A p.vals.length c) p.vals ∧ Bytes W1 (.slice B bs.length d) bs ∧ Blk W1 w.heap.size 24 #[.int .i64 p.dev, .int .i64 p.chan, .int .i64 p.boot, .int .i64 p.seq, .int .i64 p.stamp, .slice A p.vals.length c]) ⟨(by go_grown), (P0.out.below (by go_grown)), (B0.out.below (by go_grown)), (Blk.new _ _ _ _ (by first | rfl | simp))⟩ fun W1 ⟨hb1, qP, qB, qS⟩ => ?_
  have P1 := Lib.hid qP
  have B1 := Lib.hid qB
  have S1 := Lib.hid qS
  (try clear cS); (try clear lS); (try clear dS)
  clear qP qB qS P0 B0
  refine (head_any _).mono ?_
  rintro e W2 ⟨rfl, hk⟩
  have hb2 := hb1.trans (hk.mono hb1.size)
  have P2 := Lib.hid (P1.out.below hk)
  have B2 := Lib.hid (B1.out.below hk)
  have S2 := Lib.hid (S1.out.below hk)
  (try clear cS); (try clear lS); (try clear dS)
  clear hk P1 B1 S1 hb1
  have cS := S2.out.cells
  have lS := S2.out.lt
  by_cases hbp : 100 < p.vals.length
  · have g1 : decide (((p.vals.length : Nat) : Int) > 100) = true := decide_eq_true (by omega)
    go_wp2
    go_ret
    exact ⟨by first | rfl | simp, hb2⟩
  have g1 : decide (((p.vals.length : Nat) : Int) > 100) = false := decide_eq_false (by omega)
  by_cases hbq : 100 < bs.length
  · have g2 : decide (((bs.length : Nat) : Int) > 100) = true := decide_eq_true (by omega)
    go_wp2
    go_ret
    exact ⟨by first | rfl | simp, hb2⟩
  have g2 : decide (((bs.length : Nat) : Int) > 100) = false := decide_eq_false (by omega)
  go_wp2_with fail
  refine (data_any _ p _ ⟨_, rfl, P2.out⟩).mono ?_
  rintro e W3 ⟨x1, rfl, hX, hk⟩
  have hb3 := hb2.trans (hk.mono hb2.size)
  have P3 := Lib.hid (P2.out.below hk)
  have B3 := Lib.hid (B2.out.below hk)
  have S3 := Lib.hid (S2.out.below hk)
  (try clear cS); (try clear lS); (try clear dS)
  clear hk P2 B2 S2 hb2
  have X3 := Lib.hid (show Bytes W3 x1 (if p.right then p.data else []) from hX)
  clear hX
  have cS := S3.out.cells
  have lS := S3.out.lt
  go_wp2_with fail
  refine (rdata_any _ p _ ⟨_, rfl, P3.out⟩).mono ?_
  rintro e W4 ⟨y1, rfl, hY, hk⟩
  have hb4 := hb3.trans (hk.mono hb3.size)
  have P4 := Lib.hid (P3.out.below hk)
  have B4 := Lib.hid (B3.out.below hk)
  have S4 := Lib.hid (S3.out.below hk)
  have X4 := Lib.hid (X3.out.below hk)
  (try clear cS); (try clear lS); (try clear dS)
  clear hk P3 B3 S3 X3 hb3
  have Y4 := Lib.hid (show Bytes W4 y1 (if p.right then p.data else []) from hY)
  clear hY
  have cS := S4.out.cells
  have lS := S4.out.lt
  go_wp2_with fail
  refine (unpack_any _ bs _ B4.out).mono ?_
  rintro e W5 ⟨UA, Uc, rfl, hU, hk⟩
  have hb5 := hb4.trans (hk.mono hb4.size)
  have P5 := Lib.hid (P4.out.below hk)
  have B5 := Lib.hid (B4.out.below hk)
  have S5 := Lib.hid (S4.out.below hk)
  have X5 := Lib.hid (X4.out.below hk)
  have Y5 := Lib.hid (Y4.out.below hk)
  (try clear cS); (try clear lS); (try clear dS)
  clear hk P4 B4 S4 X4 Y4 hb4
  have U5 := Lib.hid (show Ints .i64 W5 (.slice UA (unp bs).vals.length Uc) (unp bs).vals from hU)
  clear hU
  have cS := S5.out.cells
  have lS := S5.out.lt
  go_wp2_with fail
  refine calls_world (fun W6 => Below w.heap.size w W6 ∧ Ints .i64 W6 (.slice A p.vals.length c) p.vals ∧ Bytes W6 (.slice B bs.length d) bs ∧ Blk W6 w.heap.size 24 #[.int .i64 p.dev, .int .i64 p.chan, .int .i64 p.boot, .int .i64 p.seq, .int .i64 p.stamp, .slice A p.vals.length c] ∧ Bytes W6 x1 (if p.right then p.data else []) ∧ Bytes W6 y1 (if p.right then p.data else []) ∧ Ints .i64 W6 (.slice UA (unp bs).vals.length Uc) (unp bs).vals ∧ Blk W6 W5.heap.size 24 #[.int .i64 (unp bs).dev, .int .i64 (unp bs).chan, .int .i64 (unp bs).boot, .int .i64 (unp bs).seq, .int .i64 (unp bs).stamp, .slice UA (unp bs).vals.length Uc]) ⟨(hb5.trans ((show Below W5.heap.size W5 _ by go_grown).mono hb5.size)), (P5.out.below (by go_grown)), (B5.out.below (by go_grown)), (S5.out.below (by go_grown)), (X5.out.below (by go_grown)), (Y5.out.below (by go_grown)), (U5.out.below (by go_grown)), (Blk.new _ _ _ _ (by first | rfl | simp))⟩ fun W6 ⟨hb6, qP, qB, qS, qX, qY, qU, qT⟩ => ?_
  have P6 := Lib.hid qP
  have B6 := Lib.hid qB
  have S6 := Lib.hid qS
  have X6 := Lib.hid qX
  have Y6 := Lib.hid qY
  have U6 := Lib.hid qU
  have T6 := Lib.hid qT
  (try clear cS); (try clear lS); (try clear dS); (try clear cT); (try clear lT); (try clear dT)
  clear qP qB qS qX qY qU qT P5 B5 S5 X5 Y5 U5 hb5
  refine (runpack_any _ bs _ B6.out).mono ?_
  rintro e W7 ⟨VA, Vc, rfl, hV, hk⟩
  have hb7 := hb6.trans (hk.mono hb6.size)
  have P7 := Lib.hid (P6.out.below hk)
  have B7 := Lib.hid (B6.out.below hk)
  have S7 := Lib.hid (S6.out.below hk)
  have X7 := Lib.hid (X6.out.below hk)
  have Y7 := Lib.hid (Y6.out.below hk)
  have U7 := Lib.hid (U6.out.below hk)
  have T7 := Lib.hid (T6.out.below hk)
  (try clear cS); (try clear lS); (try clear dS); (try clear cT); (try clear lT); (try clear dT)
  clear hk P6 B6 S6 X6 Y6 U6 T6 hb6
  have V7 := Lib.hid (show Ints .i64 W7 (.slice VA (unp bs).vals.length Vc) (unp bs).vals from hV)
  clear hV
  have cS := S7.out.cells
  have lS := S7.out.lt
  have cT := T7.out.cells
  have lT := T7.out.lt
  go_wp2_with fail
  refine wp_world (fun W8 => Below w.heap.size w W8 ∧ Ints .i64 W8 (.slice A p.vals.length c) p.vals ∧ Bytes W8 (.slice B bs.length d) bs ∧ Blk W8 w.heap.size 24 #[.int .i64 p.dev, .int .i64 p.chan, .int .i64 p.boot, .int .i64 p.seq, .int .i64 p.stamp, .slice A p.vals.length c] ∧ Bytes W8 x1 (if p.right then p.data else []) ∧ Bytes W8 y1 (if p.right then p.data else []) ∧ Ints .i64 W8 (.slice UA (unp bs).vals.length Uc) (unp bs).vals ∧ Blk W8 W5.heap.size 24 #[.int .i64 (unp bs).dev, .int .i64 (unp bs).chan, .int .i64 (unp bs).boot, .int .i64 (unp bs).seq, .int .i64 (unp bs).stamp, .slice UA (unp bs).vals.length Uc] ∧ Ints .i64 W8 (.slice VA (unp bs).vals.length Vc) (unp bs).vals ∧ Blk W8 W7.heap.size 24 #[.int .i64 (unp bs).dev, .int .i64 (unp bs).chan, .int .i64 (unp bs).boot, .int .i64 (unp bs).seq, .int .i64 (unp bs).stamp, .slice VA (unp bs).vals.length Vc]) ⟨(hb7.trans ((show Below W7.heap.size W7 _ by go_grown).mono hb7.size)), (P7.out.below (by go_grown)), (B7.out.below (by go_grown)), (S7.out.below (by go_grown)), (X7.out.below (by go_grown)), (Y7.out.below (by go_grown)), (U7.out.below (by go_grown)), (T7.out.below (by go_grown)), (V7.out.below (by go_grown)), (Blk.new _ _ _ _ (by first | rfl | simp))⟩ fun W8 ⟨hb8, qP, qB, qS, qX, qY, qU, qT, qV, qO⟩ => ?_
  have P8 := Lib.hid qP
  have B8 := Lib.hid qB
  have S8 := Lib.hid qS
  have X8 := Lib.hid qX
  have Y8 := Lib.hid qY
  have U8 := Lib.hid qU
  have T8 := Lib.hid qT
  have V8 := Lib.hid qV
  have O8 := Lib.hid qO
  (try clear cS); (try clear lS); (try clear dS); (try clear cT); (try clear lT); (try clear dT); (try clear cO); (try clear lO); (try clear dO)
  clear qP qB qS qX qY qU qT qV qO P7 B7 S7 X7 Y7 U7 T7 V7 hb7
  have dS : ∀ w', Below W8.heap.size W8 w' → ∀ i, w'.cell? ⟨w.heap.size, i, none⟩ = (#[.int .i64 p.dev, .int .i64 p.chan, .int .i64 p.boot, .int .i64 p.seq, .int .i64 p.stamp, .slice A p.vals.length c] : Array Value)[i]? := fun w' hb i => by rw [hb.cell (p := ⟨w.heap.size, i, none⟩) S8.out.lt]; exact S8.out.cells i
  have dT : ∀ w', Below W8.heap.size W8 w' → ∀ i, w'.cell? ⟨W5.heap.size, i, none⟩ = (#[.int .i64 (unp bs).dev, .int .i64 (unp bs).chan, .int .i64 (unp bs).boot, .int .i64 (unp bs).seq, .int .i64 (unp bs).stamp, .slice UA (unp bs).vals.length Uc] : Array Value)[i]? := fun w' hb i => by rw [hb.cell (p := ⟨W5.heap.size, i, none⟩) T8.out.lt]; exact T8.out.cells i
  have dO : ∀ w', Below W8.heap.size W8 w' → ∀ i, w'.cell? ⟨W7.heap.size, i, none⟩ = (#[.int .i64 (unp bs).dev, .int .i64 (unp bs).chan, .int .i64 (unp bs).boot, .int .i64 (unp bs).seq, .int .i64 (unp bs).stamp, .slice VA (unp bs).vals.length Vc] : Array Value)[i]? := fun w' hb i => by rw [hb.cell (p := ⟨W7.heap.size, i, none⟩) O8.out.lt]; exact O8.out.cells i
  refine wp_region_held_drew (S := fun w' => Below W8.heap.size W8 w') (by kernel_rfl) (by go_grown) (fun hHeld => ?_)
  refine takeD 0 (some 45) (v := ?_) rfl rfl (by kernel_rfl) (by kernel_rfl) (by kernel_rfl) (fun _ _ _ h => h) (by rfl) ?_ (by assumption) ?_
  rotate_left
  · intro w hSw
    (try dsimp only at hSw)
    go_simp
    try with_reducible rfl
  try simp only [Act.put, List.setIfInBounds_toArray, List.set_cons_zero, List.set_cons_succ]
  refine takeD 1 (some 46) (v := ?_) rfl rfl (by kernel_rfl) (by kernel_rfl) (by kernel_rfl) (fun _ _ _ h => h) (by rfl) ?_ (by assumption) ?_
  rotate_left
  · intro w hSw
    (try dsimp only at hSw)
    go_simp
    try with_reducible rfl
  try simp only [Act.put, List.setIfInBounds_toArray, List.set_cons_zero, List.set_cons_succ]
  refine takeD 2 (some 47) (v := ?_) rfl rfl (by kernel_rfl) (by kernel_rfl) (by kernel_rfl) (fun _ _ _ h => h) (by rfl) ?_ (by assumption) ?_
  rotate_left
  · intro w hSw
    (try dsimp only at hSw)
    go_simp
    try with_reducible rfl
  try simp only [Act.put, List.setIfInBounds_toArray, List.set_cons_zero, List.set_cons_succ]
  refine takeD 4 (some 49) (v := ?_) rfl rfl (by kernel_rfl) (by kernel_rfl) (by kernel_rfl) (fun _ _ _ h => h) (by rfl) ?_ (by assumption) ?_
  rotate_left
  · intro w hSw
    (try dsimp only at hSw)
    go_simp
    try with_reducible rfl
  try simp only [Act.put, List.setIfInBounds_toArray, List.set_cons_zero, List.set_cons_succ]
  refine wpAnyH_ready (rs := [3]) (by kernel_rfl) (by simp) ?_
  refine AllReadyH.cons rfl (fun K hK => ?_) AllReadyH.nil
  rw [if_pos (by rfl)]
  go_simp
  go_at_call 14
  refine (right_any _ p _ ⟨_, rfl, P8.out.below hHeld⟩).mono ?_
  rintro e w1 ⟨rfl, hk⟩
  go_wp2_with fail
  refine hK.out _ _ ?_ (fun hHeld2 => ?_)
  · first | exact hHeld.trans (hk.mono hHeld.size) | (clear hK; have hz := hHeld.size; go_grown)
  clear hK K hHeld
  have hHeld := hHeld2
  clear hHeld2
  try clear hk
  try simp only [Act.put, List.setIfInBounds_toArray, List.set_cons_zero, List.set_cons_succ]
  refine wpAnyH_ready (rs := [5]) (by kernel_rfl) (by simp) ?_
  refine AllReadyH.cons rfl (fun K hK => ?_) AllReadyH.nil
  rw [if_pos (by rfl)]
  go_simp
  go_at_call 15
  refine (rright_any _ p _ ⟨_, rfl, P8.out.below hHeld⟩).mono ?_
  rintro e w1 ⟨rfl, hk⟩
  go_wp2_with fail
  refine hK.out _ _ ?_ (fun hHeld2 => ?_)
  · first | exact hHeld.trans (hk.mono hHeld.size) | (clear hK; have hz := hHeld.size; go_grown)
  clear hK K hHeld
  have hHeld := hHeld2
  clear hHeld2
  try clear hk
  try simp only [Act.put, List.setIfInBounds_toArray, List.set_cons_zero, List.set_cons_succ]
  refine takeD 6 (some 51) (v := ?_) rfl rfl (by kernel_rfl) (by kernel_rfl) (by kernel_rfl) (fun _ _ _ h => h) (by rfl) ?_ (by assumption) ?_
  rotate_left
  · intro w hSw
    (try dsimp only at hSw)
    go_simp
    try with_reducible rfl
  try simp only [Act.put, List.setIfInBounds_toArray, List.set_cons_zero, List.set_cons_succ]
  refine takeD 7 (some 52) (v := ?_) rfl rfl (by kernel_rfl) (by kernel_rfl) (by kernel_rfl) (fun _ _ _ h => h) (by rfl) ?_ (by assumption) ?_
  rotate_left
  · intro w hSw
    (try dsimp only at hSw)
    go_simp
    try with_reducible rfl
  try simp only [Act.put, List.setIfInBounds_toArray, List.set_cons_zero, List.set_cons_succ]
  refine takeD 8 (some 53) (v := ?_) rfl rfl (by kernel_rfl) (by kernel_rfl) (by kernel_rfl) (fun _ _ _ h => h) (by rfl) ?_ (by assumption) ?_
  rotate_left
  · intro w hSw
    (try dsimp only at hSw)
    go_simp
    try with_reducible rfl
  try simp only [Act.put, List.setIfInBounds_toArray, List.set_cons_zero, List.set_cons_succ]
  refine takeD 9 (some 54) (v := ?_) rfl rfl (by kernel_rfl) (by kernel_rfl) (by kernel_rfl) (fun _ _ _ h => h) (by rfl) ?_ (by assumption) ?_
  rotate_left
  · intro w hSw
    (try dsimp only at hSw)
    go_simp
    try with_reducible rfl
  try simp only [Act.put, List.setIfInBounds_toArray, List.set_cons_zero, List.set_cons_succ]
  refine takeD 10 (some 55) (v := ?_) rfl rfl (by kernel_rfl) (by kernel_rfl) (by kernel_rfl) (fun _ _ _ h => h) (by rfl) ?_ (by assumption) ?_
  rotate_left
  · intro w hSw
    (try dsimp only at hSw)
    go_simp
    try with_reducible rfl
  try simp only [Act.put, List.setIfInBounds_toArray, List.set_cons_zero, List.set_cons_succ]
  refine wpAnyH_ready (rs := [11]) (by kernel_rfl) (by simp) ?_
  refine AllReadyH.cons rfl (fun K hK => ?_) AllReadyH.nil
  rw [if_pos (by rfl)]
  go_simp
  go_at_call 16
  refine (same_any _ _ (if p.right then p.data else []) (if p.right then p.data else []) _ (X8.out.below hHeld) (Y8.out.below hHeld)).mono ?_
  rintro e w1 ⟨rfl, rfl⟩
  rw [show decide ((if p.right then p.data else []) = (if p.right then p.data else [])) = true from decide_eq_true rfl]
  go_wp2_with fail
  refine hK.out _ _ ?_ (fun hHeld2 => ?_)
  · first | exact hHeld.trans (hk.mono hHeld.size) | (clear hK; have hz := hHeld.size; go_grown)
  clear hK K hHeld
  have hHeld := hHeld2
  clear hHeld2
  try clear hk
  try simp only [Act.put, List.setIfInBounds_toArray, List.set_cons_zero, List.set_cons_succ]
  refine takeD 12 (some 57) (v := ?_) rfl rfl (by kernel_rfl) (by kernel_rfl) (by kernel_rfl) (fun _ _ _ h => h) (by rfl) ?_ (by assumption) ?_
  rotate_left
  · intro w hSw
    (try dsimp only at hSw)
    go_simp
    try with_reducible rfl
  try simp only [Act.put, List.setIfInBounds_toArray, List.set_cons_zero, List.set_cons_succ]
  refine takeD 13 (some 58) (v := ?_) rfl rfl (by kernel_rfl) (by kernel_rfl) (by kernel_rfl) (fun _ _ _ h => h) (by rfl) ?_ (by assumption) ?_
  rotate_left
  · intro w hSw
    (try dsimp only at hSw)
    go_simp
    try with_reducible rfl
  try simp only [Act.put, List.setIfInBounds_toArray, List.set_cons_zero, List.set_cons_succ]
  refine takeD 14 (some 59) (v := ?_) rfl rfl (by kernel_rfl) (by kernel_rfl) (by kernel_rfl) (fun _ _ _ h => h) (by rfl) ?_ (by assumption) ?_
  rotate_left
  · intro w hSw
    (try dsimp only at hSw)
    go_simp
    try with_reducible rfl
  try simp only [Act.put, List.setIfInBounds_toArray, List.set_cons_zero, List.set_cons_succ]
  refine takeD 15 (some 60) (v := ?_) rfl rfl (by kernel_rfl) (by kernel_rfl) (by kernel_rfl) (fun _ _ _ h => h) (by rfl) ?_ (by assumption) ?_
  rotate_left
  · intro w hSw
    (try dsimp only at hSw)
    go_simp
    try with_reducible rfl
  try simp only [Act.put, List.setIfInBounds_toArray, List.set_cons_zero, List.set_cons_succ]
  refine takeD 16 (some 61) (v := ?_) rfl rfl (by kernel_rfl) (by kernel_rfl) (by kernel_rfl) (fun _ _ _ h => h) (by rfl) ?_ (by assumption) ?_
  rotate_left
  · intro w hSw
    (try dsimp only at hSw)
    go_simp
    try with_reducible rfl
  try simp only [Act.put, List.setIfInBounds_toArray, List.set_cons_zero, List.set_cons_succ]
  refine takeD 17 (some 62) (v := ?_) rfl rfl (by kernel_rfl) (by kernel_rfl) (by kernel_rfl) (fun _ _ _ h => h) (by rfl) ?_ (by assumption) ?_
  rotate_left
  · intro w hSw
    (try dsimp only at hSw)
    go_simp
    try with_reducible rfl
  try simp only [Act.put, List.setIfInBounds_toArray, List.set_cons_zero, List.set_cons_succ]
  refine takeD 18 (some 63) (v := ?_) rfl rfl (by kernel_rfl) (by kernel_rfl) (by kernel_rfl) (fun _ _ _ h => h) (by rfl) ?_ (by assumption) ?_
  rotate_left
  · intro w hSw
    (try dsimp only at hSw)
    go_simp
    try with_reducible rfl
  try simp only [Act.put, List.setIfInBounds_toArray, List.set_cons_zero, List.set_cons_succ]
  refine takeD 19 (some 64) (v := ?_) rfl rfl (by kernel_rfl) (by kernel_rfl) (by kernel_rfl) (fun _ _ _ h => h) (by rfl) ?_ (by assumption) ?_
  rotate_left
  · intro w hSw
    (try dsimp only at hSw)
    go_simp
    try with_reducible rfl
  try simp only [Act.put, List.setIfInBounds_toArray, List.set_cons_zero, List.set_cons_succ]
  refine takeD 20 (some 65) (v := ?_) rfl rfl (by kernel_rfl) (by kernel_rfl) (by kernel_rfl) (fun _ _ _ h => h) (by rfl) ?_ (by assumption) ?_
  rotate_left
  · intro w hSw
    (try dsimp only at hSw)
    go_simp
    try with_reducible rfl
  try simp only [Act.put, List.setIfInBounds_toArray, List.set_cons_zero, List.set_cons_succ]
  refine wpAnyH_ready (rs := [21]) (by kernel_rfl) (by simp) ?_
  refine AllReadyH.cons rfl (fun K hK => ?_) AllReadyH.nil
  rw [if_pos (by rfl)]
  go_simp
  go_at_call 17
  refine (same_pk _ _ (unp bs) (unp bs) _ ⟨_, rfl, U8.out.below hHeld⟩ ⟨_, rfl, V8.out.below hHeld⟩).mono ?_
  rintro e w1 ⟨rfl, hk⟩
  rw [show decide (unp bs = unp bs) = true from decide_eq_true rfl]
  go_wp2_with fail
  refine hK.out _ _ ?_ (fun hHeld2 => ?_)
  · first | exact hHeld.trans (hk.mono hHeld.size) | (clear hK; have hz := hHeld.size; go_grown)
  clear hK K hHeld
  have hHeld := hHeld2
  clear hHeld2
  try clear hk
  try simp only [Act.put, List.setIfInBounds_toArray, List.set_cons_zero, List.set_cons_succ]
  refine takeD 22 (some 67) (v := ?_) rfl rfl (by kernel_rfl) (by kernel_rfl) (by kernel_rfl) (fun _ _ _ h => h) (by rfl) ?_ (by assumption) ?_
  rotate_left
  · intro w hSw
    (try dsimp only at hSw)
    go_simp
    try with_reducible rfl
  try simp only [Act.put, List.setIfInBounds_toArray, List.set_cons_zero, List.set_cons_succ]
  refine takeD 23 (some 68) (v := ?_) rfl rfl (by kernel_rfl) (by kernel_rfl) (by kernel_rfl) (fun _ _ _ h => h) (by rfl) ?_ (by assumption) ?_
  rotate_left
  · intro w hSw
    (try dsimp only at hSw)
    go_simp
    try with_reducible rfl
  try simp only [Act.put, List.setIfInBounds_toArray, List.set_cons_zero, List.set_cons_succ]
  refine takeD 24 (some 69) (v := ?_) rfl rfl (by kernel_rfl) (by kernel_rfl) (by kernel_rfl) (fun _ _ _ h => h) (by rfl) ?_ (by assumption) ?_
  rotate_left
  · intro w hSw
    (try dsimp only at hSw)
    go_simp
    try with_reducible rfl
  try simp only [Act.put, List.setIfInBounds_toArray, List.set_cons_zero, List.set_cons_succ]
  refine takeD 25 (some 70) (v := ?_) rfl rfl (by kernel_rfl) (by kernel_rfl) (by kernel_rfl) (fun _ _ _ h => h) (by rfl) ?_ (by assumption) ?_
  rotate_left
  · intro w hSw
    (try dsimp only at hSw)
    go_simp
    try with_reducible rfl
  try simp only [Act.put, List.setIfInBounds_toArray, List.set_cons_zero, List.set_cons_succ]
  refine takeD 26 (some 71) (v := ?_) rfl rfl (by kernel_rfl) (by kernel_rfl) (by kernel_rfl) (fun _ _ _ h => h) (by rfl) ?_ (by assumption) ?_
  rotate_left
  · intro w hSw
    (try dsimp only at hSw)
    go_simp
    try with_reducible rfl
  try simp only [Act.put, List.setIfInBounds_toArray, List.set_cons_zero, List.set_cons_succ]
  refine takeD 27 (some 72) (v := ?_) rfl rfl (by kernel_rfl) (by kernel_rfl) (by kernel_rfl) (fun _ _ _ h => h) (by rfl) ?_ (by assumption) ?_
  rotate_left
  · intro w hSw
    (try dsimp only at hSw)
    go_simp
    try with_reducible rfl
  try simp only [Act.put, List.setIfInBounds_toArray, List.set_cons_zero, List.set_cons_succ]
  refine takeD 28 (some 4) (v := ?_) rfl rfl (by kernel_rfl) (by kernel_rfl) (by kernel_rfl) (fun _ _ _ h => h) (by rfl) ?_ (by assumption) ?_
  rotate_left
  · intro w hSw
    (try dsimp only at hSw)
    go_simp
    try with_reducible rfl
  try simp only [Act.put, List.setIfInBounds_toArray, List.set_cons_zero, List.set_cons_succ]
  refine wpAnyH_done (by kernel_rfl) ?_ _
  go_wp2
  go_ret
  exact ⟨by first | rfl | simp, hb8.trans (hHeld.mono hb8.size)⟩
end Go.Proofs.Ytnimialdccbdfaa
