/- Layer 4: laws, walked. -/
import Derived.Test.YtnimialdccbdfaaPackN
namespace Go.Proofs.Ytnimialdccbdfaa
open Go.ChangeShapes Go.WideShapes Go.ChangeAt Go.RowKit Go.Deep
set_option linter.unusedVariables false
set_option linter.unusedSimpArgs false

theorem rb0 {p : Pk} (hp : p.right) (x : Int) : ({ p with dev := x } : Pk).right ↔ 0 ≤ x ∧ x ≤ 255 :=
  ⟨fun h => h.1.1, fun ⟨h1, h2⟩ => ⟨⟨⟨h1, h2⟩, hp.1.2.1, hp.1.2.2.1, hp.1.2.2.2.1, hp.1.2.2.2.2⟩, hp.2⟩⟩
theorem rb1 {p : Pk} (hp : p.right) (x : Int) : ({ p with chan := x } : Pk).right ↔ 0 ≤ x ∧ x ≤ 255 :=
  ⟨fun h => h.1.2.1, fun ⟨h1, h2⟩ => ⟨⟨hp.1.1, ⟨h1, h2⟩, hp.1.2.2.1, hp.1.2.2.2.1, hp.1.2.2.2.2⟩, hp.2⟩⟩
theorem rb2 {p : Pk} (hp : p.right) (x : Int) : ({ p with boot := x } : Pk).right ↔ 0 ≤ x ∧ x ≤ 255 :=
  ⟨fun h => h.1.2.2.1, fun ⟨h1, h2⟩ => ⟨⟨hp.1.1, hp.1.2.1, ⟨h1, h2⟩, hp.1.2.2.2.1, hp.1.2.2.2.2⟩, hp.2⟩⟩
theorem rb3 {p : Pk} (hp : p.right) (x : Int) : ({ p with seq := x } : Pk).right ↔ 0 ≤ x ∧ x ≤ 65535 :=
  ⟨fun h => h.1.2.2.2.1, fun ⟨h1, h2⟩ => ⟨⟨hp.1.1, hp.1.2.1, hp.1.2.2.1, ⟨h1, h2⟩, hp.1.2.2.2.2⟩, hp.2⟩⟩
theorem rb4 {p : Pk} (hp : p.right) (x : Int) : ({ p with stamp := x } : Pk).right ↔ 0 ≤ x ∧ x ≤ 1099511627775 :=
  ⟨fun h => h.1.2.2.2.2, fun ⟨h1, h2⟩ => ⟨⟨hp.1.1, hp.1.2.1, hp.1.2.2.1, hp.1.2.2.2.1, ⟨h1, h2⟩⟩, hp.2⟩⟩
theorem rb5 {p : Pk} (hp : p.right) (x : Int) : ({ p with vals := p.vals.set 0 x } : Pk).right ↔ -32768 ≤ x ∧ x ≤ 32767 := by
  have hl := hp.2.1
  constructor
  · intro h
    exact h.2.2 x (List.mem_of_getElem? (i := 0) (by show (p.vals.set 0 x)[0]? = some x; rw [List.getElem?_set_self (by omega)]))
  · intro h
    refine ⟨hp.1, by simpa using hl, fun z hz => ?_⟩
    rcases List.mem_or_eq_of_mem_set hz with h1 | h1
    · exact hp.2.2 z h1
    · subst h1; exact h
theorem own_some {w : World} {base : Nat} {e : TypeId} {v : Value} {n : Nat} {xs : List Value} (h : w.ownsRow base e 1 v n xs) (h0 : 0 < n) : ∃ g c, v = .slice (some ⟨g, 0, none⟩) n c ∧ base ≤ g := by
  obtain ⟨h1, h2⟩ := h
  rcases h2 with ⟨rfl, rfl⟩ | ⟨g, cap, cur, hv, hb, _⟩
  · omega
  · exact ⟨_, _, hv, hb⟩
set_option maxRecDepth 100000 in
set_option maxHeartbeats 400000 in
theorem walk_PackBounds (v : Value) (p : Pk) (m x : Int) (w : World) (h0 : PkV w v p) (h1 : (Lit.int .u8 m).wf = true) (h2 : (Lit.int .i64 x).wf = true) :
    Calls Try.prog 7 #[v, .int .u8 m, .int .i64 x] w fun e w' => e = .returned (.bool true) ∧ Below w.heap.size w w' := by
  obtain ⟨vs, rfl, hIP⟩ := h0
  obtain ⟨A, c, hsP, hcP, hcmP, _⟩ := hIP.shape
  subst hsP
  have hlzP : ((p.vals.length : Nat) : Int) ≤ 9223372036854775807 := by unfold maxLen at hcmP; omega
  have P0 := Lib.hid hIP
  clear hIP hcmP hcP
  have hm8 := bounds_u8 h1
  have hx64 := bounds_i64 h2
  clear h1
  have HPw := Lib.hid P0.out
  go_enter Try.func7, Try.ntmps7
  go_wp2_with fail
  refine calls_world (fun W1 => Below w.heap.size w W1 ∧ Ints .i64 W1 (.slice A p.vals.length c) p.vals ∧ Blk W1 w.heap.size 24 #[.int .i64 p.dev, .int .i64 p.chan, .int .i64 p.boot, .int .i64 p.seq, .int .i64 p.stamp, .slice A p.vals.length c]) ⟨(by go_grown), (P0.out.below (by go_grown)), (Blk.new _ _ _ _ (by first | rfl | simp))⟩ fun W1 ⟨hb1, qP, qS⟩ => ?_
  have P1 := Lib.hid qP
  have S1 := Lib.hid qS
  (try clear cS); (try clear lS); (try clear dS)
  clear qP qS P0
  refine (head_any _).mono ?_
  rintro e W2 ⟨rfl, hk⟩
  have hb2 := hb1.trans (hk.mono hb1.size)
  have P2 := Lib.hid (P1.out.below hk)
  have S2 := Lib.hid (S1.out.below hk)
  (try clear cS); (try clear lS); (try clear dS)
  clear hk P1 S1 hb1
  have cS := S2.out.cells
  have lS := S2.out.lt
  by_cases hbp : 100 < p.vals.length
  · have g1 : decide (((p.vals.length : Nat) : Int) > 100) = true := decide_eq_true (by omega)
    go_wp2
    go_ret
    exact ⟨by first | rfl | simp, hb2⟩
  have g1 : decide (((p.vals.length : Nat) : Int) > 100) = false := decide_eq_false (by omega)
  go_wp2_with fail
  refine (right_any _ p _ ⟨_, rfl, P2.out⟩).mono ?_
  rintro e W3 ⟨rfl, hk⟩
  have hb3 := hb2.trans (hk.mono hb2.size)
  have P3 := Lib.hid (P2.out.below hk)
  have S3 := Lib.hid (S2.out.below hk)
  (try clear cS); (try clear lS); (try clear dS)
  clear hk P2 S2 hb2
  have cS := S3.out.cells
  have lS := S3.out.lt
  by_cases hp : p.right
  rotate_left
  · rw [show decide p.right = false from decide_eq_false hp]
    go_wp2
    go_ret
    exact ⟨by first | rfl | simp, hb3⟩
  rw [show decide p.right = true from decide_eq_true hp]
  have hp2 := hp.2.1
  have HP := Lib.hid hp
  clear hp
  go_wp2_with (at_builtin; refine wpList_app el64 rfl (.tmp 23) (.tmp 25) rfl (W3.heap.size + 1) _ 0 [] rfl (own_empty _ _ _ _ (by simp) (by simp)) _ (p.vals.map (.int .i64)) rfl ((P3.out.below (((Below.refl _ _).alloc (Nat.le_refl _) _).alloc (by simp) _)).1) (one_ints _ _) ?_ ?_ ?_ ?_)
  case refine_1 => rw [List.length_map]; unfold maxLen; omega
  case refine_2 => rw [List.length_map]; omega
  case refine_3 => simp
  intro va wa owna hga _
  have hba : Below W3.heap.size W3 wa := (((Below.refl _ _).alloc (Nat.le_refl _) _).alloc (by simp) _).grown hga (by simp; omega) (by simp [Value.ownBlock])
  have TB : Blk wa W3.heap.size 24 #[.int .i64 p.dev, .int .i64 p.chan, .int .i64 p.boot, .int .i64 p.seq, .int .i64 p.stamp, .slice A p.vals.length c] := ((Blk.new W3 24 #[.int .i64 p.dev, .int .i64 p.chan, .int .i64 p.boot, .int .i64 p.seq, .int .i64 p.stamp, .slice A p.vals.length c] _ rfl).al (.cells #[] 3)).keep ((Below.refl ((W3.heap.size + 1)) _).grown hga (by simp) (by simp [Value.ownBlock])) (Nat.lt_succ_self _)
  have ownb : wa.ownsRow (W3.heap.size + 1) 3 1 va p.vals.length (p.vals.map (.int .i64)) := by simpa using owna
  clear owna hga
  obtain ⟨g, cb, hvb, hgW⟩ := own_some ownb (by omega)
  subst hvb
  have SB := S3.out.below hba
  have cT := TB.cells
  have fT := TB.froz
  have lT := TB.lt
  clear cS
  have cS := SB.cells
  have lSb := SB.lt
  have ne1 : w.heap.size ≠ W3.heap.size := by omega
  have ne2 : W3.heap.size ≠ w.heap.size := by omega
  have hWs := hb3.size
  have hcg : wa.cell? ⟨g, 0, none⟩ = some (.int .i64 (p.vals.getD 0 0)) := by
    rw [ownb.cellAt 0 (by omega), List.getElem?_map, List.getD_eq_getElem?_getD, List.getElem?_eq_getElem (show 0 < p.vals.length by omega)]; rfl
  have hfg := ownb.frozenAt 0
  have ne3 : g ≠ W3.heap.size := by omega
  have ne4 : W3.heap.size ≠ g := by omega
  have hOB := Lib.hid ownb
  have hTB := Lib.hid TB
  have hl0 : 0 < p.vals.length := by omega
  have hba9 : Below w.heap.size w wa := hb3.trans (hba.mono hb3.size)
  clear ownb TB SB hba
  rcases (by omega : m % 6 = 0 ∨ m % 6 = 1 ∨ m % 6 = 2 ∨ m % 6 = 3 ∨ m % 6 = 4 ∨ m % 6 = 5) with hm6 | hm6 | hm6 | hm6 | hm6 | hm6
  · go_wp2_with fail
    have hR := Row.of_own (own_setO (own_setO hOB.out (T := W3.heap.size) (i := 5) (u := .slice (some ⟨g, 0, none⟩) p.vals.length cb) (by omega)) (T := W3.heap.size) (i := 0) (u := .int .i64 x) (by omega))
    refine (right_any _ ({ p with dev := x } : Pk) _ ⟨_, rfl, ⟨by simpa using hR, HPw.out.2⟩⟩).mono ?_
    rintro e W9 ⟨rfl, hk⟩
    have hb9 : Below w.heap.size w W9 := ((hba9.setCell (by show w.heap.size ≤ W3.heap.size; omega) _).setCell (by show w.heap.size ≤ W3.heap.size; omega) _).trans (hk.mono (by have := hba9.size; simpa [World.setCell] using this))
    have hrb := rb0 HP.out x
    clear hk hR
    by_cases c1 : x < 0
    · have e1 : decide (({ p with dev := x } : Pk).right) = false := decide_eq_false (fun h => by have := hrb.1 h; omega)
      have e2 : decide (x ≥ 0) = false := decide_eq_false (by omega)
      rw [e1]
      clear e1 hrb
      go_wp2
      go_ret
      exact ⟨by first | rfl | simp, hb9⟩
    by_cases c2 : 255 < x
    · have e1 : decide (({ p with dev := x } : Pk).right) = false := decide_eq_false (fun h => by have := hrb.1 h; omega)
      have e2 : decide (x ≥ 0) = true := decide_eq_true (by omega)
      have e3 : decide (x ≤ 255) = false := decide_eq_false (by omega)
      rw [e1]
      clear e1 hrb
      go_wp2
      go_ret
      exact ⟨by first | rfl | simp, hb9⟩
    have e1 : decide (({ p with dev := x } : Pk).right) = true := decide_eq_true (hrb.2 (by omega))
    have e2 : decide (x ≥ 0) = true := decide_eq_true (by omega)
    have e3 : decide (x ≤ 255) = true := decide_eq_true (by omega)
    rw [e1]
    clear e1 hrb
    go_wp2
    go_ret
    exact ⟨by first | rfl | simp, hb9⟩
  · go_wp2_with fail
    have hR := Row.of_own (own_setO (own_setO hOB.out (T := W3.heap.size) (i := 5) (u := .slice (some ⟨g, 0, none⟩) p.vals.length cb) (by omega)) (T := W3.heap.size) (i := 1) (u := .int .i64 x) (by omega))
    refine (right_any _ ({ p with chan := x } : Pk) _ ⟨_, rfl, ⟨by simpa using hR, HPw.out.2⟩⟩).mono ?_
    rintro e W9 ⟨rfl, hk⟩
    have hb9 : Below w.heap.size w W9 := ((hba9.setCell (by show w.heap.size ≤ W3.heap.size; omega) _).setCell (by show w.heap.size ≤ W3.heap.size; omega) _).trans (hk.mono (by have := hba9.size; simpa [World.setCell] using this))
    have hrb := rb1 HP.out x
    clear hk hR
    by_cases c1 : x < 0
    · have e1 : decide (({ p with chan := x } : Pk).right) = false := decide_eq_false (fun h => by have := hrb.1 h; omega)
      have e2 : decide (x ≥ 0) = false := decide_eq_false (by omega)
      rw [e1]
      clear e1 hrb
      go_wp2
      go_ret
      exact ⟨by first | rfl | simp, hb9⟩
    by_cases c2 : 255 < x
    · have e1 : decide (({ p with chan := x } : Pk).right) = false := decide_eq_false (fun h => by have := hrb.1 h; omega)
      have e2 : decide (x ≥ 0) = true := decide_eq_true (by omega)
      have e3 : decide (x ≤ 255) = false := decide_eq_false (by omega)
      rw [e1]
      clear e1 hrb
      go_wp2
      go_ret
      exact ⟨by first | rfl | simp, hb9⟩
    have e1 : decide (({ p with chan := x } : Pk).right) = true := decide_eq_true (hrb.2 (by omega))
    have e2 : decide (x ≥ 0) = true := decide_eq_true (by omega)
    have e3 : decide (x ≤ 255) = true := decide_eq_true (by omega)
    rw [e1]
    clear e1 hrb
    go_wp2
    go_ret
    exact ⟨by first | rfl | simp, hb9⟩
  · go_wp2_with fail
    have hR := Row.of_own (own_setO (own_setO hOB.out (T := W3.heap.size) (i := 5) (u := .slice (some ⟨g, 0, none⟩) p.vals.length cb) (by omega)) (T := W3.heap.size) (i := 2) (u := .int .i64 x) (by omega))
    refine (right_any _ ({ p with boot := x } : Pk) _ ⟨_, rfl, ⟨by simpa using hR, HPw.out.2⟩⟩).mono ?_
    rintro e W9 ⟨rfl, hk⟩
    have hb9 : Below w.heap.size w W9 := ((hba9.setCell (by show w.heap.size ≤ W3.heap.size; omega) _).setCell (by show w.heap.size ≤ W3.heap.size; omega) _).trans (hk.mono (by have := hba9.size; simpa [World.setCell] using this))
    have hrb := rb2 HP.out x
    clear hk hR
    by_cases c1 : x < 0
    · have e1 : decide (({ p with boot := x } : Pk).right) = false := decide_eq_false (fun h => by have := hrb.1 h; omega)
      have e2 : decide (x ≥ 0) = false := decide_eq_false (by omega)
      rw [e1]
      clear e1 hrb
      go_wp2
      go_ret
      exact ⟨by first | rfl | simp, hb9⟩
    by_cases c2 : 255 < x
    · have e1 : decide (({ p with boot := x } : Pk).right) = false := decide_eq_false (fun h => by have := hrb.1 h; omega)
      have e2 : decide (x ≥ 0) = true := decide_eq_true (by omega)
      have e3 : decide (x ≤ 255) = false := decide_eq_false (by omega)
      rw [e1]
      clear e1 hrb
      go_wp2
      go_ret
      exact ⟨by first | rfl | simp, hb9⟩
    have e1 : decide (({ p with boot := x } : Pk).right) = true := decide_eq_true (hrb.2 (by omega))
    have e2 : decide (x ≥ 0) = true := decide_eq_true (by omega)
    have e3 : decide (x ≤ 255) = true := decide_eq_true (by omega)
    rw [e1]
    clear e1 hrb
    go_wp2
    go_ret
    exact ⟨by first | rfl | simp, hb9⟩
  · go_wp2_with fail
    have hR := Row.of_own (own_setO (own_setO hOB.out (T := W3.heap.size) (i := 5) (u := .slice (some ⟨g, 0, none⟩) p.vals.length cb) (by omega)) (T := W3.heap.size) (i := 3) (u := .int .i64 x) (by omega))
    refine (right_any _ ({ p with seq := x } : Pk) _ ⟨_, rfl, ⟨by simpa using hR, HPw.out.2⟩⟩).mono ?_
    rintro e W9 ⟨rfl, hk⟩
    have hb9 : Below w.heap.size w W9 := ((hba9.setCell (by show w.heap.size ≤ W3.heap.size; omega) _).setCell (by show w.heap.size ≤ W3.heap.size; omega) _).trans (hk.mono (by have := hba9.size; simpa [World.setCell] using this))
    have hrb := rb3 HP.out x
    clear hk hR
    by_cases c1 : x < 0
    · have e1 : decide (({ p with seq := x } : Pk).right) = false := decide_eq_false (fun h => by have := hrb.1 h; omega)
      have e2 : decide (x ≥ 0) = false := decide_eq_false (by omega)
      rw [e1]
      clear e1 hrb
      go_wp2
      go_ret
      exact ⟨by first | rfl | simp, hb9⟩
    by_cases c2 : 65535 < x
    · have e1 : decide (({ p with seq := x } : Pk).right) = false := decide_eq_false (fun h => by have := hrb.1 h; omega)
      have e2 : decide (x ≥ 0) = true := decide_eq_true (by omega)
      have e3 : decide (x ≤ 65535) = false := decide_eq_false (by omega)
      rw [e1]
      clear e1 hrb
      go_wp2
      go_ret
      exact ⟨by first | rfl | simp, hb9⟩
    have e1 : decide (({ p with seq := x } : Pk).right) = true := decide_eq_true (hrb.2 (by omega))
    have e2 : decide (x ≥ 0) = true := decide_eq_true (by omega)
    have e3 : decide (x ≤ 65535) = true := decide_eq_true (by omega)
    rw [e1]
    clear e1 hrb
    go_wp2
    go_ret
    exact ⟨by first | rfl | simp, hb9⟩
  · go_wp2_with fail
    have hR := Row.of_own (own_setO (own_setO hOB.out (T := W3.heap.size) (i := 5) (u := .slice (some ⟨g, 0, none⟩) p.vals.length cb) (by omega)) (T := W3.heap.size) (i := 4) (u := .int .i64 x) (by omega))
    refine (right_any _ ({ p with stamp := x } : Pk) _ ⟨_, rfl, ⟨by simpa using hR, HPw.out.2⟩⟩).mono ?_
    rintro e W9 ⟨rfl, hk⟩
    have hb9 : Below w.heap.size w W9 := ((hba9.setCell (by show w.heap.size ≤ W3.heap.size; omega) _).setCell (by show w.heap.size ≤ W3.heap.size; omega) _).trans (hk.mono (by have := hba9.size; simpa [World.setCell] using this))
    have hrb := rb4 HP.out x
    clear hk hR
    by_cases c1 : x < 0
    · have e1 : decide (({ p with stamp := x } : Pk).right) = false := decide_eq_false (fun h => by have := hrb.1 h; omega)
      have e2 : decide (x ≥ 0) = false := decide_eq_false (by omega)
      rw [e1]
      clear e1 hrb
      go_wp2
      go_ret
      exact ⟨by first | rfl | simp, hb9⟩
    by_cases c2 : 1099511627775 < x
    · have e1 : decide (({ p with stamp := x } : Pk).right) = false := decide_eq_false (fun h => by have := hrb.1 h; omega)
      have e2 : decide (x ≥ 0) = true := decide_eq_true (by omega)
      have e3 : decide (x ≤ 1099511627775) = false := decide_eq_false (by omega)
      rw [e1]
      clear e1 hrb
      go_wp2
      go_ret
      exact ⟨by first | rfl | simp, hb9⟩
    have e1 : decide (({ p with stamp := x } : Pk).right) = true := decide_eq_true (hrb.2 (by omega))
    have e2 : decide (x ≥ 0) = true := decide_eq_true (by omega)
    have e3 : decide (x ≤ 1099511627775) = true := decide_eq_true (by omega)
    rw [e1]
    clear e1 hrb
    go_wp2
    go_ret
    exact ⟨by first | rfl | simp, hb9⟩
  · go_wp2_with fail
    have hR := Row.of_own ((own_setO hOB.out (T := W3.heap.size) (i := 5) (u := .slice (some ⟨g, 0, none⟩) p.vals.length cb) (by omega)).stored 0 (.int .i64 x)).1
    have hRI : Ints .i64 ((wa.setCell ⟨W3.heap.size, 5, none⟩ (.slice (some ⟨g, 0, none⟩) p.vals.length cb)).setCell ⟨g, 0, none⟩ (.int .i64 x)) (.slice (some ⟨g, 0, none⟩) p.vals.length cb) (p.vals.set 0 x) := ⟨by rw [List.map_set]; simpa using hR, fun z hz => by
      rcases List.mem_or_eq_of_mem_set hz with h1 | h1
      · exact HPw.out.2 z h1
      · rw [h1]; exact h2⟩
    refine (right_any _ ({ p with vals := p.vals.set 0 x } : Pk) _ ⟨_, rfl, hRI⟩).mono ?_
    rintro e W9 ⟨rfl, hk⟩
    have hb9 : Below w.heap.size w W9 := ((hba9.setCell (by show w.heap.size ≤ W3.heap.size; omega) _).setCell (by show w.heap.size ≤ g; omega) _).trans (hk.mono (by have := hba9.size; simpa [World.setCell] using this))
    have hrb := rb5 HP.out x
    clear hk hR hRI
    by_cases c1 : x < -32768
    · have e1 : decide (({ p with vals := p.vals.set 0 x } : Pk).right) = false := decide_eq_false (fun h => by have := hrb.1 h; omega)
      have e2 : decide (x ≥ -32768) = false := decide_eq_false (by omega)
      rw [e1]
      clear e1 hrb
      go_wp2
      go_ret
      exact ⟨by first | rfl | simp, hb9⟩
    by_cases c2 : 32767 < x
    · have e1 : decide (({ p with vals := p.vals.set 0 x } : Pk).right) = false := decide_eq_false (fun h => by have := hrb.1 h; omega)
      have e2 : decide (x ≥ -32768) = true := decide_eq_true (by omega)
      have e3 : decide (x ≤ 32767) = false := decide_eq_false (by omega)
      rw [e1]
      clear e1 hrb
      go_wp2
      go_ret
      exact ⟨by first | rfl | simp, hb9⟩
    have e1 : decide (({ p with vals := p.vals.set 0 x } : Pk).right) = true := decide_eq_true (hrb.2 (by omega))
    have e2 : decide (x ≥ -32768) = true := decide_eq_true (by omega)
    have e3 : decide (x ≤ 32767) = true := decide_eq_true (by omega)
    rw [e1]
    clear e1 hrb
    go_wp2
    go_ret
    exact ⟨by first | rfl | simp, hb9⟩
end Go.Proofs.Ytnimialdccbdfaa
