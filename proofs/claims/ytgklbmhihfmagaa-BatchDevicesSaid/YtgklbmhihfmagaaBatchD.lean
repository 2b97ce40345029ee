/- Layer 14: comparing. -/
import Derived.Test.YtgklbmhihfmagaaBatchA
import Derived.Sort.Grow
import Derived.Deep.QuietTactic
import Derived.BigQuiet
namespace Go.Proofs.Ytgklbmhihfmagaa
open Go.ChangeShapes Go.WideShapes Go.ChangeAt Go.RowKit Go.Deep
set_option linter.unusedVariables false
set_option linter.unusedSimpArgs false

/-- a string's bytes, as numbers -/
def bl (s : ByteArray) : List Int := s.toList.map fun u => (u.toNat : Int)
theorem bytesLess_iff : ∀ (l m : List UInt8), Op.bytesLess l m = decide ((l.map fun u => (u.toNat : Int)) < m.map fun u => (u.toNat : Int)) := by
  intro l
  induction l with
  | nil => intro m; cases m <;> simp [Op.bytesLess]
  | cons a l ih =>
    intro m
    cases m with
    | nil => simp [Op.bytesLess]
    | cons b m =>
      simp only [Op.bytesLess, List.map_cons]
      rw [ih]
      rw [Bool.eq_iff_iff]
      simp [List.cons_lt_cons_iff, UInt8.lt_iff_toNat_lt, ← UInt8.toNat_inj]
      exact ⟨fun h => h.imp id fun h => ⟨by omega, h.2⟩, fun h => h.imp id fun h => ⟨by omega, h.2⟩⟩
theorem bl_bstr (bs : List Int) (h : ∀ x ∈ bs, 0 ≤ x ∧ x ≤ 255) : bl (bstr bs) = bs := by
  unfold bl
  rw [toList_data, bstr_data, List.map_map]
  conv => rhs; rw [← List.map_id bs]
  apply List.map_congr_left
  intro x hx
  have := h x hx
  simp
  omega
theorem map_inj_u8 {l m : List UInt8} (h : (l.map fun u => (u.toNat : Int)) = m.map fun u => (u.toNat : Int)) : l = m := by
  induction l generalizing m with
  | nil => cases m with
    | nil => rfl
    | cons b m => simp at h
  | cons a l ih => cases m with
    | nil => simp at h
    | cons b m =>
      simp only [List.map_cons, List.cons.injEq] at h
      obtain ⟨h1, h2⟩ := h
      have h3 : a = b := UInt8.toNat_inj.1 (by omega)
      rw [ih h2, h3]
theorem gtr_str (t : TypeId) (a b : ByteArray) : binOp .gtr t (.string a) (.string b) = pure (.bool (Op.bytesLess b.toList a.toList)) := by
  have e : (!Op.bytesLess a.toList b.toList && !a.toList == b.toList) = Op.bytesLess b.toList a.toList := by
    have e1 : Op.bytesLess a.toList b.toList = decide (bl a < bl b) := bytesLess_iff _ _
    have e2 : Op.bytesLess b.toList a.toList = decide (bl b < bl a) := bytesLess_iff _ _
    rw [e1, e2]
    rcases llt_tri (bl a) (bl b) with h | h | h
    · have : ¬ bl b < bl a := fun k => llt_irrefl _ (llt_trans h k)
      simp [h, this]
    · have h2 : a.toList = b.toList := map_inj_u8 h
      have : ¬ bl b < bl a := by rw [h]; exact llt_irrefl _
      simp [h2, this]
    · have h1 : ¬ bl a < bl b := fun k => llt_irrefl _ (llt_trans h k)
      have h3 : a.toList = b.toList → bl a = bl b := fun k => by unfold bl; rw [k]
      have h2 : ¬ a.toList = b.toList := fun k => by rw [h3 k] at h; exact llt_irrefl _ h
      simp [h, h1, h2]
  have e0 : binOp .gtr t (.string a) (.string b) = pure (.bool (!Op.bytesLess a.toList b.toList && !a.toList == b.toList)) := by simp [binOp, Op.stringOp]
  rw [e0, e]
theorem nan_int (a : Int) (w : World) : Calls Try.prog 92 #[.int .i64 a] w fun e w' => e = .returned (.bool false) ∧ w = w' := by
  go_enter Try.func92, Try.ntmps92
  go_wp2
  go_ret
  exact ⟨by simp, rfl⟩
theorem nan_str (s : ByteArray) (w : World) : Calls Try.prog 93 #[.string s] w fun e w' => e = .returned (.bool false) ∧ w = w' := by
  go_enter Try.func93, Try.ntmps93
  go_wp2
  go_ret
  exact ⟨by simp, rfl⟩
set_option maxHeartbeats 1000000 in
theorem cmp_int (a b : Int) (w : World) : Calls Try.prog 90 #[.int .i64 a, .int .i64 b] w fun e w' => e = .returned (.int .i64 (cmpI a b)) ∧ w = w' := by
  unfold cmpI
  by_cases h1 : a < b
  · go_enter Try.func90, Try.ntmps90
    go_wp2_with (go_at_call 92; refine (nan_int _ _).mono ?_; rintro e w' ⟨rfl, rfl⟩)
    go_ret
    exact ⟨by simp, rfl⟩
  · by_cases h2 : b < a
    · go_enter Try.func90, Try.ntmps90
      go_wp2_with (go_at_call 92; refine (nan_int _ _).mono ?_; rintro e w' ⟨rfl, rfl⟩)
      go_ret
      exact ⟨by simp, rfl⟩
    · go_enter Try.func90, Try.ntmps90
      go_wp2_with (go_at_call 92; refine (nan_int _ _).mono ?_; rintro e w' ⟨rfl, rfl⟩)
      go_ret
      exact ⟨by simp, rfl⟩
set_option maxHeartbeats 1000000 in
theorem cmp_str (a b : ByteArray) (w : World) : Calls Try.prog 91 #[.string a, .string b] w fun e w' => e = .returned (.int .i64 (cmpL (bl a) (bl b))) ∧ w = w' := by
  have e1 : Op.bytesLess a.toList b.toList = decide (bl a < bl b) := bytesLess_iff _ _
  have e2 : Op.bytesLess b.toList a.toList = decide (bl b < bl a) := bytesLess_iff _ _
  have e3 := gtr_str 9 a b
  unfold cmpL
  by_cases h1 : bl a < bl b
  · rw [decide_eq_true h1] at e1
    rw [if_pos h1]
    clear e2 e3 h1
    go_enter Try.func91, Try.ntmps91
    go_wp2_with (go_at_call 93; refine (nan_str _ _).mono ?_; rintro e w' ⟨rfl, rfl⟩)
    go_ret
    exact ⟨by simp, rfl⟩
  · rw [decide_eq_false h1] at e1
    rw [if_neg h1]
    by_cases h2 : bl b < bl a
    · rw [decide_eq_true h2] at e2
      rw [if_pos h2]
      clear h1 h2
      go_enter Try.func91, Try.ntmps91
      go_wp2_with (go_at_call 93; refine (nan_str _ _).mono ?_; rintro e w' ⟨rfl, rfl⟩)
      go_ret
      exact ⟨by simp, rfl⟩
    · rw [decide_eq_false h2] at e2
      rw [if_neg h2]
      clear h1 h2
      go_enter Try.func91, Try.ntmps91
      go_wp2_with (go_at_call 93; refine (nan_str _ _).mono ?_; rintro e w' ⟨rfl, rfl⟩)
      go_ret
      exact ⟨by simp, rfl⟩
/-- draws, and new blocks -/
def Grew (w w' : World) : Prop := ∃ q os, w' = Sort.grow (w.drewN q) os
theorem Grew.refl (w : World) : Grew w w := ⟨0, #[], by rw [Sort.grow_empty]; rfl⟩
theorem grow_drewN (w : World) (os : Array Obj) (n : Nat) : (Sort.grow w os).drewN n = Sort.grow (w.drewN n) os := rfl
theorem Grew.trans {a b c : World} (h : Grew a b) (k : Grew b c) : Grew a c := by
  obtain ⟨q, os, rfl⟩ := h
  obtain ⟨q2, os2, rfl⟩ := k
  exact ⟨q + q2, os ++ os2, by rw [grow_drewN, Sort.grow_grow]; show Sort.grow ((a.drewN q).drewN q2) _ = _; rw [show (a.drewN q).drewN q2 = a.drewN (q + q2) by simp [World.drewN, Nat.add_assoc]]⟩
theorem Grew.alloc {a b : World} (h : Grew a b) (o : Obj) : Grew a (b.alloc o) := h.trans ⟨0, #[o], by rw [Sort.alloc_eq_grow]; rfl⟩
theorem Grew.drew {a b : World} (h : Grew a b) : Grew a b.drew := h.trans ⟨1, #[], by rw [Sort.grow_empty]; rfl⟩
theorem Grew.drewN {a b : World} (h : Grew a b) (n : Nat) : Grew a (b.drewN n) := h.trans ⟨n, #[], by rw [Sort.grow_empty]⟩
theorem Grew.below {a b : World} (h : Grew a b) : Below a.heap.size a b := by
  obtain ⟨q, os, rfl⟩ := h
  exact ⟨rfl, rfl, rfl, by simp [Sort.grow], fun i hi => Sort.heap_grow_old (a.drewN q) os hi⟩
theorem or_first {a b c d y : Int} {k : Nat} (h : [a, b, c, d][k]? = some y) (hy : y ≠ 0) (hz : ∀ j x, j < k → [a, b, c, d][j]? = some x → x = 0) : or2 a (or2 b (or2 c d)) = y := by
  match k, h with
  | 0, h => simp at h; subst h; simp [or2, hy]
  | 1, h =>
    have h0 := hz 0 a (by omega) rfl
    simp at h; subst h; simp [or2, hy, h0]
  | 2, h =>
    have h0 := hz 0 a (by omega) rfl
    have h1 := hz 1 b (by omega) rfl
    simp at h; subst h; simp [or2, hy, h0, h1]
  | 3, h =>
    have h0 := hz 0 a (by omega) rfl
    have h1 := hz 1 b (by omega) rfl
    have h2 := hz 2 c (by omega) rfl
    simp at h; subst h; simp [or2, h0, h1, h2]
theorem or_none {a b c d : Int} (hz : ∀ j x, j < 4 → [a, b, c, d][j]? = some x → x = 0) : or2 a (or2 b (or2 c d)) = 0 := by
  have h0 := hz 0 a (by omega) rfl
  have h1 := hz 1 b (by omega) rfl
  have h2 := hz 2 c (by omega) rfl
  have h3 := hz 3 d (by omega) rfl
  simp [or2, h0, h1, h2, h3]
set_option maxRecDepth 100000 in
set_option maxHeartbeats 2000000 in
theorem or_any (a b c d : Int) (v : Value) (w : World) (h : Row w v [.int .i64 a, .int .i64 b, .int .i64 c, .int .i64 d]) :
    Calls Try.prog 89 #[v] w fun e w' => e = .returned (.int .i64 (or2 a (or2 b (or2 c d)))) ∧ w = w' := by
  obtain ⟨A, cap, rfl, h2, h3, h4⟩ := h
  rcases h4 with ⟨rfl, rfl⟩ | ⟨ad, rfl, _, hc⟩
  · simp at h2
  have hl : ([.int .i64 a, .int .i64 b, .int .i64 c, .int .i64 d] : List Value).length = 4 := rfl
  rw [hl] at h2
  rw [hl]
  have HC := Lib.hid (show ∀ k y, [a, b, c, d][k]? = some y → w.cell? (ad.add k) = some (.int .i64 y) from fun k y hk => hc k _ (by
    have : ([a, b, c, d].map (Value.int .i64))[k]? = some (.int .i64 y) := by rw [List.getElem?_map, hk]; rfl
    exact this))
  clear hc h2 h3 hl
  obtain ⟨r, hr⟩ : ∃ r, or2 a (or2 b (or2 c d)) = r := ⟨_, rfl⟩
  rw [hr]
  have HR := Lib.hid hr
  clear hr
  go_enter Try.func89, Try.ntmps89
  go_wp2_with fail
  go_loop [8] (fun i => ∃ k : Nat, k ≤ 4 ∧ i = .int .i64 k ∧ ∀ j x, j < k → [a, b, c, d][j]? = some x → x = 0) (fun i => 4 - (intOf i).toNat)
  case atStart => exact ⟨0, by omega, rfl, by omega⟩
  case round =>
    obtain ⟨k, hk, rfl, z0⟩ := hrel
    have Z0 := Lib.hid z0
    clear z0
    by_cases hlt : k < 4
    · obtain ⟨y, hy⟩ : ∃ y, [a, b, c, d][k]? = some y := ⟨_, List.getElem?_eq_getElem hlt⟩
      have hcy := HC.out k y hy
      have HY := Lib.hid hy
      clear hy
      by_cases h0 : y = 0
      · have g1 : (y != 0) = false := by simpa using h0
        have g2 : (y == 0) = true := by simpa using h0
        have H0 := Lib.hid h0
        clear h0
        go_wp2
        go_round
        case rel => exact ⟨k + 1, by omega, by go_num, fun j x hj hx => by
          by_cases e : j = k
          · subst e
            rw [HY.out] at hx
            injection hx with hx
            rw [← hx, H0.out]
          · exact Z0.out j x (by omega) hx⟩
        case measure => simp [intOf]; omega
      · have g1 : (y != 0) = true := by simpa using h0
        have g2 : (y == 0) = false := by simpa using h0
        have H0 := Lib.hid h0
        clear h0
        go_wp2
        go_ret
        exact ⟨ret_int (by rw [← HR.out]; exact (or_first HY.out H0.out Z0.out).symm), rfl⟩
    · obtain rfl : k = 4 := by omega
      go_wp2
      go_ret
      exact ⟨ret_int (by rw [← HR.out]; exact (or_none Z0.out).symm), rfl⟩
end Go.Proofs.Ytgklbmhihfmagaa
