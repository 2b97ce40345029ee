/- Layer 18: what each term does. -/
import Derived.Test.YtcdmojimdiiepaaRuleAV
import Derived.Laws.EntriesVeiled
import Derived.WalkLawsBesides
namespace Go.Proofs.Ytcdmojimdiiepaa
open Go.ChangeShapes Go.WideShapes Go.ChangeAt Go.RowKit
set_option linter.unusedVariables false
set_option linter.unusedSimpArgs false

theorem rtr_id {a : Int} (h : Tr a) : tr a = a := by unfold tr; unfold Tr at h; (repeat' split) <;> omega

set_option maxHeartbeats 2000000 in
theorem wand_two (w : World) (b0 pb : Nat) (a b : Int) (xs : List Int) (op ch n : Int) (h : Pile w b0 pb (a :: b :: xs)) (hx : xs.length ≤ 900) (hb0 : b0 ≤ w.heap.size) (ha : Tr a) (hb : Tr b) :
    Calls Try.prog 81 #[.pointer (some ⟨pb, 0, none⟩), .agg #[.int .i64 op, .int .i64 ch, .int .i64 n]] w fun e w' => e = .returned (.tuple #[]) ∧ Pile w' b0 pb (and3 a b :: xs) ∧ Below b0 w w' := by
  have hal := (Below.refl b0 w).alloc hb0 (.cells #[.int .i64 op, .int .i64 ch, .int .i64 n] 103)
  have H0 := Lib.hid (h.below ((Below.refl _ _).alloc (Nat.le_refl _) (.cells #[.int .i64 op, .int .i64 ch, .int .i64 n] 103)))
  have hz0 : b0 ≤ (w.alloc (.cells #[.int .i64 op, .int .i64 ch, .int .i64 n] 103)).heap.size := by simp; omega
  clear h
  go_enter Try.func81, Try.ntmps81
  go_wp2_with fail
  refine (take_some _ b0 pb (b :: xs) a H0.out (by simp; omega)).mono ?_
  rintro e w1 ⟨rfl, h1, k1⟩
  have hb1 := hal.trans k1
  have H1 := Lib.hid h1
  have hz1 := k1.size
  clear h1 k1 hal H0
  go_wp2_with fail
  refine (take_some _ b0 pb xs b H1.out (by omega)).mono ?_
  rintro e w2 ⟨rfl, h2, k2⟩
  have hb2 := hb1.trans k2
  have H2 := Lib.hid h2
  have hz2 := k2.size
  clear h2 k2 hb1 H1
  go_wp2_with fail
  refine (and_any a b w2).mono ?_
  rintro e w3 ⟨rfl, hk⟩
  have hb3 := hb2.trans (hk.mono (by omega))
  have H3 := Lib.hid (H2.out.below hk)
  have hz3 := hk.size
  clear hk hb2 H2
  go_wp2_with fail
  refine (put_any w3 b0 pb xs _ H3.out (by omega) (by omega)).mono ?_
  rintro e w4 ⟨rfl, h4, k4⟩
  have hb4 := hb3.trans k4
  have H4 := Lib.hid h4
  clear h4 k4 hb3 H3
  go_wp2
  go_end0
  exact ⟨rfl, by have := H4.out; rw [rtr_id ha, rtr_id hb] at this; exact this, hb4⟩
set_option maxHeartbeats 2000000 in
theorem wand_one (w : World) (b0 pb : Nat) (a : Int) (op ch n : Int) (h : Pile w b0 pb [a]) (hb0 : b0 ≤ w.heap.size) :
    Calls Try.prog 81 #[.pointer (some ⟨pb, 0, none⟩), .agg #[.int .i64 op, .int .i64 ch, .int .i64 n]] w fun e w' => e = .panicked [flt] ∧ Below b0 w w' := by
  have hal := (Below.refl b0 w).alloc hb0 (.cells #[.int .i64 op, .int .i64 ch, .int .i64 n] 103)
  have H0 := Lib.hid (h.below ((Below.refl _ _).alloc (Nat.le_refl _) (.cells #[.int .i64 op, .int .i64 ch, .int .i64 n] 103)))
  clear h
  go_enter Try.func81, Try.ntmps81
  go_wp2_with fail
  refine (take_some _ b0 pb [] a H0.out (by simp)).mono ?_
  rintro e w1 ⟨rfl, h1, k1⟩
  have hb1 := hal.trans k1
  have H1 := Lib.hid h1
  clear h1 k1 hal H0
  go_wp2_with fail
  refine (take_none _ b0 pb H1.out).mono ?_
  rintro e w2 ⟨rfl, k2⟩
  have hb2 := hb1.trans k2
  clear k2 hb1 H1
  go_wp2
  exact ⟨rfl, rfl, hb2⟩
set_option maxHeartbeats 2000000 in
theorem wand_zero (w : World) (b0 pb : Nat) (op ch n : Int) (h : Pile w b0 pb []) (hb0 : b0 ≤ w.heap.size) :
    Calls Try.prog 81 #[.pointer (some ⟨pb, 0, none⟩), .agg #[.int .i64 op, .int .i64 ch, .int .i64 n]] w fun e w' => e = .panicked [flt] ∧ Below b0 w w' := by
  have hal := (Below.refl b0 w).alloc hb0 (.cells #[.int .i64 op, .int .i64 ch, .int .i64 n] 103)
  have H0 := Lib.hid (h.below ((Below.refl _ _).alloc (Nat.le_refl _) (.cells #[.int .i64 op, .int .i64 ch, .int .i64 n] 103)))
  clear h
  go_enter Try.func81, Try.ntmps81
  go_wp2_with fail
  refine (take_none _ b0 pb H0.out).mono ?_
  rintro e w2 ⟨rfl, k2⟩
  have hb2 := hal.trans k2
  clear k2 hal H0
  go_wp2
  exact ⟨rfl, rfl, hb2⟩

set_option maxHeartbeats 2000000 in
theorem wor_two (w : World) (b0 pb : Nat) (a b : Int) (xs : List Int) (op ch n : Int) (h : Pile w b0 pb (a :: b :: xs)) (hx : xs.length ≤ 900) (hb0 : b0 ≤ w.heap.size) (ha : Tr a) (hb : Tr b) :
    Calls Try.prog 83 #[.pointer (some ⟨pb, 0, none⟩), .agg #[.int .i64 op, .int .i64 ch, .int .i64 n]] w fun e w' => e = .returned (.tuple #[]) ∧ Pile w' b0 pb (or3 a b :: xs) ∧ Below b0 w w' := by
  have hal := (Below.refl b0 w).alloc hb0 (.cells #[.int .i64 op, .int .i64 ch, .int .i64 n] 103)
  have H0 := Lib.hid (h.below ((Below.refl _ _).alloc (Nat.le_refl _) (.cells #[.int .i64 op, .int .i64 ch, .int .i64 n] 103)))
  have hz0 : b0 ≤ (w.alloc (.cells #[.int .i64 op, .int .i64 ch, .int .i64 n] 103)).heap.size := by simp; omega
  clear h
  go_enter Try.func83, Try.ntmps83
  go_wp2_with fail
  refine (take_some _ b0 pb (b :: xs) a H0.out (by simp; omega)).mono ?_
  rintro e w1 ⟨rfl, h1, k1⟩
  have hb1 := hal.trans k1
  have H1 := Lib.hid h1
  have hz1 := k1.size
  clear h1 k1 hal H0
  go_wp2_with fail
  refine (take_some _ b0 pb xs b H1.out (by omega)).mono ?_
  rintro e w2 ⟨rfl, h2, k2⟩
  have hb2 := hb1.trans k2
  have H2 := Lib.hid h2
  have hz2 := k2.size
  clear h2 k2 hb1 H1
  go_wp2_with fail
  refine (or_any a b w2).mono ?_
  rintro e w3 ⟨rfl, hk⟩
  have hb3 := hb2.trans (hk.mono (by omega))
  have H3 := Lib.hid (H2.out.below hk)
  have hz3 := hk.size
  clear hk hb2 H2
  go_wp2_with fail
  refine (put_any w3 b0 pb xs _ H3.out (by omega) (by omega)).mono ?_
  rintro e w4 ⟨rfl, h4, k4⟩
  have hb4 := hb3.trans k4
  have H4 := Lib.hid h4
  clear h4 k4 hb3 H3
  go_wp2
  go_end0
  exact ⟨rfl, by have := H4.out; rw [rtr_id ha, rtr_id hb] at this; exact this, hb4⟩
set_option maxHeartbeats 2000000 in
theorem wor_one (w : World) (b0 pb : Nat) (a : Int) (op ch n : Int) (h : Pile w b0 pb [a]) (hb0 : b0 ≤ w.heap.size) :
    Calls Try.prog 83 #[.pointer (some ⟨pb, 0, none⟩), .agg #[.int .i64 op, .int .i64 ch, .int .i64 n]] w fun e w' => e = .panicked [flt] ∧ Below b0 w w' := by
  have hal := (Below.refl b0 w).alloc hb0 (.cells #[.int .i64 op, .int .i64 ch, .int .i64 n] 103)
  have H0 := Lib.hid (h.below ((Below.refl _ _).alloc (Nat.le_refl _) (.cells #[.int .i64 op, .int .i64 ch, .int .i64 n] 103)))
  clear h
  go_enter Try.func83, Try.ntmps83
  go_wp2_with fail
  refine (take_some _ b0 pb [] a H0.out (by simp)).mono ?_
  rintro e w1 ⟨rfl, h1, k1⟩
  have hb1 := hal.trans k1
  have H1 := Lib.hid h1
  clear h1 k1 hal H0
  go_wp2_with fail
  refine (take_none _ b0 pb H1.out).mono ?_
  rintro e w2 ⟨rfl, k2⟩
  have hb2 := hb1.trans k2
  clear k2 hb1 H1
  go_wp2
  exact ⟨rfl, rfl, hb2⟩
set_option maxHeartbeats 2000000 in
theorem wor_zero (w : World) (b0 pb : Nat) (op ch n : Int) (h : Pile w b0 pb []) (hb0 : b0 ≤ w.heap.size) :
    Calls Try.prog 83 #[.pointer (some ⟨pb, 0, none⟩), .agg #[.int .i64 op, .int .i64 ch, .int .i64 n]] w fun e w' => e = .panicked [flt] ∧ Below b0 w w' := by
  have hal := (Below.refl b0 w).alloc hb0 (.cells #[.int .i64 op, .int .i64 ch, .int .i64 n] 103)
  have H0 := Lib.hid (h.below ((Below.refl _ _).alloc (Nat.le_refl _) (.cells #[.int .i64 op, .int .i64 ch, .int .i64 n] 103)))
  clear h
  go_enter Try.func83, Try.ntmps83
  go_wp2_with fail
  refine (take_none _ b0 pb H0.out).mono ?_
  rintro e w2 ⟨rfl, k2⟩
  have hb2 := hal.trans k2
  clear k2 hal H0
  go_wp2
  exact ⟨rfl, rfl, hb2⟩

set_option maxHeartbeats 2000000 in
theorem wnot_one (w : World) (b0 pb : Nat) (a : Int) (xs : List Int) (op ch n : Int) (h : Pile w b0 pb (a :: xs)) (hx : xs.length ≤ 900) (hb0 : b0 ≤ w.heap.size) (ha : Tr a) :
    Calls Try.prog 85 #[.pointer (some ⟨pb, 0, none⟩), .agg #[.int .i64 op, .int .i64 ch, .int .i64 n]] w fun e w' => e = .returned (.tuple #[]) ∧ Pile w' b0 pb (not3 a :: xs) ∧ Below b0 w w' := by
  have hal := (Below.refl b0 w).alloc hb0 (.cells #[.int .i64 op, .int .i64 ch, .int .i64 n] 103)
  have H0 := Lib.hid (h.below ((Below.refl _ _).alloc (Nat.le_refl _) (.cells #[.int .i64 op, .int .i64 ch, .int .i64 n] 103)))
  have hz0 : b0 ≤ (w.alloc (.cells #[.int .i64 op, .int .i64 ch, .int .i64 n] 103)).heap.size := by simp; omega
  clear h
  go_enter Try.func85, Try.ntmps85
  go_wp2_with fail
  refine (take_some _ b0 pb xs a H0.out (by omega)).mono ?_
  rintro e w1 ⟨rfl, h1, k1⟩
  have hb1 := hal.trans k1
  have H1 := Lib.hid h1
  have hz1 := k1.size
  clear h1 k1 hal H0
  go_wp2_with fail
  refine (not_any a w1).mono ?_
  rintro e w3 ⟨rfl, hk⟩
  have hb3 := hb1.trans (hk.mono (by omega))
  have H3 := Lib.hid (H1.out.below hk)
  have hz3 := hk.size
  clear hk hb1 H1
  go_wp2_with fail
  refine (put_any w3 b0 pb xs _ H3.out (by omega) (by omega)).mono ?_
  rintro e w4 ⟨rfl, h4, k4⟩
  have hb4 := hb3.trans k4
  have H4 := Lib.hid h4
  clear h4 k4 hb3 H3
  go_wp2
  go_end0
  exact ⟨rfl, by have := H4.out; rw [rtr_id ha] at this; exact this, hb4⟩
set_option maxHeartbeats 2000000 in
theorem wnot_zero (w : World) (b0 pb : Nat) (op ch n : Int) (h : Pile w b0 pb []) (hb0 : b0 ≤ w.heap.size) :
    Calls Try.prog 85 #[.pointer (some ⟨pb, 0, none⟩), .agg #[.int .i64 op, .int .i64 ch, .int .i64 n]] w fun e w' => e = .panicked [flt] ∧ Below b0 w w' := by
  have hal := (Below.refl b0 w).alloc hb0 (.cells #[.int .i64 op, .int .i64 ch, .int .i64 n] 103)
  have H0 := Lib.hid (h.below ((Below.refl _ _).alloc (Nat.le_refl _) (.cells #[.int .i64 op, .int .i64 ch, .int .i64 n] 103)))
  clear h
  go_enter Try.func85, Try.ntmps85
  go_wp2_with fail
  refine (take_none _ b0 pb H0.out).mono ?_
  rintro e w2 ⟨rfl, k2⟩
  have hb2 := hal.trans k2
  clear k2 hal H0
  go_wp2
  exact ⟨rfl, rfl, hb2⟩

theorem above_any (v n : Int) (w : World) : Calls Try.prog 79 #[.int .i64 v, .int .i64 n] w fun e w' => e = .returned (.bool (decide (v > n))) ∧ w = w' := by
  go_enter Try.func79, Try.ntmps79
  go_wp2
  go_ret
  exact ⟨rfl, rfl⟩
theorem beneath_any (v n : Int) (w : World) : Calls Try.prog 80 #[.int .i64 v, .int .i64 n] w fun e w' => e = .returned (.bool (decide (v < n))) ∧ w = w' := by
  go_enter Try.func80, Try.ntmps80
  go_wp2
  go_ret
  exact ⟨rfl, rfl⟩
set_option maxHeartbeats 1000000 in
theorem cellR_any (ch : Int) (w : World) : Calls Try.prog 56 #[.int .i64 ch] w fun e w' => e = .returned (.agg #[.int .i64 0, .int .i64 0, .int .i64 0]) ∧ Below w.heap.size w w' := by
  have R0 := Lib.hid (Blk.new w 55 #[.int .i64 0, .int .i64 0, .int .i64 0] w.heap.size rfl)
  go_enter Try.func56, Try.ntmps56
  go_wp2
  refine bodyPost_ret (v := .agg #[.int .i64 0, .int .i64 0, .int .i64 0]) (by simp [results, Try.results56, go_sem]) rfl ⟨rfl, by go_grown⟩
def c3c (l : List Cl) : List Value := l.flatMap fun a => [.int .i64 a.1, .int .i64 a.2.1, .int .i64 a.2.2]
theorem c3c_len (l : List Cl) : (c3c l).length = l.length * 3 := by
  induction l with
  | nil => rfl
  | cons a l ih => simp [c3c] at ih ⊢; omega
theorem c3c_at (l : List Cl) (i : Nat) (a : Cl) (h : l[i]? = some a) : (c3c l)[i * 3]? = some (.int .i64 a.1) ∧ (c3c l)[i * 3 + 1]? = some (.int .i64 a.2.1) ∧ (c3c l)[i * 3 + 2]? = some (.int .i64 a.2.2) := by
  induction l generalizing i with
  | nil => simp at h
  | cons b l ih =>
    cases i with
    | zero =>
      simp at h
      subst h
      exact ⟨rfl, rfl, rfl⟩
    | succ i =>
      have h' : l[i]? = some a := by simpa using h
      have := ih i h'
      have e1 : (i + 1) * 3 = i * 3 + 3 := by omega
      rw [e1]
      exact this
theorem addk (a : Addr) (k : Nat) (h : 0 < k) : a.add k = ⟨a.block, a.off + k, none⟩ := by
  unfold Addr.add
  split
  · omega
  · rfl
theorem row3_at {w : World} {A : Option Addr} {c m : Nat} {ks : List Cl} {a : Cl} (h : RowN 3 w (.slice A ks.length c) ks.length (c3c ks)) (hm : ks[m]? = some a) :
    ∃ ad, A = some ad ∧ ad.block < w.heap.size ∧ w.cell? (ad.add (m * 3)) = some (.int .i64 a.1) ∧ w.cell? ⟨(ad.add (m * 3)).block, (ad.add (m * 3)).off + 1, none⟩ = some (.int .i64 a.2.1) ∧ w.cell? ⟨(ad.add (m * 3)).block, (ad.add (m * 3)).off + 2, none⟩ = some (.int .i64 a.2.2) := by
  obtain ⟨_, A', c', e1, _, _, hA⟩ := h
  injection e1 with e1 _ _
  subst e1
  obtain ⟨q1, q2, q3⟩ := c3c_at ks m a hm
  have hl := (List.getElem?_eq_some_iff.1 hm).1
  rcases hA with ⟨rfl, h0⟩ | ⟨ad, rfl, h1, h2⟩
  · omega
  · have g : ∀ i v, 0 < i → (c3c ks)[m * 3 + i]? = some v → w.cell? ⟨(ad.add (m * 3)).block, (ad.add (m * 3)).off + i, none⟩ = some v := fun i v hi hv => by
      have := h2 _ _ hv
      rwa [← Go.Deep.add_add, addk _ i hi] at this
    exact ⟨ad, rfl, h1 (by rw [c3c_len]; omega), h2 _ _ q1, g 1 _ (by omega) q2, g 2 _ (by omega) q3⟩
set_option maxHeartbeats 1000000 in
theorem cellS_any (ch : Nat) (cb c : Nat) (A : Option Addr) (cs : List Cl) (a : Cl) (w : World) (hb : w.cell? ⟨cb, 0, none⟩ = some (.slice A cs.length c)) (hl : cb < w.heap.size) (hr : RowN 3 w (.slice A cs.length c) cs.length (c3c cs)) (ha : cs[ch]? = some a) :
    Calls Try.prog 45 #[.int .i64 ch, .pointer (some ⟨cb, 0, none⟩)] w fun e w' => e = .returned (.agg #[.int .i64 a.1, .int .i64 a.2.1, .int .i64 a.2.2]) ∧ Below w.heap.size w w' := by
  obtain ⟨ad, rfl, had, c0, c1, c2⟩ := row3_at hr ha
  have hch : (ch : Int) < (cs.length : Int) := by have := (List.getElem?_eq_some_iff.1 ha).1; omega
  have hal := (Below.refl w.heap.size w).alloc (Nat.le_refl _) (.cells #[.int .i64 0, .int .i64 0, .int .i64 0] 55)
  have R0 := Lib.hid (Blk.new w 55 #[.int .i64 0, .int .i64 0, .int .i64 0] w.heap.size rfl)
  have d0 : ∀ o, (w.alloc o).cell? (ad.add (ch * 3)) = some (.int .i64 a.1) := fun o => by rw [World.cell?_alloc_lt w o _ (by rw [block_add]; exact had)]; exact c0
  have d1 : ∀ o, (w.alloc o).cell? ⟨(ad.add (ch * 3)).block, (ad.add (ch * 3)).off + 1, none⟩ = some (.int .i64 a.2.1) := fun o => by rw [World.cell?_alloc_lt w o _ (by show (ad.add (ch * 3)).block < _; rw [block_add]; exact had)]; exact c1
  have d2 : ∀ o, (w.alloc o).cell? ⟨(ad.add (ch * 3)).block, (ad.add (ch * 3)).off + 2, none⟩ = some (.int .i64 a.2.2) := fun o => by rw [World.cell?_alloc_lt w o _ (by show (ad.add (ch * 3)).block < _; rw [block_add]; exact had)]; exact c2
  have db : ∀ o, (w.alloc o).cell? ⟨cb, 0, none⟩ = some (.slice (some ad) cs.length c) := fun o => by rw [World.cell?_alloc_lt w o _ hl]; exact hb
  clear hr ha c0 c1 c2 hb
  go_enter Try.func45, Try.ntmps45
  go_wp2
  have hq := (((R0.out.set 0 (.int .i64 a.1)).set 1 (.int .i64 a.2.1)).set 2 (.int .i64 a.2.2)).cells
  refine bodyPost_ret (v := .agg #[.int .i64 a.1, .int .i64 a.2.1, .int .i64 a.2.2]) (by simp [results, Try.results45, go_sem]) rfl ⟨rfl, by go_grown⟩

set_option maxHeartbeats 2000000 in
theorem wlimR1 (w : World) (b0 pb : Nat) (xs : List Int) (ch : Int) (n : Int) (cb wb : Nat) (h : Pile w b0 pb xs) (hx : xs.length ≤ 900) (hb0 : b0 ≤ w.heap.size) (hcb : w.cell? ⟨cb, 0, none⟩ = some (.func (.func 56) #[] #[])) (hwb : w.cell? ⟨wb, 0, none⟩ = some (.func (.func 79) #[] #[])) (hcl : cb < w.heap.size) (hwl : wb < w.heap.size) :
    Calls Try.prog 76 #[.pointer (some ⟨pb, 0, none⟩), .agg #[.int .i64 1, .int .i64 ch, .int .i64 n], .pointer (some ⟨cb, 0, none⟩), .pointer (some ⟨wb, 0, none⟩)] w fun e w' => e = .returned (.tuple #[]) ∧ Pile w' b0 pb (limO (1, ch, n) (0, 0, 0) :: xs) ∧ Below b0 w w' := by
  have hal := (Below.refl w.heap.size w).alloc (Nat.le_refl _) (.cells #[.int .i64 1, .int .i64 ch, .int .i64 n] 103)
  have hal0 := (Below.refl b0 w).alloc hb0 (.cells #[.int .i64 1, .int .i64 ch, .int .i64 n] 103)
  have H0 := Lib.hid (h.below hal)
  have dcb : ∀ o, (w.alloc o).cell? ⟨cb, 0, none⟩ = some (.func (.func 56) #[] #[]) := fun o => by rw [World.cell?_alloc_lt w o _ hcl]; exact hcb
  have HWB := Lib.hid (show (w.alloc (.cells #[.int .i64 1, .int .i64 ch, .int .i64 n] 103)).cell? ⟨wb, 0, none⟩ = some (.func (.func 79) #[] #[]) by rw [World.cell?_alloc_lt w _ _ hwl]; exact hwb)
  have HBX := Lib.hid (Blk.new w 103 #[.int .i64 1, .int .i64 ch, .int .i64 n] w.heap.size rfl)
  clear h hcb hwb
  go_enter Try.func76, Try.ntmps76
  go_wp2_with fail
  refine (cellR_any _ _).mono ?_
  rintro e w1 ⟨rfl, hk⟩
  have hb1 := hal0.trans (hk.mono (by simp; omega))
  have H1 := Lib.hid (H0.out.below hk)
  have hz1 := hk.size
  simp only [World.size_alloc] at hz1
  have cW : w1.cell? ⟨wb, 0, none⟩ = some (.func (.func 79) #[] #[]) := by rw [hk.cell (p := ⟨wb, 0, none⟩) (by simp; omega)]; exact HWB.out
  have HW1 := Lib.hid (show ∀ o, (w1.alloc o).cell? ⟨wb, 0, none⟩ = some (.func (.func 79) #[] #[]) from fun o => by rw [World.cell?_alloc_lt w1 o _ (by show wb < _; omega)]; exact cW)
  have HX1 := HBX.out.below hk
  have cX : ∀ o i, (w1.alloc o).cell? ⟨w.heap.size, i, none⟩ = (#[.int .i64 1, .int .i64 ch, .int .i64 n] : Array Value)[i]? := fun o i => (HX1.al o).cells i
  have hxl : w.heap.size < w1.heap.size := by omega
  clear hk dcb HWB HBX H0 hal hal0 HX1 cW
  have hkd : ((0, 0, 0) : Cl).1 ≠ 1 := by decide
  go_wp2_with fail
  have hal1 := (Below.refl b0 w1).alloc (by omega) (.cells #[.int .i64 0, .int .i64 0, .int .i64 0] 55)
  have hb3 := hb1.trans hal1
  have H3 := Lib.hid (H1.out.below ((Below.refl _ _).alloc (Nat.le_refl _) (.cells #[.int .i64 0, .int .i64 0, .int .i64 0] 55)))
  clear hal1 hb1 H1 HW1 cX
  refine (put_any _ b0 pb xs _ H3.out (by omega) (by simp; omega)).mono ?_
  rintro e w4 ⟨rfl, h4, k4⟩
  have hb4 := hb3.trans k4
  have H4 := Lib.hid h4
  clear h4 k4 hb3 H3
  go_wp2
  go_end0
  refine ⟨rfl, ?_, hb4⟩
  rw [lim_unknown _ _ hkd]
  exact H4.out

set_option maxHeartbeats 2000000 in
theorem wlimR2 (w : World) (b0 pb : Nat) (xs : List Int) (ch : Int) (n : Int) (cb wb : Nat) (h : Pile w b0 pb xs) (hx : xs.length ≤ 900) (hb0 : b0 ≤ w.heap.size) (hcb : w.cell? ⟨cb, 0, none⟩ = some (.func (.func 56) #[] #[])) (hwb : w.cell? ⟨wb, 0, none⟩ = some (.func (.func 80) #[] #[])) (hcl : cb < w.heap.size) (hwl : wb < w.heap.size) :
    Calls Try.prog 76 #[.pointer (some ⟨pb, 0, none⟩), .agg #[.int .i64 2, .int .i64 ch, .int .i64 n], .pointer (some ⟨cb, 0, none⟩), .pointer (some ⟨wb, 0, none⟩)] w fun e w' => e = .returned (.tuple #[]) ∧ Pile w' b0 pb (limO (2, ch, n) (0, 0, 0) :: xs) ∧ Below b0 w w' := by
  have hal := (Below.refl w.heap.size w).alloc (Nat.le_refl _) (.cells #[.int .i64 2, .int .i64 ch, .int .i64 n] 103)
  have hal0 := (Below.refl b0 w).alloc hb0 (.cells #[.int .i64 2, .int .i64 ch, .int .i64 n] 103)
  have H0 := Lib.hid (h.below hal)
  have dcb : ∀ o, (w.alloc o).cell? ⟨cb, 0, none⟩ = some (.func (.func 56) #[] #[]) := fun o => by rw [World.cell?_alloc_lt w o _ hcl]; exact hcb
  have HWB := Lib.hid (show (w.alloc (.cells #[.int .i64 2, .int .i64 ch, .int .i64 n] 103)).cell? ⟨wb, 0, none⟩ = some (.func (.func 80) #[] #[]) by rw [World.cell?_alloc_lt w _ _ hwl]; exact hwb)
  have HBX := Lib.hid (Blk.new w 103 #[.int .i64 2, .int .i64 ch, .int .i64 n] w.heap.size rfl)
  clear h hcb hwb
  go_enter Try.func76, Try.ntmps76
  go_wp2_with fail
  refine (cellR_any _ _).mono ?_
  rintro e w1 ⟨rfl, hk⟩
  have hb1 := hal0.trans (hk.mono (by simp; omega))
  have H1 := Lib.hid (H0.out.below hk)
  have hz1 := hk.size
  simp only [World.size_alloc] at hz1
  have cW : w1.cell? ⟨wb, 0, none⟩ = some (.func (.func 80) #[] #[]) := by rw [hk.cell (p := ⟨wb, 0, none⟩) (by simp; omega)]; exact HWB.out
  have HW1 := Lib.hid (show ∀ o, (w1.alloc o).cell? ⟨wb, 0, none⟩ = some (.func (.func 80) #[] #[]) from fun o => by rw [World.cell?_alloc_lt w1 o _ (by show wb < _; omega)]; exact cW)
  have HX1 := HBX.out.below hk
  have cX : ∀ o i, (w1.alloc o).cell? ⟨w.heap.size, i, none⟩ = (#[.int .i64 2, .int .i64 ch, .int .i64 n] : Array Value)[i]? := fun o i => (HX1.al o).cells i
  have hxl : w.heap.size < w1.heap.size := by omega
  clear hk dcb HWB HBX H0 hal hal0 HX1 cW
  have hkd : ((0, 0, 0) : Cl).1 ≠ 1 := by decide
  go_wp2_with fail
  have hal1 := (Below.refl b0 w1).alloc (by omega) (.cells #[.int .i64 0, .int .i64 0, .int .i64 0] 55)
  have hb3 := hb1.trans hal1
  have H3 := Lib.hid (H1.out.below ((Below.refl _ _).alloc (Nat.le_refl _) (.cells #[.int .i64 0, .int .i64 0, .int .i64 0] 55)))
  clear hal1 hb1 H1 HW1 cX
  refine (put_any _ b0 pb xs _ H3.out (by omega) (by simp; omega)).mono ?_
  rintro e w4 ⟨rfl, h4, k4⟩
  have hb4 := hb3.trans k4
  have H4 := Lib.hid h4
  clear h4 k4 hb3 H3
  go_wp2
  go_end0
  refine ⟨rfl, ?_, hb4⟩
  rw [lim_unknown _ _ hkd]
  exact H4.out

set_option maxHeartbeats 2000000 in
theorem wlimS1 (w : World) (b0 pb : Nat) (xs : List Int) (ch : Nat) (n : Int) (cb wb : Nat) (h : Pile w b0 pb xs) (hx : xs.length ≤ 900) (hb0 : b0 ≤ w.heap.size) (ub uc : Nat) (UA : Option Addr) (cs : List Cl) (a : Cl) (hu : w.cell? ⟨ub, 0, none⟩ = some (.slice UA cs.length uc)) (hul : ub < w.heap.size) (hrow : RowN 3 w (.slice UA cs.length uc) cs.length (c3c cs)) (ha : cs[ch]? = some a) (hcb : w.cell? ⟨cb, 0, none⟩ = some (.func (.func 45) #[] #[.pointer (some ⟨ub, 0, none⟩)])) (hwb : w.cell? ⟨wb, 0, none⟩ = some (.func (.func 79) #[] #[])) (hcl : cb < w.heap.size) (hwl : wb < w.heap.size) :
    Calls Try.prog 76 #[.pointer (some ⟨pb, 0, none⟩), .agg #[.int .i64 1, .int .i64 ch, .int .i64 n], .pointer (some ⟨cb, 0, none⟩), .pointer (some ⟨wb, 0, none⟩)] w fun e w' => e = .returned (.tuple #[]) ∧ Pile w' b0 pb (limO (1, ch, n) a :: xs) ∧ Below b0 w w' := by
  have hal := (Below.refl w.heap.size w).alloc (Nat.le_refl _) (.cells #[.int .i64 1, .int .i64 ch, .int .i64 n] 103)
  have hal0 := (Below.refl b0 w).alloc hb0 (.cells #[.int .i64 1, .int .i64 ch, .int .i64 n] 103)
  have H0 := Lib.hid (h.below hal)
  have dcb : ∀ o, (w.alloc o).cell? ⟨cb, 0, none⟩ = some (.func (.func 45) #[] #[.pointer (some ⟨ub, 0, none⟩)]) := fun o => by rw [World.cell?_alloc_lt w o _ hcl]; exact hcb
  have HWB := Lib.hid (show (w.alloc (.cells #[.int .i64 1, .int .i64 ch, .int .i64 n] 103)).cell? ⟨wb, 0, none⟩ = some (.func (.func 79) #[] #[]) by rw [World.cell?_alloc_lt w _ _ hwl]; exact hwb)
  have HBX := Lib.hid (Blk.new w 103 #[.int .i64 1, .int .i64 ch, .int .i64 n] w.heap.size rfl)
  have HU := Lib.hid hu
  have HROW := Lib.hid hrow
  have HA := Lib.hid ha
  clear hu hrow ha
  clear h hcb hwb
  go_enter Try.func76, Try.ntmps76
  go_wp2_with fail
  refine (cellS_any ch ub uc UA cs a _ (by rw [hal.cell (p := ⟨ub, 0, none⟩) hul]; exact HU.out) (by simp; omega) (HROW.out.below hal) HA.out).mono ?_
  rintro e w1 ⟨rfl, hk⟩
  have hb1 := hal0.trans (hk.mono (by simp; omega))
  have H1 := Lib.hid (H0.out.below hk)
  have hz1 := hk.size
  simp only [World.size_alloc] at hz1
  have cW : w1.cell? ⟨wb, 0, none⟩ = some (.func (.func 79) #[] #[]) := by rw [hk.cell (p := ⟨wb, 0, none⟩) (by simp; omega)]; exact HWB.out
  have HW1 := Lib.hid (show ∀ o, (w1.alloc o).cell? ⟨wb, 0, none⟩ = some (.func (.func 79) #[] #[]) from fun o => by rw [World.cell?_alloc_lt w1 o _ (by show wb < _; omega)]; exact cW)
  have HX1 := HBX.out.below hk
  have cX : ∀ o i, (w1.alloc o).cell? ⟨w.heap.size, i, none⟩ = (#[.int .i64 1, .int .i64 ch, .int .i64 n] : Array Value)[i]? := fun o i => (HX1.al o).cells i
  have hxl : w.heap.size < w1.heap.size := by omega
  clear hk dcb HWB HBX H0 hal hal0 HX1 cW
  by_cases hkd : a.1 = 1
  · have q1 : (a.1 == 1) = true := by rw [beq_iff_eq]; exact hkd
    by_cases hq : a.2.1 > n
    · skip
      have dW := HW1.out
      go_wp2_with fail
      refine (above_any a.2.1 n _).mono ?_
      rintro e w2 ⟨rfl, rfl⟩
      rw [decide_eq_true (by omega)]
      go_wp2_with fail
      refine (of_bool _ _).mono ?_
      rintro e w3 ⟨rfl, rfl⟩
      clear dW HW1 cX
      have hal1 := (Below.refl b0 w1).alloc (by omega) (.cells #[.int .i64 1, .int .i64 a.2.1, .int .i64 a.2.2] 55)
      have hb3 := hb1.trans hal1
      have H3 := Lib.hid (H1.out.below ((Below.refl _ _).alloc (Nat.le_refl _) (.cells #[.int .i64 1, .int .i64 a.2.1, .int .i64 a.2.2] 55)))
      clear hal1 hb1 H1
      go_wp2_with fail
      refine (put_any _ b0 pb xs _ H3.out (by omega) (by simp; omega)).mono ?_
      rintro e w4 ⟨rfl, h4, k4⟩
      have hb4 := hb3.trans k4
      have H4 := Lib.hid h4
      clear h4 k4 hb3 H3
      go_wp2
      go_end0
      refine ⟨rfl, ?_, hb4⟩
      have e4 : limO (1, ch, n) a = 2 := by
        unfold limO
        rw [if_pos hkd]
        show (if decide (a.2.1 > n) = true then (2 : Int) else 1) = _
        rw [decide_eq_true (by omega)]
        rfl
      rw [e4]
      exact H4.out
    · skip
      have dW := HW1.out
      go_wp2_with fail
      refine (above_any a.2.1 n _).mono ?_
      rintro e w2 ⟨rfl, rfl⟩
      rw [decide_eq_false (by omega)]
      go_wp2_with fail
      refine (of_bool _ _).mono ?_
      rintro e w3 ⟨rfl, rfl⟩
      clear dW HW1 cX
      have hal1 := (Below.refl b0 w1).alloc (by omega) (.cells #[.int .i64 1, .int .i64 a.2.1, .int .i64 a.2.2] 55)
      have hb3 := hb1.trans hal1
      have H3 := Lib.hid (H1.out.below ((Below.refl _ _).alloc (Nat.le_refl _) (.cells #[.int .i64 1, .int .i64 a.2.1, .int .i64 a.2.2] 55)))
      clear hal1 hb1 H1
      go_wp2_with fail
      refine (put_any _ b0 pb xs _ H3.out (by omega) (by simp; omega)).mono ?_
      rintro e w4 ⟨rfl, h4, k4⟩
      have hb4 := hb3.trans k4
      have H4 := Lib.hid h4
      clear h4 k4 hb3 H3
      go_wp2
      go_end0
      refine ⟨rfl, ?_, hb4⟩
      have e4 : limO (1, ch, n) a = 1 := by
        unfold limO
        rw [if_pos hkd]
        show (if decide (a.2.1 > n) = true then (2 : Int) else 1) = _
        rw [decide_eq_false (by omega)]
        rfl
      rw [e4]
      exact H4.out
  · have q1 : (a.1 == 1) = false := beq_false_of_ne hkd
    go_wp2_with fail
    have hal1 := (Below.refl b0 w1).alloc (by omega) (.cells #[.int .i64 a.1, .int .i64 a.2.1, .int .i64 a.2.2] 55)
    have hb3 := hb1.trans hal1
    have H3 := Lib.hid (H1.out.below ((Below.refl _ _).alloc (Nat.le_refl _) (.cells #[.int .i64 a.1, .int .i64 a.2.1, .int .i64 a.2.2] 55)))
    clear hal1 hb1 H1 HW1 cX
    refine (put_any _ b0 pb xs _ H3.out (by omega) (by simp; omega)).mono ?_
    rintro e w4 ⟨rfl, h4, k4⟩
    have hb4 := hb3.trans k4
    have H4 := Lib.hid h4
    clear h4 k4 hb3 H3
    go_wp2
    go_end0
    refine ⟨rfl, ?_, hb4⟩
    rw [lim_unknown _ _ hkd]
    exact H4.out

set_option maxHeartbeats 2000000 in
theorem wlimS2 (w : World) (b0 pb : Nat) (xs : List Int) (ch : Nat) (n : Int) (cb wb : Nat) (h : Pile w b0 pb xs) (hx : xs.length ≤ 900) (hb0 : b0 ≤ w.heap.size) (ub uc : Nat) (UA : Option Addr) (cs : List Cl) (a : Cl) (hu : w.cell? ⟨ub, 0, none⟩ = some (.slice UA cs.length uc)) (hul : ub < w.heap.size) (hrow : RowN 3 w (.slice UA cs.length uc) cs.length (c3c cs)) (ha : cs[ch]? = some a) (hcb : w.cell? ⟨cb, 0, none⟩ = some (.func (.func 45) #[] #[.pointer (some ⟨ub, 0, none⟩)])) (hwb : w.cell? ⟨wb, 0, none⟩ = some (.func (.func 80) #[] #[])) (hcl : cb < w.heap.size) (hwl : wb < w.heap.size) :
    Calls Try.prog 76 #[.pointer (some ⟨pb, 0, none⟩), .agg #[.int .i64 2, .int .i64 ch, .int .i64 n], .pointer (some ⟨cb, 0, none⟩), .pointer (some ⟨wb, 0, none⟩)] w fun e w' => e = .returned (.tuple #[]) ∧ Pile w' b0 pb (limO (2, ch, n) a :: xs) ∧ Below b0 w w' := by
  have hal := (Below.refl w.heap.size w).alloc (Nat.le_refl _) (.cells #[.int .i64 2, .int .i64 ch, .int .i64 n] 103)
  have hal0 := (Below.refl b0 w).alloc hb0 (.cells #[.int .i64 2, .int .i64 ch, .int .i64 n] 103)
  have H0 := Lib.hid (h.below hal)
  have dcb : ∀ o, (w.alloc o).cell? ⟨cb, 0, none⟩ = some (.func (.func 45) #[] #[.pointer (some ⟨ub, 0, none⟩)]) := fun o => by rw [World.cell?_alloc_lt w o _ hcl]; exact hcb
  have HWB := Lib.hid (show (w.alloc (.cells #[.int .i64 2, .int .i64 ch, .int .i64 n] 103)).cell? ⟨wb, 0, none⟩ = some (.func (.func 80) #[] #[]) by rw [World.cell?_alloc_lt w _ _ hwl]; exact hwb)
  have HBX := Lib.hid (Blk.new w 103 #[.int .i64 2, .int .i64 ch, .int .i64 n] w.heap.size rfl)
  have HU := Lib.hid hu
  have HROW := Lib.hid hrow
  have HA := Lib.hid ha
  clear hu hrow ha
  clear h hcb hwb
  go_enter Try.func76, Try.ntmps76
  go_wp2_with fail
  refine (cellS_any ch ub uc UA cs a _ (by rw [hal.cell (p := ⟨ub, 0, none⟩) hul]; exact HU.out) (by simp; omega) (HROW.out.below hal) HA.out).mono ?_
  rintro e w1 ⟨rfl, hk⟩
  have hb1 := hal0.trans (hk.mono (by simp; omega))
  have H1 := Lib.hid (H0.out.below hk)
  have hz1 := hk.size
  simp only [World.size_alloc] at hz1
  have cW : w1.cell? ⟨wb, 0, none⟩ = some (.func (.func 80) #[] #[]) := by rw [hk.cell (p := ⟨wb, 0, none⟩) (by simp; omega)]; exact HWB.out
  have HW1 := Lib.hid (show ∀ o, (w1.alloc o).cell? ⟨wb, 0, none⟩ = some (.func (.func 80) #[] #[]) from fun o => by rw [World.cell?_alloc_lt w1 o _ (by show wb < _; omega)]; exact cW)
  have HX1 := HBX.out.below hk
  have cX : ∀ o i, (w1.alloc o).cell? ⟨w.heap.size, i, none⟩ = (#[.int .i64 2, .int .i64 ch, .int .i64 n] : Array Value)[i]? := fun o i => (HX1.al o).cells i
  have hxl : w.heap.size < w1.heap.size := by omega
  clear hk dcb HWB HBX H0 hal hal0 HX1 cW
  by_cases hkd : a.1 = 1
  · have q1 : (a.1 == 1) = true := by rw [beq_iff_eq]; exact hkd
    by_cases hq : a.2.1 < n
    · skip
      have dW := HW1.out
      go_wp2_with fail
      refine (beneath_any a.2.1 n _).mono ?_
      rintro e w2 ⟨rfl, rfl⟩
      rw [decide_eq_true (by omega)]
      go_wp2_with fail
      refine (of_bool _ _).mono ?_
      rintro e w3 ⟨rfl, rfl⟩
      clear dW HW1 cX
      have hal1 := (Below.refl b0 w1).alloc (by omega) (.cells #[.int .i64 1, .int .i64 a.2.1, .int .i64 a.2.2] 55)
      have hb3 := hb1.trans hal1
      have H3 := Lib.hid (H1.out.below ((Below.refl _ _).alloc (Nat.le_refl _) (.cells #[.int .i64 1, .int .i64 a.2.1, .int .i64 a.2.2] 55)))
      clear hal1 hb1 H1
      go_wp2_with fail
      refine (put_any _ b0 pb xs _ H3.out (by omega) (by simp; omega)).mono ?_
      rintro e w4 ⟨rfl, h4, k4⟩
      have hb4 := hb3.trans k4
      have H4 := Lib.hid h4
      clear h4 k4 hb3 H3
      go_wp2
      go_end0
      refine ⟨rfl, ?_, hb4⟩
      have e4 : limO (2, ch, n) a = 2 := by
        unfold limO
        rw [if_pos hkd]
        show (if decide (a.2.1 < n) = true then (2 : Int) else 1) = _
        rw [decide_eq_true (by omega)]
        rfl
      rw [e4]
      exact H4.out
    · skip
      have dW := HW1.out
      go_wp2_with fail
      refine (beneath_any a.2.1 n _).mono ?_
      rintro e w2 ⟨rfl, rfl⟩
      rw [decide_eq_false (by omega)]
      go_wp2_with fail
      refine (of_bool _ _).mono ?_
      rintro e w3 ⟨rfl, rfl⟩
      clear dW HW1 cX
      have hal1 := (Below.refl b0 w1).alloc (by omega) (.cells #[.int .i64 1, .int .i64 a.2.1, .int .i64 a.2.2] 55)
      have hb3 := hb1.trans hal1
      have H3 := Lib.hid (H1.out.below ((Below.refl _ _).alloc (Nat.le_refl _) (.cells #[.int .i64 1, .int .i64 a.2.1, .int .i64 a.2.2] 55)))
      clear hal1 hb1 H1
      go_wp2_with fail
      refine (put_any _ b0 pb xs _ H3.out (by omega) (by simp; omega)).mono ?_
      rintro e w4 ⟨rfl, h4, k4⟩
      have hb4 := hb3.trans k4
      have H4 := Lib.hid h4
      clear h4 k4 hb3 H3
      go_wp2
      go_end0
      refine ⟨rfl, ?_, hb4⟩
      have e4 : limO (2, ch, n) a = 1 := by
        unfold limO
        rw [if_pos hkd]
        show (if decide (a.2.1 < n) = true then (2 : Int) else 1) = _
        rw [decide_eq_false (by omega)]
        rfl
      rw [e4]
      exact H4.out
  · have q1 : (a.1 == 1) = false := beq_false_of_ne hkd
    go_wp2_with fail
    have hal1 := (Below.refl b0 w1).alloc (by omega) (.cells #[.int .i64 a.1, .int .i64 a.2.1, .int .i64 a.2.2] 55)
    have hb3 := hb1.trans hal1
    have H3 := Lib.hid (H1.out.below ((Below.refl _ _).alloc (Nat.le_refl _) (.cells #[.int .i64 a.1, .int .i64 a.2.1, .int .i64 a.2.2] 55)))
    clear hal1 hb1 H1 HW1 cX
    refine (put_any _ b0 pb xs _ H3.out (by omega) (by simp; omega)).mono ?_
    rintro e w4 ⟨rfl, h4, k4⟩
    have hb4 := hb3.trans k4
    have H4 := Lib.hid h4
    clear h4 k4 hb3 H3
    go_wp2
    go_end0
    refine ⟨rfl, ?_, hb4⟩
    rw [lim_unknown _ _ hkd]
    exact H4.out
end Go.Proofs.Ytcdmojimdiiepaa
