/- Layer 2: the sum, by numbers: steps, bytes, rows of bytes as one number. -/
import Derived.Test.YtkpdfapfcmlhhaaMem
namespace Go.Proofs.Ytkpdfapfcmlhhaa
set_option linter.unusedVariables false
set_option linter.unusedSimpArgs false

def poly : Nat := 3988292384
def step (s : Nat) : Nat := if s % 2 = 1 then (s / 2) ^^^ poly else s / 2
def steps : Nat → Nat → Nat
  | 0, s => s
  | n + 1, s => steps n (step s)
theorem steps_add (m n s : Nat) : steps (m + n) s = steps n (steps m s) := by
  induction m generalizing s with
  | zero => rw [Nat.zero_add]; rfl
  | succ m ih => rw [Nat.succ_add]; exact ih (step s)
theorem step_xor (a b : Nat) : step (a ^^^ b) = step a ^^^ step b := by
  unfold step
  by_cases ha : a % 2 = 1 <;> by_cases hb : b % 2 = 1
  · have hc : ¬ (a ^^^ b) % 2 = 1 := by rw [Nat.xor_mod_two_eq_one]; simp [ha, hb]
    rw [if_pos ha, if_pos hb, if_neg hc, Nat.xor_div_two]
    rw [Nat.xor_assoc, Nat.xor_comm (b / 2), ← Nat.xor_assoc poly, Nat.xor_self, Nat.zero_xor]
  · have hc : (a ^^^ b) % 2 = 1 := by rw [Nat.xor_mod_two_eq_one]; simp [ha, hb]
    rw [if_pos ha, if_neg hb, if_pos hc, Nat.xor_div_two]
    rw [Nat.xor_assoc, Nat.xor_assoc, Nat.xor_comm poly]
  · have hc : (a ^^^ b) % 2 = 1 := by rw [Nat.xor_mod_two_eq_one]; simp [ha, hb]
    rw [if_neg ha, if_pos hb, if_pos hc, Nat.xor_div_two, Nat.xor_assoc]
  · have hc : ¬ (a ^^^ b) % 2 = 1 := by rw [Nat.xor_mod_two_eq_one]; simp [ha, hb]
    rw [if_neg ha, if_neg hb, if_neg hc, Nat.xor_div_two]
theorem steps_xor (n a b : Nat) : steps n (a ^^^ b) = steps n a ^^^ steps n b := by
  induction n generalizing a b with
  | zero => rfl
  | succ n ih => show steps n (step (a ^^^ b)) = _; rw [step_xor, ih]; rfl
theorem steps_shl (n a : Nat) : steps n (a <<< n) = a := by
  induction n with
  | zero => rfl
  | succ n ih =>
    show steps n (step (a <<< (n + 1))) = a
    have h : step (a <<< (n + 1)) = a <<< n := by
      unfold step
      rw [Nat.shiftLeft_succ]
      rw [if_neg (by omega)]
      omega
    rw [h, ih]
theorem step_lt (s : Nat) (h : s < 4294967296) : step s < 4294967296 := by
  unfold step
  split
  · exact Nat.xor_lt_two_pow (n := 32) (by omega) (by decide)
  · omega
theorem steps_lt (n s : Nat) (h : s < 4294967296) : steps n s < 4294967296 := by
  induction n generalizing s with
  | zero => exact h
  | succ n ih => exact ih _ (step_lt s h)
theorem xor_zero {a b : Nat} (h : a ^^^ b = 0) : a = b := by
  have h1 : (a ^^^ b) ^^^ b = 0 ^^^ b := by rw [h]
  rw [Nat.xor_assoc, Nat.xor_self, Nat.xor_zero, Nat.zero_xor] at h1
  exact h1
theorem step_ne (s : Nat) (h : s < 4294967296) (h0 : s ≠ 0) : step s ≠ 0 := by
  unfold step
  split
  · intro hc
    have := xor_zero hc
    unfold poly at this
    omega
  · omega
theorem steps_ne (n s : Nat) (h : s < 4294967296) (h0 : s ≠ 0) : steps n s ≠ 0 := by
  induction n generalizing s with
  | zero => exact h0
  | succ n ih => exact ih _ (step_lt s h) (step_ne s h h0)

/-- a row of bytes, as one number: the first one lowest -/
def nnum : List Nat → Nat
  | [] => 0
  | x :: l => x ^^^ (nnum l <<< 8)
/-- a state that takes bytes -/
def feed (s : Nat) (l : List Nat) : Nat := l.foldl (fun s x => steps 8 (s ^^^ x)) s
theorem feed_cons (s x : Nat) (l : List Nat) : feed s (x :: l) = feed (steps 8 (s ^^^ x)) l := rfl
theorem feed_app (s : Nat) (l m : List Nat) : feed s (l ++ m) = feed (feed s l) m := by simp [feed]
theorem feed_num (s : Nat) (l : List Nat) : feed s l = steps (8 * l.length) (s ^^^ nnum l) := by
  induction l generalizing s with
  | nil => simp [feed, nnum, steps]
  | cons x l ih =>
    rw [feed_cons, ih, List.length_cons, Nat.mul_succ, Nat.add_comm (8 * l.length) 8, steps_add]
    congr 1
    show _ = steps 8 (s ^^^ (x ^^^ nnum l <<< 8))
    rw [← Nat.xor_assoc, steps_xor 8 (s ^^^ x) (nnum l <<< 8), steps_shl]
theorem xor_lt32 (a b : Nat) (ha : a < 4294967296) (hb : b < 4294967296) : a ^^^ b < 4294967296 := Nat.xor_lt_two_pow (n := 32) ha hb
theorem feed_lt (s : Nat) (l : List Nat) (h : s < 4294967296) (hl : ∀ x ∈ l, x < 256) : feed s l < 4294967296 := by
  induction l generalizing s with
  | nil => exact h
  | cons x l ih =>
    rw [feed_cons]
    have hx := hl x (by simp)
    exact ih _ (steps_lt _ _ (xor_lt32 _ _ h (by omega))) (fun y hy => hl y (by simp [hy]))

/-- by a table -/
theorem by_table (s x : Nat) : (s / 256) ^^^ steps 8 ((s % 256) ^^^ x) = steps 8 (s ^^^ x) := by
  have h : s = (s % 256) ^^^ ((s / 256) <<< 8) := by
    have h1 := Nat.mod_add_div s 256
    have h2 : (s / 256) <<< 8 + s % 256 = (s / 256) <<< 8 ||| s % 256 := by
      rw [Nat.shiftLeft_eq, Nat.mul_comm]; exact Nat.two_pow_add_eq_or_of_lt (i := 8) (Nat.mod_lt _ (by decide)) _
    have h3 : (s / 256) <<< 8 ||| s % 256 = (s / 256) <<< 8 ^^^ s % 256 := by
      apply Nat.eq_of_testBit_eq
      intro i
      rw [Nat.testBit_or, Nat.testBit_xor, Nat.testBit_shiftLeft]
      by_cases hi : 8 ≤ i
      · have : (s % 256).testBit i = false := Nat.testBit_lt_two_pow (Nat.lt_of_lt_of_le (Nat.mod_lt _ (by decide : 0 < 256)) (Nat.pow_le_pow_right (by decide) hi : 2 ^ 8 ≤ 2 ^ i))
        simp [this]
      · simp [hi]
    rw [Nat.xor_comm, ← h3, ← h2, Nat.shiftLeft_eq]
    omega
  have e : s ^^^ x = ((s % 256) ^^^ x) ^^^ ((s / 256) <<< 8) := by
    conv => lhs; rw [h]
    rw [Nat.xor_assoc, Nat.xor_comm ((s / 256) <<< 8), ← Nat.xor_assoc]
  rw [e, steps_xor 8 (s % 256 ^^^ x) ((s / 256) <<< 8), steps_shl, Nat.xor_comm]
theorem add_xor (k r : Nat) (h : r < 2 ^ k) : 2 ^ k + r = 2 ^ k ^^^ r := by
  have h2 : 2 ^ k * 1 + r = 2 ^ k * 1 ||| r := Nat.two_pow_add_eq_or_of_lt h 1
  rw [Nat.mul_one] at h2
  rw [h2]
  apply Nat.eq_of_testBit_eq
  intro i
  rw [Nat.testBit_or, Nat.testBit_xor]
  by_cases hi : i = k
  · subst hi
    rw [Nat.testBit_lt_two_pow h]
    simp
  · rw [Nat.testBit_two_pow_of_ne (Ne.symm hi)]
    simp
/-- what all bits turned are -/
theorem not_xor (s : Nat) (h : s < 4294967296) : 4294967295 - s = 4294967295 ^^^ s := by
  have h1 : (BitVec.allOnes 32 ^^^ BitVec.ofNat 32 s) = ~~~ (BitVec.ofNat 32 s) := by rw [BitVec.allOnes_xor]
  have h2 := congrArg BitVec.toNat h1
  rw [BitVec.toNat_xor, BitVec.toNat_not, BitVec.toNat_allOnes, BitVec.toNat_ofNat, Nat.mod_eq_of_lt (by omega)] at h2
  have h3 : (2 ^ 32 - 1 : Nat) = 4294967295 := by decide
  rw [h3] at h2
  omega

/-! ### the laws, by numbers -/
def sumN (s : Nat) (l : List Nat) : Nat := 4294967295 - feed (4294967295 - s) l
theorem sum_parts (l m : List Nat) (hl : ∀ x ∈ l, x < 256) : sumN (sumN 0 l) m = sumN 0 (l ++ m) := by
  unfold sumN
  have h := feed_lt 4294967295 l (by omega) hl
  rw [feed_app]
  congr 2
  rw [Nat.sub_zero]
  omega
theorem feed3 (s t u : Nat) : ∀ (a b c : List Nat), a.length = b.length → b.length = c.length → feed (s ^^^ t ^^^ u) (List.zipWith (· ^^^ ·) (List.zipWith (· ^^^ ·) a b) c) = feed s a ^^^ feed t b ^^^ feed u c := by
  intro a
  induction a generalizing s t u with
  | nil =>
    intro b c h1 h2
    have hb : b = [] := List.eq_nil_of_length_eq_zero h1.symm
    subst hb
    have hc : c = [] := List.eq_nil_of_length_eq_zero h2.symm
    subst hc
    rfl
  | cons x a ih =>
    intro b c h1 h2
    cases b with
    | nil => simp at h1
    | cons y b =>
      cases c with
      | nil => simp at h2
      | cons z c =>
        simp only [List.length_cons, Nat.add_right_cancel_iff] at h1 h2
        simp only [List.zipWith_cons_cons, feed_cons]
        rw [← ih _ _ _ _ _ h1 h2]
        congr 1
        rw [← steps_xor, ← steps_xor]
        congr 1
        ac_rfl
theorem sum_linear (a b c : List Nat) (h1 : a.length = b.length) (h2 : b.length = c.length) (ha : ∀ x ∈ a, x < 256) (hb : ∀ x ∈ b, x < 256) (hc : ∀ x ∈ c, x < 256) :
    sumN 0 (List.zipWith (· ^^^ ·) (List.zipWith (· ^^^ ·) a b) c) = sumN 0 a ^^^ sumN 0 b ^^^ sumN 0 c := by
  unfold sumN
  have la := feed_lt 4294967295 a (by omega) ha
  have lb := feed_lt 4294967295 b (by omega) hb
  have lc := feed_lt 4294967295 c (by omega) hc
  have h := feed3 4294967295 4294967295 4294967295 a b c h1 h2
  rw [Nat.xor_self, Nat.zero_xor] at h
  simp only [Nat.sub_zero]
  rw [h]
  have lab := xor_lt32 _ _ la lb
  rw [not_xor _ (xor_lt32 _ _ lab lc), not_xor _ la, not_xor _ lb, not_xor _ lc]
  generalize feed 4294967295 a = p
  generalize feed 4294967295 b = q
  generalize feed 4294967295 c = r
  have e : (4294967295 ^^^ p) ^^^ (4294967295 ^^^ q) ^^^ (4294967295 ^^^ r) = (4294967295 ^^^ 4294967295) ^^^ (4294967295 ^^^ (p ^^^ q ^^^ r)) := by ac_rfl
  rw [e, Nat.xor_self, Nat.zero_xor]
/-- the four bytes of a number, the lowest first -/
def le4 (y : Nat) : List Nat := [y % 256, y / 256 % 256, y / 65536 % 256, y / 16777216 % 256]
theorem split8 (y : Nat) : y = (y % 256) ^^^ ((y / 256) <<< 8) := by
  apply Nat.eq_of_testBit_eq
  intro i
  rw [Nat.testBit_xor, Nat.testBit_shiftLeft]
  by_cases hi : 8 ≤ i
  · have h1 : (y % 256).testBit i = false := Nat.testBit_lt_two_pow (Nat.lt_of_lt_of_le (Nat.mod_lt _ (by decide : 0 < 256)) (Nat.pow_le_pow_right (by decide) hi : 2 ^ 8 ≤ 2 ^ i))
    have h2 : (y / 256).testBit (i - 8) = y.testBit i := by
      rw [show (256 : Nat) = 2 ^ 8 by decide, Nat.testBit_div_two_pow]
      congr 1; omega
    simp [h1, h2, hi]
  · have h1 : (y % 256).testBit i = y.testBit i := by
      rw [show (256 : Nat) = 2 ^ 8 by decide, Nat.testBit_mod_two_pow]
      simp; omega
    simp [h1, hi]
theorem nnum_le4 (y : Nat) (h : y < 4294967296) : nnum (le4 y) = y := by
  have h0 := split8 y
  have h1 := split8 (y / 256)
  have h2 := split8 (y / 65536)
  have h3 := split8 (y / 16777216)
  have e1 : y / 256 / 256 = y / 65536 := by omega
  have e2 : y / 65536 / 256 = y / 16777216 := by omega
  have e3 : y / 16777216 / 256 = 0 := by omega
  rw [e1] at h1
  rw [e2] at h2
  rw [e3] at h3
  simp only [le4, nnum]
  rw [show (0 : Nat) <<< 8 = 0 by decide] at h3 ⊢
  rw [← h3, ← h2, ← h1, ← h0]
theorem sum_zero (l : List Nat) (hl : ∀ x ∈ l, x < 256) : sumN 0 (l ++ le4 (sumN 0 l)) = 558161692 := by
  have h := feed_lt 4294967295 l (by omega) hl
  have hs : sumN 0 l = 4294967295 - feed 4294967295 l := rfl
  have hs2 : sumN 0 l < 4294967296 := by omega
  have : sumN 0 (l ++ le4 (sumN 0 l)) = 4294967295 - feed (feed 4294967295 l) (le4 (sumN 0 l)) := by unfold sumN; rw [feed_app]
  rw [this, feed_num, nnum_le4 _ hs2, hs, not_xor _ h]
  rw [Nat.xor_comm 4294967295, ← Nat.xor_assoc, Nat.xor_self, Nat.zero_xor]
  show 4294967295 - steps 32 (0 ^^^ 4294967295) = 558161692
  decide +kernel
theorem nnum_lt : ∀ (l : List Nat), (∀ x ∈ l, x < 256) → nnum l < 2 ^ (8 * l.length)
  | [], _ => by simp [nnum]
  | x :: l, h => by
    have h1 := nnum_lt l (fun y hy => h y (by simp [hy]))
    have h2 := h x (by simp)
    show x ^^^ (nnum l <<< 8) < _
    rw [List.length_cons, Nat.mul_succ]
    refine Nat.xor_lt_two_pow ?_ ?_
    · exact Nat.lt_of_lt_of_le h2 (by rw [show (256 : Nat) = 2 ^ 8 by decide]; exact Nat.pow_le_pow_right (by decide) (by omega))
    · rw [Nat.shiftLeft_eq, Nat.pow_add]; exact Nat.mul_lt_mul_of_pos_right h1 (by decide)
/-- one bit of one byte turned -/
theorem nnum_set (j r : Nat) : ∀ (i : Nat) (l : List Nat), l[i]? = some j → nnum (l.set i (j ^^^ r)) = nnum l ^^^ (r <<< (8 * i))
  | 0, x :: l, h => by
    simp at h
    subst h
    show (x ^^^ r) ^^^ (nnum l <<< 8) = (x ^^^ nnum l <<< 8) ^^^ r <<< (8 * 0)
    rw [Nat.mul_zero, Nat.shiftLeft_zero]
    ac_rfl
  | i + 1, x :: l, h => by
    have h' : l[i]? = some j := by simpa using h
    have ih := nnum_set j r i l h'
    show x ^^^ (nnum (l.set i (j ^^^ r)) <<< 8) = (x ^^^ nnum l <<< 8) ^^^ r <<< (8 * (i + 1))
    rw [ih, Nat.shiftLeft_xor_distrib, ← Nat.shiftLeft_add, Nat.mul_succ, Nat.xor_assoc]
  | 0, [], h => by simp at h
  | i + 1, [], h => by simp at h
theorem sum_burst (b c : List Nat) (k w : Nat) (hb : ∀ x ∈ b, x < 256) (hc : ∀ x ∈ c, x < 256) (hl : c.length = b.length) (hk : k + 32 ≤ 8 * b.length) (hw : w < 4294967296) (hw0 : w ≠ 0)
    (hn : nnum c = nnum b ^^^ (w <<< k)) : sumN 0 c ≠ sumN 0 b := by
  intro he
  have h1 := feed_lt 4294967295 b (by omega) hb
  have h2 := feed_lt 4294967295 c (by omega) hc
  have he2 : feed 4294967295 c = feed 4294967295 b := by
    have : 4294967295 - feed 4294967295 c = 4294967295 - feed 4294967295 b := he
    omega
  rw [feed_num, feed_num, hl, hn, ← Nat.xor_assoc, steps_xor] at he2
  have hz : steps (8 * b.length) (w <<< k) = 0 := by
    generalize steps (8 * b.length) (4294967295 ^^^ nnum b) = x at he2
    generalize steps (8 * b.length) (w <<< k) = y at he2
    have h3 : x ^^^ (x ^^^ y) = x ^^^ x := by rw [he2]
    rw [← Nat.xor_assoc, Nat.xor_self, Nat.zero_xor] at h3
    exact h3
  have e : 8 * b.length = k + (8 * b.length - k) := by omega
  rw [e, steps_add, steps_shl] at hz
  exact steps_ne _ w hw hw0 hz
end Go.Proofs.Ytkpdfapfcmlhhaa
