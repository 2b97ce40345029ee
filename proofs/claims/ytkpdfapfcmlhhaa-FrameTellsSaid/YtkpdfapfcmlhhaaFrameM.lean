/- Layer 3: frames, mathematics. -/
import Derived.Test.YtkpdfapfcmlhhaaCrcC
import Derived.Test.YtkpdfapfcmlhhaaBitsP
namespace Go.Proofs.Ytkpdfapfcmlhhaa
open Go.ChangeShapes Go.WideShapes Go.ChangeAt Go.RowKit
set_option linter.unusedVariables false
set_option linter.unusedSimpArgs false

def U8s (l : List Int) : Prop := ∀ x ∈ l, 0 ≤ x ∧ x ≤ 255
theorem U8s.app {l m : List Int} (h : U8s l) (k : U8s m) : U8s (l ++ m) := fun x hx => by
  rcases List.mem_append.1 hx with h1 | h1
  · exact h x h1
  · exact k x h1
theorem U8s.cons {l : List Int} {y : Int} (hy : 0 ≤ y ∧ y ≤ 255) (h : U8s l) : U8s (y :: l) := fun x hx => by
  rcases List.mem_cons.1 hx with h1 | h1
  · rw [h1]; exact hy
  · exact h x h1
theorem U8s.take {l : List Int} (h : U8s l) (k : Nat) : U8s (l.take k) := fun x hx => h x (List.mem_of_mem_take hx)
theorem U8s.drop {l : List Int} (h : U8s l) (k : Nat) : U8s (l.drop k) := fun x hx => h x (List.mem_of_mem_drop hx)

def toN (l : List Int) : List Nat := l.map Int.toNat
theorem toN_lt {l : List Int} (h : U8s l) : ∀ x ∈ toN l, x < 256 := fun x hx => by
  obtain ⟨z, hz, rfl⟩ := List.mem_map.1 hx
  have := h z hz
  omega
def sum4 (b : List Int) : List Int := putB ((sumN 0 (toN b) : Nat) : Int) 4
theorem sum4_len (b : List Int) : (sum4 b).length = 4 := putB_len _ _
theorem sum4_range (b : List Int) : U8s (sum4 b) := putB_range _ _
def framed (d : List Int) : List Int := 165 :: (d.length : Int) :: (d ++ sum4 ((d.length : Int) :: d))
theorem framed_len (d : List Int) : (framed d).length = d.length + 6 := by simp [framed, sum4_len]
theorem framed_range {d : List Int} (h : U8s d) (hl : d.length ≤ 255) : U8s (framed d) :=
  U8s.cons (by omega) (U8s.cons (by omega) (h.app (sum4_range _)))

/-- the count of a frame -/
def cnt (b : List Int) : Nat := (b.getD 1 0).toNat
def wholeB (b : List Int) : Bool := decide (2 ≤ b.length ∧ cnt b + 6 ≤ b.length)
def rightB (b : List Int) : Bool := decide ((b.drop (2 + cnt b)).take 4 = sum4 ((b.drop 1).take (1 + cnt b)))
def dataB (b : List Int) : List Int := (b.drop 2).take (cnt b)

@[ext] structure Sp where
  fs : List (List Int)
  rest : List Int
  bad : Nat
deriving DecidableEq
def Sp.put (F : List (List Int)) (p : Nat) (s : Sp) : Sp := ⟨F ++ s.fs, s.rest, p + s.bad⟩
theorem Sp.put_nil (s : Sp) : Sp.put [] 0 s = s := by simp [Sp.put]
theorem Sp.put_put (F G : List (List Int)) (p q : Nat) (s : Sp) : Sp.put F p (Sp.put G q s) = Sp.put (F ++ G) (p + q) s := by
  simp [Sp.put, Nat.add_assoc]

def splitN : Nat → List Int → Sp
  | 0, b => ⟨[], b, 0⟩
  | _ + 1, [] => ⟨[], [], 0⟩
  | f + 1, x :: r =>
    if x ≠ 165 then (splitN f r).put [] 1
    else if wholeB (x :: r) = false then ⟨[], x :: r, 0⟩
    else if rightB (x :: r) = true then (splitN f ((x :: r).drop (cnt (x :: r) + 6))).put [dataB (x :: r)] 0
    else (splitN f r).put [] 1
theorem splitN_eq : ∀ (f g : Nat) (b : List Int), b.length ≤ f → b.length ≤ g → splitN f b = splitN g b := by
  intro f
  induction f with
  | zero =>
    intro g b h1 h2
    have : b = [] := List.eq_nil_of_length_eq_zero (by omega)
    subst this
    cases g <;> rfl
  | succ f ih =>
    intro g b h1 h2
    cases b with
    | nil => cases g <;> rfl
    | cons x r =>
      cases g with
      | zero => simp at h2
      | succ g =>
        simp only [List.length_cons] at h1 h2
        have h3 : ((x :: r).drop (cnt (x :: r) + 6)).length ≤ r.length := by simp
        simp only [splitN]
        rw [ih g r (by omega) (by omega), ih g _ (by omega) (by omega)]
def split (b : List Int) : Sp := splitN b.length b
theorem split_eq {f : Nat} {b : List Int} (h : b.length ≤ f) : splitN f b = split b := splitN_eq _ _ _ h (Nat.le_refl _)
theorem split_nil : split [] = ⟨[], [], 0⟩ := rfl
theorem split_pass {x : Int} (r : List Int) (h : x ≠ 165) : split (x :: r) = (split r).put [] 1 := by
  show splitN (r.length + 1) (x :: r) = _
  rw [splitN, if_pos h]
  rfl
theorem split_rest {r : List Int} (h : wholeB (165 :: r) = false) : split (165 :: r) = ⟨[], 165 :: r, 0⟩ := by
  show splitN (r.length + 1) (165 :: r) = _
  rw [splitN, if_neg (by decide), if_pos h]
theorem split_frame {r : List Int} (h : wholeB (165 :: r) = true) (hr : rightB (165 :: r) = true) : split (165 :: r) = (split ((165 :: r).drop (cnt (165 :: r) + 6))).put [dataB (165 :: r)] 0 := by
  show splitN (r.length + 1) (165 :: r) = _
  rw [splitN, if_neg (by decide), if_neg (by simp [h]), if_pos hr, split_eq (by simp)]
theorem split_bad {r : List Int} (h : wholeB (165 :: r) = true) (hr : rightB (165 :: r) = false) : split (165 :: r) = (split r).put [] 1 := by
  show splitN (r.length + 1) (165 :: r) = _
  rw [splitN, if_neg (by decide), if_neg (by simp [h]), if_neg (by simp [hr])]
  rfl
/-- one step of a split -/
theorem split_cases (b : List Int) : b = [] ∨ (∃ x r, b = x :: r ∧ x ≠ 165) ∨ (∃ r, b = 165 :: r ∧ wholeB b = false) ∨ (∃ r, b = 165 :: r ∧ wholeB b = true ∧ rightB b = true) ∨ (∃ r, b = 165 :: r ∧ wholeB b = true ∧ rightB b = false) := by
  cases b with
  | nil => exact .inl rfl
  | cons x r =>
    by_cases hx : x = 165
    · subst hx
      cases hw : wholeB (165 :: r)
      · exact .inr (.inr (.inl ⟨r, rfl, rfl⟩))
      · cases hr : rightB (165 :: r)
        · exact .inr (.inr (.inr (.inr ⟨r, rfl, rfl, rfl⟩)))
        · exact .inr (.inr (.inr (.inl ⟨r, rfl, rfl, rfl⟩)))
    · exact .inr (.inl ⟨x, r, rfl, hx⟩)

theorem whole_len {b : List Int} (h : wholeB b = true) : 2 ≤ b.length ∧ cnt b + 6 ≤ b.length := of_decide_eq_true h
theorem cnt_app (a s : List Int) (h : 2 ≤ a.length) : cnt (a ++ s) = cnt a := by
  unfold cnt
  rw [List.getD_eq_getElem?_getD, List.getD_eq_getElem?_getD, List.getElem?_append_left (by omega)]
theorem whole_app {a : List Int} (s : List Int) (h : wholeB a = true) : wholeB (a ++ s) = true := by
  have := whole_len h
  apply decide_eq_true
  rw [cnt_app a s this.1, List.length_append]
  omega
theorem take_drop_app {a : List Int} (s : List Int) (i n : Nat) (h : i + n ≤ a.length) : ((a ++ s).drop i).take n = (a.drop i).take n := by
  rw [List.drop_append_of_le_length (by omega), List.take_append_of_le_length (by simp; omega)]
theorem right_app {a : List Int} (s : List Int) (h : wholeB a = true) : rightB (a ++ s) = rightB a := by
  have := whole_len h
  unfold rightB
  rw [cnt_app a s this.1, take_drop_app s _ _ (by omega), take_drop_app s _ _ (by omega)]
theorem data_app {a : List Int} (s : List Int) (h : wholeB a = true) : dataB (a ++ s) = dataB a := by
  have := whole_len h
  unfold dataB
  rw [cnt_app a s this.1, take_drop_app s _ _ (by omega)]

/-- parts -/
theorem split_parts : ∀ (n : Nat) (a b : List Int), a.length ≤ n → split (a ++ b) = (split ((split a).rest ++ b)).put (split a).fs (split a).bad := by
  intro n
  induction n with
  | zero =>
    intro a b h
    have : a = [] := List.eq_nil_of_length_eq_zero (by omega)
    subst this
    simp [split_nil, Sp.put_nil]
  | succ n ih =>
    intro a b h
    rcases split_cases a with rfl | ⟨x, r, rfl, hx⟩ | ⟨r, rfl, hw⟩ | ⟨r, rfl, hw, hr⟩ | ⟨r, rfl, hw, hr⟩
    · simp [split_nil, Sp.put_nil]
    · rw [List.cons_append, split_pass _ hx, split_pass _ hx, ih r b (by simp at h; omega), Sp.put_put]
      simp [Sp.put]
    · rw [split_rest hw]
      simp [Sp.put_nil]
    · have hl := whole_len hw
      have e : (165 :: r : List Int) ++ b = 165 :: (r ++ b) := rfl
      have hw' := whole_app b hw
      have hr' := right_app b hw
      have hd' := data_app b hw
      have hc' := cnt_app (165 :: r) b hl.1
      rw [hr] at hr'
      rw [e] at hw' hr' hd' hc' ⊢
      rw [split_frame hw' hr', split_frame hw hr, hd', hc', ← e, List.drop_append_of_le_length (by omega), ih _ b (by simp at h ⊢; omega), Sp.put_put]
      simp [Sp.put]
    · have e : (165 :: r : List Int) ++ b = 165 :: (r ++ b) := rfl
      have hw' := whole_app b hw
      have hr' := right_app b hw
      rw [hr] at hr'
      rw [e] at hw' hr' ⊢
      rw [split_bad hw' hr', split_bad hw hr, ih r b (by simp at h; omega), Sp.put_put]
      simp [Sp.put]
theorem split_app (a b : List Int) : split (a ++ b) = (split ((split a).rest ++ b)).put (split a).fs (split a).bad := split_parts a.length a b (Nat.le_refl _)

theorem split_framed (d s : List Int) (h : U8s d) (hl : d.length ≤ 255) : split (framed d ++ s) = (split s).put [d] 0 := by
  have hc : cnt (framed d) = d.length := by simp [cnt, framed]
  have hw : wholeB (framed d) = true := decide_eq_true (by rw [hc, framed_len]; omega)
  have e1 : (framed d).drop (2 + d.length) = sum4 ((d.length : Int) :: d) := by
    show (165 :: (d.length : Int) :: (d ++ sum4 ((d.length : Int) :: d))).drop (2 + d.length) = _
    rw [show 2 + d.length = d.length + 1 + 1 from by omega, List.drop_succ_cons, List.drop_succ_cons, List.drop_left]
  have e2 : ((framed d).drop 1).take (1 + d.length) = (d.length : Int) :: d := by
    show ((d.length : Int) :: (d ++ sum4 ((d.length : Int) :: d))).take (1 + d.length) = _
    rw [show 1 + d.length = d.length + 1 from by omega, List.take_succ_cons, List.take_left]
  have hr : rightB (framed d) = true := decide_eq_true (by
    rw [hc, e1, e2, List.take_of_length_le (by rw [sum4_len]; omega)])
  have hd : dataB (framed d) = d := by
    unfold dataB
    rw [hc]
    show (d ++ sum4 ((d.length : Int) :: d)).take d.length = d
    rw [List.take_left]
  have hw' := whole_app s hw
  have hr' := right_app s hw
  have hd' := data_app s hw
  have hc' := cnt_app (framed d) s (by rw [framed_len]; omega)
  rw [hr] at hr'
  rw [hd] at hd'
  rw [hc] at hc'
  have e : framed d ++ s = 165 :: ((d.length : Int) :: (d ++ sum4 ((d.length : Int) :: d)) ++ s) := rfl
  have hdrop : (framed d ++ s).drop (d.length + 6) = s := by
    rw [show d.length + 6 = (framed d).length from (framed_len d).symm, List.drop_left]
  rw [e] at hw' hr' hd' hc' hdrop ⊢
  rw [split_frame hw' hr', hd', hc', hdrop]

theorem split_noise : ∀ (n s : List Int), (∀ x ∈ n, x ≠ 165) → split (n ++ s) = (split s).put [] n.length := by
  intro n
  induction n with
  | nil => intro s _; simp [Sp.put_nil]
  | cons x n ih =>
    intro s h
    rw [List.cons_append, split_pass _ (h x (by simp)), ih s (fun y hy => h y (by simp [hy])), Sp.put_put]
    simp [Nat.add_comm]

def flen (l : List (List Int)) : Nat := (l.map fun f => f.length + 6).sum
theorem flen_snoc (l : List (List Int)) (x : List Int) : flen (l ++ [x]) = flen l + (x.length + 6) := by simp [flen]
/-- each byte counts once; the rest is the end, begins with a mark, and is shorter than its frame -/
theorem split_count : ∀ (n : Nat) (b : List Int), b.length ≤ n → (split b).rest.length + (split b).bad + flen (split b).fs = b.length ∧
    (∃ pre, b = pre ++ (split b).rest) ∧ ((split b).rest = [] ∨ ∃ r, (split b).rest = 165 :: r ∧ wholeB (165 :: r) = false) := by
  intro n
  induction n with
  | zero =>
    intro b h
    have : b = [] := List.eq_nil_of_length_eq_zero (by omega)
    subst this
    exact ⟨rfl, ⟨[], rfl⟩, .inl rfl⟩
  | succ n ih =>
    intro b h
    rcases split_cases b with rfl | ⟨x, r, rfl, hx⟩ | ⟨r, rfl, hw⟩ | ⟨r, rfl, hw, hr⟩ | ⟨r, rfl, hw, hr⟩
    · exact ⟨rfl, ⟨[], rfl⟩, .inl rfl⟩
    · obtain ⟨h1, ⟨pre, h2⟩, h3⟩ := ih r (by simp at h; omega)
      rw [split_pass _ hx]
      refine ⟨?_, ⟨x :: pre, ?_⟩, h3⟩
      · simp [Sp.put] at *; omega
      · show x :: r = x :: pre ++ (split r).rest
        rw [List.cons_append, ← h2]
    · rw [split_rest hw]
      exact ⟨by simp [flen], ⟨[], rfl⟩, .inr ⟨r, rfl, hw⟩⟩
    · have hl := whole_len hw
      obtain ⟨h1, ⟨pre, h2⟩, h3⟩ := ih ((165 :: r).drop (cnt (165 :: r) + 6)) (by simp at h ⊢; omega)
      rw [split_frame hw hr]
      have hdl : (dataB (165 :: r)).length = cnt (165 :: r) := by unfold dataB; rw [List.length_take, List.length_drop]; omega
      refine ⟨?_, ⟨(165 :: r).take (cnt (165 :: r) + 6) ++ pre, ?_⟩, h3⟩
      · have e : flen (Sp.put [dataB (165 :: r)] 0 (split ((165 :: r).drop (cnt (165 :: r) + 6)))).fs = cnt (165 :: r) + 6 + flen (split ((165 :: r).drop (cnt (165 :: r) + 6))).fs := by simp [Sp.put, flen, hdl]
        rw [e]
        have e2 : ((165 :: r).drop (cnt (165 :: r) + 6)).length = (165 :: r).length - (cnt (165 :: r) + 6) := by rw [List.length_drop]
        rw [e2] at h1
        show (split ((165 :: r).drop (cnt (165 :: r) + 6))).rest.length + (0 + (split ((165 :: r).drop (cnt (165 :: r) + 6))).bad) + _ = _
        omega
      · show (165 :: r : List Int) = _ ++ (split ((165 :: r).drop (cnt (165 :: r) + 6))).rest
        rw [List.append_assoc, ← h2, List.take_append_drop]
    · obtain ⟨h1, ⟨pre, h2⟩, h3⟩ := ih r (by simp at h; omega)
      rw [split_bad hw hr]
      refine ⟨?_, ⟨165 :: pre, ?_⟩, h3⟩
      · simp [Sp.put] at *; omega
      · show 165 :: r = 165 :: pre ++ (split r).rest
        rw [List.cons_append, ← h2]
theorem flen_mem {l : List (List Int)} {f : List Int} (h : f ∈ l) : f.length + 6 ≤ flen l := by
  induction l with
  | nil => cases h
  | cons a l ih =>
    rcases List.mem_cons.1 h with rfl | h
    · simp [flen]
    · have := ih h; simp [flen] at *; omega
theorem split_small {b f : List Int} (h : f ∈ (split b).fs) : f.length + 6 ≤ b.length := by
  have := (split_count b.length b (Nat.le_refl _)).1
  have := flen_mem h
  omega
theorem split_rest_suffix (b : List Int) : ∃ pre, b = pre ++ (split b).rest := (split_count b.length b (Nat.le_refl _)).2.1
theorem split_rest_range {b : List Int} (h : U8s b) : U8s (split b).rest := fun x hx => by
  obtain ⟨pre, e⟩ := split_rest_suffix b
  exact h x (by rw [e]; exact List.mem_append_right _ hx)
theorem rest_len {b : List Int} (h : U8s b) : (split b).rest.length ≤ 260 := by
  have hr := split_rest_range h
  rcases (split_count b.length b (Nat.le_refl _)).2.2 with h1 | ⟨r, h1, h2⟩
  · rw [h1]; decide
  · rw [h1] at hr ⊢
    have h3 : ¬ (2 ≤ (165 :: r).length ∧ cnt (165 :: r) + 6 ≤ (165 :: r).length) := of_decide_eq_false h2
    have h4 : cnt (165 :: r) ≤ 255 := by
      unfold cnt
      cases r with
      | nil => simp
      | cons y r =>
        have := hr y (by simp)
        simp
        omega
    omega

theorem sum_lt32 (l : List Nat) (hl : ∀ x ∈ l, x < 256) : sumN 0 l < 4294967296 := by
  unfold sumN
  omega
theorem sum4_inj {a b : List Int} (ha : U8s a) (hb : U8s b) (h : sum4 a = sum4 b) : sumN 0 (toN a) = sumN 0 (toN b) := by
  have h1 := sum_lt32 _ (toN_lt ha)
  have h2 := sum_lt32 _ (toN_lt hb)
  have k1 := num_putB 4 ((sumN 0 (toN a) : Nat) : Int) (by omega) (by simp; omega)
  have k2 := num_putB 4 ((sumN 0 (toN b) : Nat) : Int) (by omega) (by simp; omega)
  unfold sum4 at h
  rw [h] at k1
  rw [k1] at k2
  omega
theorem num4_sum4 {a c : List Int} (ha : U8s a) (hc : U8s c) (hl : c.length = 4) : (((sumN 0 (toN a) : Nat) : Int) = num c) ↔ c = sum4 a := by
  have h1 := sum_lt32 _ (toN_lt ha)
  constructor
  · intro h
    have := putB_num c hc
    rw [hl, ← h] at this
    exact this.symm
  · intro h
    rw [h]
    exact (num_putB 4 _ (by omega) (by simp; omega)).symm
/-- one byte turned turns the sum -/
theorem sum_turned (b : List Nat) (i j y : Nat) (hb : ∀ x ∈ b, x < 256) (hj : b[i]? = some j) (hy : y < 256) (hne : y ≠ j) : sumN 0 (b.set i y) ≠ sumN 0 b := by
  intro he
  have hi : i < b.length := (List.getElem?_eq_some_iff.1 hj).1
  have hc : ∀ x ∈ b.set i y, x < 256 := fun x hx => by
    rcases List.mem_or_eq_of_mem_set hx with h | h
    · exact hb x h
    · rw [h]; exact hy
  have hj8 := hb j (List.mem_of_getElem? hj)
  have hxy : j ^^^ (j ^^^ y) = y := by rw [← Nat.xor_assoc, Nat.xor_self, Nat.zero_xor]
  have hn := nnum_set j (j ^^^ y) i b hj
  rw [hxy] at hn
  have hw : j ^^^ y < 4294967296 := xor_lt32 j y (by omega) (by omega)
  have hw0 : j ^^^ y ≠ 0 := fun h => hne (xor_zero h).symm
  generalize j ^^^ y = r at *
  generalize hcc : b.set i y = c at *
  have hl : c.length = b.length := by rw [← hcc, List.length_set]
  have h1 := feed_lt 4294967295 b (by omega) hb
  have h2 := feed_lt 4294967295 c (by omega) hc
  have he2 : feed 4294967295 c = feed 4294967295 b := by
    have : 4294967295 - feed 4294967295 c = 4294967295 - feed 4294967295 b := he
    omega
  rw [feed_num, feed_num, hl, hn, ← Nat.xor_assoc, steps_xor] at he2
  have hz : steps (8 * b.length) (r <<< (8 * i)) = 0 := by
    generalize steps (8 * b.length) (4294967295 ^^^ nnum b) = x at he2
    generalize steps (8 * b.length) (r <<< (8 * i)) = y at he2
    have h3 : x ^^^ (x ^^^ y) = x ^^^ x := by rw [he2]
    rw [← Nat.xor_assoc, Nat.xor_self, Nat.zero_xor] at h3
    exact h3
  have e : 8 * b.length = 8 * i + (8 * b.length - 8 * i) := by omega
  rw [e, steps_add, steps_shl] at hz
  exact steps_ne _ r hw hw0 hz

theorem U8s.set {l : List Int} (h : U8s l) (i : Nat) {y : Int} (hy : 0 ≤ y ∧ y ≤ 255) : U8s (l.set i y) := fun x hx => by
  rcases List.mem_or_eq_of_mem_set hx with h1 | h1
  · exact h x h1
  · rw [h1]; exact hy

theorem split_spoilt (d : List Int) (h : U8s d) (hl : d.length ≤ 255) (k : Nat) (y : Int) (hk2 : k < d.length + 4) (hy : 0 ≤ y ∧ y ≤ 255) (hne : (framed d)[k + 2]? ≠ some y) :
    ∀ f ∈ (split ((framed d).set (k + 2) y)).fs, f.length ≠ d.length := by
  have e : (framed d).set (k + 2) y = 165 :: (d.length : Int) :: (d ++ sum4 ((d.length : Int) :: d)).set k y := rfl
  have hne' : (d ++ sum4 ((d.length : Int) :: d))[k]? ≠ some y := hne
  have hc : cnt ((framed d).set (k + 2) y) = d.length := by rw [e]; simp [cnt]
  have hlen : ((framed d).set (k + 2) y).length = d.length + 6 := by rw [List.length_set, framed_len]
  have hw : wholeB ((framed d).set (k + 2) y) = true := decide_eq_true (by rw [hc, hlen]; omega)
  have hr : rightB ((framed d).set (k + 2) y) = false := by
    apply decide_eq_false
    rw [hc, e]
    rw [show (165 :: (d.length : Int) :: (d ++ sum4 ((d.length : Int) :: d)).set k y).drop (2 + d.length) = ((d ++ sum4 ((d.length : Int) :: d)).set k y).drop d.length from by
      rw [show 2 + d.length = d.length + 1 + 1 from by omega, List.drop_succ_cons, List.drop_succ_cons]]
    rw [show ((165 :: (d.length : Int) :: (d ++ sum4 ((d.length : Int) :: d)).set k y).drop 1).take (1 + d.length) = (d.length : Int) :: ((d ++ sum4 ((d.length : Int) :: d)).set k y).take d.length from by
      rw [show 1 + d.length = d.length + 1 from by omega]; rfl]
    by_cases hk : k < d.length
    · have hdl : (d.set k y).length = d.length := List.length_set
      have q1 : ((d ++ sum4 ((d.length : Int) :: d)).set k y).drop d.length = sum4 ((d.length : Int) :: d) := by
        rw [List.set_append_left _ _ hk]
        conv => lhs; rw [← hdl]
        rw [List.drop_left, hdl]
      have q2 : ((d ++ sum4 ((d.length : Int) :: d)).set k y).take d.length = d.set k y := by
        rw [List.set_append_left _ _ hk]
        conv => lhs; rw [← hdl]
        rw [List.take_left]
      rw [q1, q2, List.take_of_length_le (by rw [sum4_len]; omega)]
      intro hs
      have h1 := sum4_inj (U8s.cons (by omega) h) (U8s.cons (by omega) (h.set k hy)) hs
      rw [List.getElem?_append_left hk] at hne'
      obtain ⟨j, hj⟩ : ∃ j, d[k]? = some j := ⟨_, List.getElem?_eq_getElem hk⟩
      have hjr := h j (List.mem_of_getElem? hj)
      have h2 := sum_turned (toN ((d.length : Int) :: d)) (k + 1) j.toNat y.toNat (toN_lt (U8s.cons (by omega) h)) (by simp [toN, hj]) (by omega) (fun hh => hne' (by rw [hj]; congr 1; omega))
      apply h2
      rw [h1]
      congr 1
      simp [toN, List.map_set]
    · rw [List.set_append_right _ _ (by omega), List.drop_left, List.take_left, List.take_of_length_le (by rw [List.length_set, sum4_len]; omega)]
      intro hs
      rw [List.getElem?_append_right (by omega)] at hne'
      apply hne'
      rw [← hs, List.getElem?_set_self (by rw [sum4_len]; omega)]
  intro f hf he
  rw [e] at hw hr hlen hf
  rw [split_bad hw hr] at hf
  have h3 := split_small (b := (d.length : Int) :: (d ++ sum4 ((d.length : Int) :: d)).set k y) (f := f) (by simpa [Sp.put] using hf)
  simp at hlen h3
  rw [sum4_len] at h3
  omega
end Go.Proofs.Ytkpdfapfcmlhhaa
