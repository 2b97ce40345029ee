/- Layer 18: rules: the mathematics. -/
import Derived.Test.YtcdmojimdiiepaaMemC
import Derived.Test.YtcdmojimdiiepaaKthreeV
namespace Go.Proofs.Ytcdmojimdiiepaa
open Go.ChangeShapes Go.WideShapes Go.ChangeAt Go.RowKit
set_option linter.unusedVariables false
set_option linter.unusedSimpArgs false

abbrev T := Int × Int × Int
def isLim (t : T) : Bool := decide (t.1 = 1) || decide (t.1 = 2)
def tRight (t : T) (n : Int) : Bool := if isLim t then decide (0 ≤ t.2.1 ∧ t.2.1 < n ∧ -2147483648 ≤ t.2.2 ∧ t.2.2 ≤ 2147483648) else decide (3 ≤ t.1 ∧ t.1 ≤ 5 ∧ t.2.1 = 0 ∧ t.2.2 = 0)
/-- a term's work with a pile, the last one first -/
def stepP (g : T → Int) (t : T) (p : List Int) : Option (List Int) :=
  if isLim t then some (g t :: p) else if t.1 = 5 then (match p with | a :: r => some (not3 a :: r) | [] => none) else match p with | a :: b :: r => some ((if t.1 = 3 then and3 a b else or3 a b) :: r) | _ => none
def evalP (g : T → Int) : List T → List Int → Option (List Int)
  | [], p => some p
  | t :: l, p => (stepP g t p).bind (evalP g l)
/-- how many are left -/
def stepN (t : T) (p : Nat) : Option Nat := if isLim t then some (p + 1) else if t.1 = 5 then (if p = 0 then none else some p) else if p < 2 then none else some (p - 1)
def evalN : List T → Nat → Option Nat
  | [], p => some p
  | t :: l, p => (stepN t p).bind (evalN l)
def saidO (g : T → Int) (l : List T) : Int × Bool := match evalP g l [] with | some [x] => (x, true) | _ => (0, false)
def ruleB (hold : Int) (l : List T) (n : Int) : Bool := decide (1 ≤ hold ∧ hold ≤ 1000 ∧ 1 ≤ l.length ∧ l.length ≤ 16) && l.all (fun t => tRight t n) && decide (evalN l 0 = some 1)
theorem evalP_app (g : T → Int) (a b : List T) (p : List Int) : evalP g (a ++ b) p = (evalP g a p).bind (evalP g b) := by
  induction a generalizing p with
  | nil => rfl
  | cons t a ih =>
    show (stepP g t p).bind (evalP g (a ++ b)) = ((stepP g t p).bind (evalP g a)).bind (evalP g b)
    cases stepP g t p with
    | none => rfl
    | some q => exact ih q
theorem evalN_app (a b : List T) (p : Nat) : evalN (a ++ b) p = (evalN a p).bind (evalN b) := by
  induction a generalizing p with
  | nil => rfl
  | cons t a ih =>
    show (stepN t p).bind (evalN (a ++ b)) = ((stepN t p).bind (evalN a)).bind (evalN b)
    cases stepN t p with
    | none => rfl
    | some q => exact ih q
theorem step_len (g : T → Int) (t : T) (p : List Int) : (stepP g t p).map List.length = stepN t p.length := by
  unfold stepP stepN
  cases isLim t with
  | true => rfl
  | false =>
    simp only [Bool.false_eq_true, if_false]
    by_cases h5 : t.1 = 5
    · rw [if_pos h5, if_pos h5]
      match p with
      | [] => rfl
      | a :: r => rfl
    · rw [if_neg h5, if_neg h5]
      match p with
      | [] => rfl
      | [a] => rfl
      | a :: b :: r => simp
theorem eval_len (g : T → Int) (l : List T) (p : List Int) : (evalP g l p).map List.length = evalN l p.length := by
  induction l generalizing p with
  | nil => rfl
  | cons t l ih =>
    have h := step_len g t p
    show ((stepP g t p).bind (evalP g l)).map List.length = (stepN t p.length).bind (evalN l)
    rw [← h]
    cases stepP g t p with
    | none => rfl
    | some q => exact ih q
theorem said_2 (g : T → Int) (l : List T) : (saidO g l).2 = decide (evalN l 0 = some 1) := by
  have h := eval_len g l []
  unfold saidO
  cases he : evalP g l [] with
  | none =>
    rw [he] at h
    have h' : evalN l 0 = none := h.symm
    rw [h']
    rfl
  | some p =>
    rw [he] at h
    have h' : evalN l 0 = some p.length := h.symm
    rw [h']
    match p with
    | [] => rfl
    | [x] => rfl
    | x :: y :: r => simp
theorem said_some {g : T → Int} {l : List T} (h : evalN l 0 = some 1) : ∃ x, evalP g l [] = some [x] ∧ saidO g l = (x, true) := by
  have e := eval_len g l []
  cases he : evalP g l [] with
  | none => rw [he] at e; have e' : evalN l 0 = none := e.symm; rw [e'] at h; cases h
  | some p =>
    rw [he] at e
    have e' : evalN l 0 = some p.length := e.symm
    rw [e'] at h
    match p, h with
    | [x], _ => exact ⟨x, rfl, by unfold saidO; rw [he]⟩
/-- what lies below stays -/
theorem step_frame (g : T → Int) (t : T) {p q : List Int} (r : List Int) (h : stepP g t p = some q) : stepP g t (p ++ r) = some (q ++ r) := by
  unfold stepP at h ⊢
  cases hl : isLim t with
  | true =>
    rw [hl, if_pos rfl] at h
    rw [if_pos rfl]
    injection h with h
    subst h
    rfl
  | false =>
    rw [hl, if_neg (by decide)] at h
    rw [if_neg (by decide)]
    by_cases h5 : t.1 = 5
    · rw [if_pos h5] at h ⊢
      match p, h with
      | a :: p', h => injection h with h; subst h; rfl
    · rw [if_neg h5] at h ⊢
      match p, h with
      | a :: b :: p', h => injection h with h; subst h; rfl
theorem eval_frame (g : T → Int) (l : List T) {p q : List Int} (r : List Int) (h : evalP g l p = some q) : evalP g l (p ++ r) = some (q ++ r) := by
  induction l generalizing p with
  | nil => injection h with h; subst h; rfl
  | cons t l ih =>
    change (stepP g t p).bind (evalP g l) = some q at h
    show (stepP g t (p ++ r)).bind (evalP g l) = _
    cases hs : stepP g t p with
    | none => rw [hs] at h; cases h
    | some u =>
      rw [hs] at h
      rw [step_frame g t r hs]
      exact ih h
theorem stepN_frame (t : T) {p q : Nat} (r : Nat) (h : stepN t p = some q) : stepN t (p + r) = some (q + r) := by
  unfold stepN at h ⊢
  cases hl : isLim t with
  | true =>
    rw [hl, if_pos rfl] at h
    rw [if_pos rfl]
    injection h with h
    congr 1
    omega
  | false =>
    rw [hl, if_neg (by decide)] at h
    rw [if_neg (by decide)]
    by_cases h5 : t.1 = 5
    · rw [if_pos h5] at h ⊢
      by_cases h0 : p = 0
      · rw [if_pos h0] at h; cases h
      · rw [if_neg h0] at h
        rw [if_neg (by omega)]
        injection h with h
        congr 1
        omega
    · rw [if_neg h5] at h ⊢
      by_cases h0 : p < 2
      · rw [if_pos h0] at h; cases h
      · rw [if_neg h0] at h
        rw [if_neg (by omega)]
        injection h with h
        congr 1
        omega
theorem evalN_frame (l : List T) {p q : Nat} (r : Nat) (h : evalN l p = some q) : evalN l (p + r) = some (q + r) := by
  induction l generalizing p with
  | nil => injection h with h; subst h; rfl
  | cons t l ih =>
    change (stepN t p).bind (evalN l) = some q at h
    show (stepN t (p + r)).bind (evalN l) = _
    cases hs : stepN t p with
    | none => rw [hs] at h; cases h
    | some u =>
      rw [hs] at h
      rw [stepN_frame t r hs]
      exact ih h
theorem step_congr (f g : T → Int) (t : T) (p : List Int) (h : isLim t = true → f t = g t) : stepP f t p = stepP g t p := by
  unfold stepP
  cases hl : isLim t with
  | true => rw [if_pos rfl, if_pos rfl, h hl]
  | false => rfl
theorem eval_congr (f g : T → Int) (l : List T) (p : List Int) (h : ∀ t ∈ l, isLim t = true → f t = g t) : evalP f l p = evalP g l p := by
  induction l generalizing p with
  | nil => rfl
  | cons t l ih =>
    show (stepP f t p).bind (evalP f l) = (stepP g t p).bind (evalP g l)
    rw [step_congr f g t p (h t (by simp))]
    cases stepP g t p with
    | none => rfl
    | some q => exact ih q (fun x hx => h x (by simp [hx]))
/-- one knows no less than the other -/
def le3 (a b : Int) : Prop := a = 3 ∨ a = b
def leL : List Int → List Int → Prop
  | [], [] => True
  | a :: l, b :: m => le3 a b ∧ leL l m
  | _, _ => False
theorem le_not {a b : Int} (h : le3 a b) : le3 (not3 a) (not3 b) := by
  rcases h with rfl | rfl
  · left; decide
  · right; rfl
theorem le_and {a b c d : Int} (h : le3 a b) (k : le3 c d) : le3 (and3 a c) (and3 b d) := by
  unfold le3 and3 at *
  (repeat' split) <;> omega
theorem le_or {a b c d : Int} (h : le3 a b) (k : le3 c d) : le3 (or3 a c) (or3 b d) := by
  unfold le3 or3 at *
  (repeat' split) <;> omega
theorem step_mono (f g : T → Int) (t : T) (p q : List Int) (hp : leL p q) (h : isLim t = true → le3 (f t) (g t)) : ∀ p', stepP f t p = some p' → ∃ q', stepP g t q = some q' ∧ leL p' q' := by
  intro p' hs
  unfold stepP at hs ⊢
  cases hl : isLim t with
  | true =>
    rw [hl, if_pos rfl] at hs
    injection hs with hs
    subst hs
    exact ⟨_, if_pos rfl, h hl, hp⟩
  | false =>
    rw [hl, if_neg (by decide)] at hs
    rw [if_neg (by decide)]
    by_cases h5 : t.1 = 5
    · rw [if_pos h5] at hs ⊢
      match p, q, hp, hs with
      | a :: p, b :: q, hp, hs =>
        injection hs with hs
        subst hs
        exact ⟨_, rfl, le_not hp.1, hp.2⟩
    · rw [if_neg h5] at hs ⊢
      match p, q, hp, hs with
      | a :: a2 :: p, b :: b2 :: q, hp, hs =>
        injection hs with hs
        subst hs
        refine ⟨_, rfl, ?_, hp.2.2⟩
        by_cases h3 : t.1 = 3
        · rw [if_pos h3, if_pos h3]; exact le_and hp.1 hp.2.1
        · rw [if_neg h3, if_neg h3]; exact le_or hp.1 hp.2.1
theorem eval_mono (f g : T → Int) (l : List T) (h : ∀ t ∈ l, isLim t = true → le3 (f t) (g t)) : ∀ (p q : List Int), leL p q → ∀ p', evalP f l p = some p' → ∃ q', evalP g l q = some q' ∧ leL p' q' := by
  induction l with
  | nil => intro p q hpq p' he; injection he with he; subst he; exact ⟨q, rfl, hpq⟩
  | cons t l ih =>
    intro p q hpq p' he
    change (stepP f t p).bind (evalP f l) = some p' at he
    cases hs : stepP f t p with
    | none => rw [hs] at he; cases he
    | some u =>
      rw [hs] at he
      obtain ⟨v, hv, huv⟩ := step_mono f g t p q hpq (h t (by simp)) u hs
      obtain ⟨q', hq, hpq'⟩ := ih (fun x hx => h x (by simp [hx])) u v huv p' he
      refine ⟨q', ?_, hpq'⟩
      show (stepP g t q).bind (evalP g l) = _
      rw [hv]
      exact hq
/-- all are truths; or all known -/
theorem step_all (P : Int → Prop) (g : T → Int) (t : T) (hn : ∀ a, P a → P (not3 a)) (ha : ∀ a b, P a → P b → P (and3 a b)) (ho : ∀ a b, P a → P b → P (or3 a b)) (hg : isLim t = true → P (g t)) (p q : List Int) (hp : ∀ a ∈ p, P a) (hs : stepP g t p = some q) : ∀ a ∈ q, P a := by
  unfold stepP at hs
  cases hl : isLim t with
  | true =>
    rw [hl, if_pos rfl] at hs
    injection hs with hs
    subst hs
    intro a h
    rcases List.mem_cons.1 h with rfl | h
    · exact hg hl
    · exact hp a h
  | false =>
    rw [hl, if_neg (by decide)] at hs
    by_cases h5 : t.1 = 5
    · rw [if_pos h5] at hs
      match p, hp, hs with
      | x :: p, hp, hs =>
        injection hs with hs
        subst hs
        intro a h
        rcases List.mem_cons.1 h with rfl | h
        · exact hn _ (hp _ (by simp))
        · exact hp a (by simp [h])
    · rw [if_neg h5] at hs
      match p, hp, hs with
      | x :: y :: p, hp, hs =>
        injection hs with hs
        subst hs
        intro a h
        rcases List.mem_cons.1 h with rfl | h
        · by_cases h3 : t.1 = 3
          · rw [if_pos h3]; exact ha _ _ (hp _ (by simp)) (hp _ (by simp))
          · rw [if_neg h3]; exact ho _ _ (hp _ (by simp)) (hp _ (by simp))
        · exact hp a (by simp [h])
theorem eval_all (P : Int → Prop) (g : T → Int) (l : List T) (hn : ∀ a, P a → P (not3 a)) (ha : ∀ a b, P a → P b → P (and3 a b)) (ho : ∀ a b, P a → P b → P (or3 a b)) (hg : ∀ t ∈ l, isLim t = true → P (g t)) : ∀ p q : List Int, (∀ a ∈ p, P a) → evalP g l p = some q → ∀ a ∈ q, P a := by
  induction l with
  | nil => intro p q hp he; injection he with he; subst he; exact hp
  | cons t l ih =>
    intro p q hp he
    change (stepP g t p).bind (evalP g l) = some q at he
    cases hs : stepP g t p with
    | none => rw [hs] at he; cases he
    | some u =>
      rw [hs] at he
      exact ih (fun x hx => hg x (by simp [hx])) u q (step_all P g t hn ha ho (hg t (by simp)) p u hp hs) he
def Kn (a : Int) : Prop := a = 1 ∨ a = 2
theorem kn_not (a : Int) (h : Kn a) : Kn (not3 a) := by unfold Kn not3 at *; (repeat' split) <;> omega
theorem kn_and (a b : Int) (h : Kn a) (k : Kn b) : Kn (and3 a b) := by unfold Kn and3 at *; (repeat' split) <;> omega
theorem kn_or (a b : Int) (h : Kn a) (k : Kn b) : Kn (or3 a b) := by unfold Kn or3 at *; (repeat' split) <;> omega
theorem tr_not3 (a : Int) (h : Tr a) : Tr (not3 a) := by unfold Tr not3 at *; (repeat' split) <;> omega
abbrev Cl := Int × Int × Int
/-- what a limit says of a cell -/
def limO (t : T) (c : Cl) : Int := if c.1 = 1 then (if (if t.1 = 1 then decide (c.2.1 > t.2.2) else decide (c.2.1 < t.2.2)) = true then 2 else 1) else 3
def gOf (cs : List Cl) (t : T) : Int := limO t (cs.getD t.2.1.toNat (0, 0, 0))
def saysR (l : List T) (cs : List Cl) : Int := (saidO (gOf cs) l).1
theorem lim_tr (t : T) (c : Cl) : Tr (limO t c) := by
  unfold limO Tr
  by_cases h : c.1 = 1
  · rw [if_pos h]
    split <;> omega
  · rw [if_neg h]; omega
theorem lim_kn (t : T) (c : Cl) (h : c.1 = 1) : Kn (limO t c) := by
  unfold limO Kn
  rw [if_pos h]
  split <;> omega
theorem lim_unknown (t : T) (c : Cl) (h : c.1 ≠ 1) : limO t c = 3 := by
  unfold limO
  rw [if_neg h]
theorem rule_n {hold n : Int} {l : List T} (h : ruleB hold l n = true) : (1 ≤ hold ∧ hold ≤ 1000 ∧ 1 ≤ l.length ∧ l.length ≤ 16) ∧ (∀ t ∈ l, tRight t n = true) ∧ evalN l 0 = some 1 := by
  unfold ruleB at h
  rw [Bool.and_eq_true, Bool.and_eq_true, decide_eq_true_eq, decide_eq_true_eq, List.all_eq_true] at h
  exact ⟨h.1.1, h.1.2, h.2⟩
theorem says_tr {l : List T} (cs : List Cl) (h : evalN l 0 = some 1) : Tr (saysR l cs) := by
  obtain ⟨x, he, hs⟩ := said_some (g := gOf cs) h
  unfold saysR
  rw [hs]
  have := eval_all Tr (gOf cs) l tr_not3 and_tr or_tr (fun t _ _ => lim_tr t _) [] [x] (by simp) he x (by simp)
  exact this
end Go.Proofs.Ytcdmojimdiiepaa
