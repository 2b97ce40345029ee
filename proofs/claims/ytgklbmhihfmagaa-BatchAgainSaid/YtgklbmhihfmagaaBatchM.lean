/- Layer 14: packets in order, the mathematics. -/
import Derived.Test.YtgklbmhihfmagaaPackM
import Derived.Test.YtgklbmhihfmagaaSerial
namespace Go.Proofs.Ytgklbmhihfmagaa
open Go.ChangeShapes Go.WideShapes Go.ChangeAt Go.RowKit
set_option linter.unusedVariables false
set_option linter.unusedSimpArgs false

structure Tk where
  on : Bool
  boot : Int
  top : Int
  some : List Int
deriving DecidableEq
def Tk.none : Tk := ⟨false, 0, -1, []⟩
def tkAt (ts : List Tk) (dev : Int) : Tk := if 0 ≤ dev then ts.getD dev.toNat Tk.none else Tk.none
def kinO (t : Tk) (boot : Int) : Int := if t.on = false then 1 else if boot = t.boot then 0 else if boot = (t.boot + 1) % 256 then 1 else 2
def numO (t : Tk) (boot seq : Int) : Int := if kinO t boot = 0 then (if nearO t.top seq = true then near t.top seq else -1) else seq
def kt (ts : List Tk) (p : Pk) : Int := kinO (tkAt ts p.dev) p.boot
def nm (ts : List Tk) (p : Pk) : Int := numO (tkAt ts p.dev) p.boot p.seq

def cmpI (a b : Int) : Int := if a < b then -1 else if b < a then 1 else 0
def cmpL (a b : List Int) : Int := if a < b then -1 else if b < a then 1 else 0
def or2 (a b : Int) : Int := if a = 0 then b else a
/-- what is told of two by four keys -/
def cmp4 (d k n d' k' n' : Int) (x x' : List Int) : Int := or2 (cmpI d d') (or2 (cmpI k k') (or2 (cmpI n n') (cmpL x x')))

theorem llt_irrefl (a : List Int) : ¬ a < a := List.lt_irrefl a
theorem llt_trans {a b c : List Int} (h : a < b) (k : b < c) : a < c := List.lt_trans h k
theorem llt_tri (a b : List Int) : a < b ∨ a = b ∨ b < a := by
  rcases Classical.em (a < b) with h | h
  · exact .inl h
  · rcases Classical.em (b < a) with k | k
    · exact .inr (.inr k)
    · exact .inr (.inl (List.le_antisymm (List.not_lt.1 k) (List.not_lt.1 h)))
theorem cmpI_lt {a b : Int} : cmpI a b < 0 ↔ a < b := by unfold cmpI; (repeat' split) <;> omega
theorem cmpI_zero {a b : Int} : cmpI a b = 0 ↔ a = b := by unfold cmpI; (repeat' split) <;> omega
theorem cmpL_lt {a b : List Int} : cmpL a b < 0 ↔ a < b := by
  unfold cmpL
  by_cases h : a < b
  · simp [h]
  · rw [if_neg h]
    split
    · simp [h]
    · simp [h]
theorem or2_lt {a b : Int} : or2 a b < 0 ↔ a < 0 ∨ (a = 0 ∧ b < 0) := by unfold or2; split <;> omega
theorem or2_zero {a b : Int} : or2 a b = 0 ↔ a = 0 ∧ b = 0 := by unfold or2; split <;> omega
theorem cmp4_lt {d k n d' k' n' : Int} {x x' : List Int} : cmp4 d k n d' k' n' x x' < 0 ↔ d < d' ∨ (d = d' ∧ (k < k' ∨ (k = k' ∧ (n < n' ∨ (n = n' ∧ x < x'))))) := by
  unfold cmp4
  rw [or2_lt, or2_lt, or2_lt, cmpI_lt, cmpI_lt, cmpI_lt, cmpL_lt, cmpI_zero, cmpI_zero, cmpI_zero]
theorem cmp4_irrefl (d k n : Int) (x : List Int) : ¬ cmp4 d k n d k n x x < 0 := by
  rw [cmp4_lt]
  have := llt_irrefl x
  simp [this]
theorem cmp4_trans {d k n d' k' n' d2 k2 n2 : Int} {x x' x2 : List Int} (h : cmp4 d k n d' k' n' x x' < 0) (h2 : cmp4 d' k' n' d2 k2 n2 x' x2 < 0) : cmp4 d k n d2 k2 n2 x x2 < 0 := by
  rw [cmp4_lt] at *
  have ht := @llt_trans x x' x2
  rcases h with h | ⟨h, h3⟩
  · left; rcases h2 with h2 | ⟨h2, _⟩ <;> omega
  · subst h
    rcases h2 with h2 | ⟨h2, h2'⟩
    · exact .inl h2
    · right
      refine ⟨h2, ?_⟩
      rcases h3 with h3 | ⟨h3, h4⟩
      · left; rcases h2' with h5 | ⟨h5, _⟩ <;> omega
      · subst h3
        rcases h2' with h5 | ⟨h5, h6⟩
        · exact .inl h5
        · right
          refine ⟨h5, ?_⟩
          rcases h4 with h7 | ⟨h7, h8⟩
          · left; rcases h6 with h9 | ⟨h9, _⟩ <;> omega
          · subst h7
            rcases h6 with h9 | ⟨h9, h10⟩
            · exact .inl h9
            · exact .inr ⟨h9, ht h8 h10⟩
theorem cmp4_tri (d k n d' k' n' : Int) (x x' : List Int) : cmp4 d k n d' k' n' x x' < 0 ∨ (d = d' ∧ k = k' ∧ n = n' ∧ x = x') ∨ cmp4 d' k' n' d k n x' x < 0 := by
  rw [cmp4_lt, cmp4_lt]
  have ht := llt_tri x x'
  rcases Int.lt_trichotomy d d' with h | h | h
  · exact .inl (.inl h)
  · subst h
    rcases Int.lt_trichotomy k k' with h | h | h
    · exact .inl (.inr ⟨rfl, .inl h⟩)
    · subst h
      rcases Int.lt_trichotomy n n' with h | h | h
      · exact .inl (.inr ⟨rfl, .inr ⟨rfl, .inl h⟩⟩)
      · subst h
        rcases ht with h | h | h
        · exact .inl (.inr ⟨rfl, .inr ⟨rfl, .inr ⟨rfl, h⟩⟩⟩)
        · exact .inr (.inl ⟨rfl, rfl, rfl, h⟩)
        · exact .inr (.inr (.inr ⟨rfl, .inr ⟨rfl, .inr ⟨rfl, h⟩⟩⟩))
      · exact .inr (.inr (.inr ⟨rfl, .inr ⟨rfl, .inl h⟩⟩))
    · exact .inr (.inr (.inr ⟨rfl, .inl h⟩))
  · exact .inr (.inr (.inl h))
/-- not less goes on -/
theorem cmp4_ntrans {d k n d' k' n' d2 k2 n2 : Int} {x x' x2 : List Int} (h : ¬ cmp4 d k n d' k' n' x x' < 0) (h2 : ¬ cmp4 d' k' n' d2 k2 n2 x' x2 < 0) : ¬ cmp4 d k n d2 k2 n2 x x2 < 0 := by
  intro h3
  rcases cmp4_tri d k n d' k' n' x x' with h4 | ⟨rfl, rfl, rfl, rfl⟩ | h4
  · exact h h4
  · exact h2 h3
  · exact h2 (cmp4_trans h4 h3)

/-- does p stand ahead of q? -/
def ahead (ts : List Tk) (p q : Pk) : Prop := cmp4 p.dev (kt ts p) (nm ts p) q.dev (kt ts q) (nm ts q) p.data q.data < 0
instance (ts : List Tk) (p q : Pk) : Decidable (ahead ts p q) := by unfold ahead; infer_instance
section
variable {ts : List Tk} {p q r : Pk}
theorem ahead_irrefl : ¬ ahead ts p p := cmp4_irrefl _ _ _ _
theorem ahead_trans (h : ahead ts p q) (k : ahead ts q r) : ahead ts p r := cmp4_trans h k
theorem ahead_tri (hp : p.right) (hq : q.right) : ahead ts p q ∨ p = q ∨ ahead ts q p := by
  rcases cmp4_tri p.dev (kt ts p) (nm ts p) q.dev (kt ts q) (nm ts q) p.data q.data with h | h | h
  · exact .inl h
  · exact .inr (.inl ((data_inj p q hp hq).mp h.2.2.2))
  · exact .inr (.inr h)
theorem ahead_dev (h : ahead ts p q) : p.dev ≤ q.dev := by
  have := cmp4_lt.1 h
  omega
end

/-- in order -/
def Asc (ts : List Tk) (l : List Pk) : Prop := l.Pairwise (ahead ts)
theorem asc_unique {ts : List Tk} : ∀ {l m : List Pk}, Asc ts l → Asc ts m → (∀ p, p ∈ l ↔ p ∈ m) → l = m := by
  intro l
  induction l with
  | nil =>
    intro m _ _ h
    match m with
    | [] => rfl
    | b :: m => exact absurd ((h b).2 (by simp)) (by simp)
  | cons a l ih =>
    intro m hl hm h
    match m with
    | [] => exact absurd ((h a).1 (by simp)) (by simp)
    | b :: m =>
      obtain ⟨ha, hl'⟩ := List.pairwise_cons.1 hl
      obtain ⟨hb, hm'⟩ := List.pairwise_cons.1 hm
      have e : a = b := by
        rcases List.mem_cons.1 ((h a).1 (by simp)) with e | e
        · exact e
        · rcases List.mem_cons.1 ((h b).2 (by simp)) with e2 | e2
          · exact e2.symm
          · exact absurd (ahead_trans (hb a e) (ha b e2)) ahead_irrefl
      subst e
      congr 1
      refine ih hl' hm' fun p => ⟨fun hp => ?_, fun hp => ?_⟩
      · rcases List.mem_cons.1 ((h p).1 (by simp [hp])) with e | e
        · subst e; exact absurd (ha p hp) ahead_irrefl
        · exact e
      · rcases List.mem_cons.1 ((h p).2 (by simp [hp])) with e | e
        · subst e; exact absurd (hb p hp) ahead_irrefl
        · exact e
/-- one more in its place -/
def ins (ts : List Tk) (p : Pk) : List Pk → List Pk
  | [] => [p]
  | q :: r => if ahead ts p q then p :: q :: r else if p = q then q :: r else q :: ins ts p r
theorem ins_mem {ts : List Tk} {p x : Pk} : ∀ {l : List Pk}, x ∈ ins ts p l ↔ x = p ∨ x ∈ l := by
  intro l
  induction l with
  | nil => simp [ins]
  | cons q r ih =>
    unfold ins
    split
    · simp
    · split
      · rename_i h; subst h; simp
      · simp only [List.mem_cons, ih]; 
        constructor
        · rintro (h | h | h)
          · exact .inr (.inl h)
          · exact .inl h
          · exact .inr (.inr h)
        · rintro (h | h | h)
          · exact .inr (.inl h)
          · exact .inl h
          · exact .inr (.inr h)
theorem ins_asc {ts : List Tk} {p : Pk} (hp : p.right) : ∀ {l : List Pk}, (∀ x ∈ l, x.right) → Asc ts l → Asc ts (ins ts p l) := by
  intro l
  induction l with
  | nil => intro _ _; simp [ins, Asc]
  | cons q r ih =>
    intro hr hl
    obtain ⟨hq, hr'⟩ := List.pairwise_cons.1 hl
    unfold ins
    split
    · rename_i h
      refine List.pairwise_cons.2 ⟨fun x hx => ?_, hl⟩
      rcases List.mem_cons.1 hx with rfl | hx
      · exact h
      · exact ahead_trans h (hq x hx)
    · rename_i h
      split
      · exact hl
      · rename_i h2
        have h3 : ahead ts q p := by
          rcases ahead_tri (ts := ts) hp (hr q (by simp)) with h3 | h3 | h3
          · exact absurd h3 h
          · exact absurd h3 h2
          · exact h3
        refine List.pairwise_cons.2 ⟨fun x hx => ?_, ih (fun x hx => hr x (by simp [hx])) hr'⟩
        rcases ins_mem.1 hx with rfl | hx
        · exact h3
        · exact hq x hx
/-- all in order, each once -/
def ordR (ts : List Tk) (l : List Pk) : List Pk := l.foldl (fun o p => ins ts p o) []
theorem ordR_snoc (ts : List Tk) (l : List Pk) (p : Pk) : ordR ts (l ++ [p]) = ins ts p (ordR ts l) := by simp [ordR]
theorem foldl_facts {ts : List Tk} : ∀ {l o : List Pk}, (∀ x ∈ l, x.right) → (∀ x ∈ o, x.right) → Asc ts o → Asc ts (l.foldl (fun o p => ins ts p o) o) ∧ ∀ x, x ∈ l.foldl (fun o p => ins ts p o) o ↔ (x ∈ l ∨ x ∈ o) := by
  intro l
  induction l with
  | nil => intro o _ _ h; exact ⟨h, by simp⟩
  | cons p l ih =>
    intro o hl ho h
    rw [List.foldl_cons]
    have := ih (o := ins ts p o) (fun x hx => hl x (by simp [hx])) (fun x hx => by
      rcases ins_mem.1 hx with rfl | hx
      · exact hl _ (by simp)
      · exact ho x hx) (ins_asc (hl p (by simp)) ho h)
    refine ⟨this.1, fun x => ?_⟩
    rw [this.2, ins_mem, List.mem_cons]
    constructor
    · rintro (h | h | h)
      · exact .inl (.inr h)
      · exact .inl (.inl h)
      · exact .inr h
    · rintro ((h | h) | h)
      · exact .inr (.inl h)
      · exact .inl h
      · exact .inr (.inr h)
section
variable {ts us : List Tk} {l m : List Pk}
theorem ordR_asc (h : ∀ x ∈ l, x.right) : Asc ts (ordR ts l) := (foldl_facts h (by simp) List.Pairwise.nil).1
theorem ordR_mem (h : ∀ x ∈ l, x.right) {x : Pk} : x ∈ ordR ts l ↔ x ∈ l := by
  have := (foldl_facts (ts := ts) h (o := []) (by simp) List.Pairwise.nil).2 x
  unfold ordR
  simpa using this
theorem ordR_right (h : ∀ x ∈ l, x.right) : ∀ x ∈ ordR ts l, x.right := fun x hx => h x ((ordR_mem h).1 hx)
theorem ordR_of (h : ∀ x ∈ l, x.right) (hm : Asc ts m) (he : ∀ x, x ∈ m ↔ x ∈ l) : m = ordR ts l :=
  asc_unique hm (ordR_asc h) fun x => by rw [he, ordR_mem h]
theorem ordR_same (h : ∀ x ∈ l, x.right) (he : ∀ x, x ∈ m ↔ x ∈ l) : ordR ts m = ordR ts l := by
  have hm : ∀ x ∈ m, x.right := fun x hx => h x ((he x).1 hx)
  exact ordR_of h (ordR_asc hm) fun x => by rw [ordR_mem hm, he]
theorem ordR_again (h : ∀ x ∈ l, x.right) : ordR ts (ordR ts l) = ordR ts l := ordR_same h fun x => ordR_mem h
theorem asc_nodup : Asc ts l → l.Nodup := fun h => h.imp fun {a b} hab e => by subst e; exact ahead_irrefl hab
theorem ordR_len (h : ∀ x ∈ l, x.right) : (ordR ts l).length ≤ l.length := by
  have key : ∀ (l o : List Pk), (l.foldl (fun o p => ins ts p o) o).length ≤ l.length + o.length := by
    intro l
    induction l with
    | nil => intro o; simp
    | cons p l ih =>
      intro o
      rw [List.foldl_cons]
      have h1 := ih (ins ts p o)
      have h2 : ∀ o : List Pk, (ins ts p o).length ≤ o.length + 1 := by
        intro o
        induction o with
        | nil => simp [ins]
        | cons q r ih => unfold ins; (repeat' split) <;> simp <;> omega
      have := h2 o
      simp
      omega
  unfold ordR
  simpa using key l []
end
end Go.Proofs.Ytgklbmhihfmagaa
