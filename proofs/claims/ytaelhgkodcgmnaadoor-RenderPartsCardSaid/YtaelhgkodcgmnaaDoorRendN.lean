/- Layer 23: a line read, the mathematics. -/
import Derived.Test.YtaelhgkodcgmnaaDoorRendM
namespace Go.Proofs.YtaelhgkodcgmnaaDoor
open Go.Lib
set_option linter.unusedVariables false
set_option linter.unusedSimpArgs false

def kindR : Str → Int
  | [] => 0
  | b :: _ => if b = 118 then 1 else if b = 109 then 2 else if b = 117 then 3 else if b = 114 then 4 else 0
def okI : NumEnd Int → Option Int
  | .ok v => some v
  | _ => none
def cellR (w : Str) : Option Cl :=
  if kindR w = 1 then
    match okI (atoiAll (cut (w.drop 1) [64]).1), okI (atoiAll (cut (w.drop 1) [64]).2.1) with
    | some v, some f => some ⟨1, v, f⟩
    | _, _ => none
  else if kindR w = 0 then none else some ⟨kindR w, 0, 0⟩
def alarmR (w : Str) : Option (Bool × Bool) :=
  if w = [43] then some (true, true) else if w = [42] then some (true, false) else if w = [33] then some (false, true) else if w = [45] then some (false, false) else none
def allR {α : Type} (f : Str → Option α) : List Str → Option (List α)
  | [] => some []
  | w :: ws => match f w, allR f ws with
    | some x, some xs => some (x :: xs)
    | _, _ => none
/-- parted at the first '/' -/
def cutW : List Str → Option (List Str × List Str)
  | [] => none
  | w :: ws => if w = [47] then some ([], ws) else match cutW ws with
    | some (a, b) => some (w :: a, b)
    | none => none
def toldR (ws : List Str) : Option Td :=
  match ws with
  | w0 :: w1 :: rest =>
    if w0 = tickW then
      match okI (atoiAll w1), cutW rest with
      | some n, some (a, b) => match cutW b with
        | some (c, d) => match allR cellR a, allR alarmR c, allR alarmR d with
          | some cs, some rs, some ch => some ⟨n, cs, rs, ch⟩
          | _, _, _ => none
        | none => none
      | _, _ => none
    else none
  | _ => none
def readR (s : Str) : Option Td :=
  match toldR (spl 32 s) with
  | some t => if lineR t = s then some t else none
  | none => none

def cl64 (c : Cl) : Prop := in64 c.v ∧ in64 c.fr
def td64 (t : Td) : Prop := in64 t.tick ∧ ∀ c ∈ t.cells, cl64 c
theorem cell_word {c : Cl} (h : clR c) (h6 : cl64 c) : cellR (clW c) = some c := by
  obtain ⟨⟨h1, h2⟩, h3⟩ := h
  obtain ⟨k, v, f⟩ := c
  dsimp only at h1 h2 h3
  have hk : k = 1 ∨ k = 2 ∨ k = 3 ∨ k = 4 := by omega
  rcases hk with rfl | rfl | rfl | rfl
  · have e : clW ⟨1, v, f⟩ = 118 :: (itoa v ++ 64 :: itoa f) := rfl
    rw [e]
    unfold cellR
    rw [if_pos (by rfl), List.drop_succ_cons, List.drop_zero, cut_app (itoa_no (by simp))]
    dsimp only
    rw [atoi_itoa h6.1, atoi_itoa h6.2]
    rfl
  all_goals
    rcases h3 with h3 | ⟨h3, h4⟩
    · exact absurd h3 (by decide)
    · subst h3 h4
      rfl
theorem alarm_word (a : Bool × Bool) : alarmR [alB a] = some a := by
  rcases a with ⟨_ | _, _ | _⟩ <;> rfl
theorem all_map {α : Type} {f : Str → Option α} {g : α → Str} : ∀ {l : List α}, (∀ x ∈ l, f (g x) = some x) → allR f (l.map g) = some l := by
  intro l
  induction l with
  | nil => intro _; rfl
  | cons x l ih =>
    intro h
    show (match f (g x), allR f (l.map g) with | some x, some xs => some (x :: xs) | _, _ => none) = _
    rw [h x (by simp), ih (fun y hy => h y (by simp [hy]))]
theorem cutW_app : ∀ {a : List Str} (b : List Str), (∀ w ∈ a, w ≠ [47]) → cutW (a ++ [47] :: b) = some (a, b) := by
  intro a
  induction a with
  | nil => intro b _; rfl
  | cons w a ih =>
    intro b h
    show (if w = [47] then _ else match cutW (a ++ [47] :: b) with | some (a, b) => some (w :: a, b) | none => none) = _
    rw [if_neg (h w (by simp)), ih b (fun x hx => h x (by simp [hx]))]
theorem told_words {t : Td} (h : tdR t) (h6 : td64 t) : toldR (wds t) = some t := by
  unfold wds toldR
  dsimp only
  rw [if_pos rfl, atoi_itoa h6.1, cutW_app _ (by
    intro w hw
    obtain ⟨c, _, rfl⟩ := List.mem_map.1 hw
    intro e
    exact clW_no (x := c) (c := 47) (by simp) (by rw [e]; simp))]
  dsimp only [okI]
  rw [cutW_app _ (by
    intro w hw
    obtain ⟨a, _, rfl⟩ := List.mem_map.1 hw
    intro e
    exact alB_no (a := a) (c := 47) (by simp) (by simpa using e))]
  dsimp only
  rw [all_map (fun c hc => cell_word (h.1 c hc) (h6.2 c hc)), all_map (fun a _ => alarm_word a), all_map (fun a _ => alarm_word a)]
theorem read_line {t : Td} (h : tdR t) (h6 : td64 t) : readR (lineR t) = some t := by
  unfold readR
  have e : lineR t = jn 32 (wds t) := if_pos h
  rw [e, spl_line, told_words h h6]
  dsimp only
  rw [if_pos e]
theorem line_ne {t : Td} (h : tdR t) : lineR t ≠ [] := by
  unfold lineR
  rw [if_pos h]
  unfold wds
  rw [jn_cons _ _ (by simp)]
  simp [tickW]
theorem read_some {s : Str} {t : Td} (h : readR s = some t) : tdR t ∧ lineR t = s ∧ s ≠ [] := by
  unfold readR at h
  split at h
  · rename_i u e
    split at h
    · rename_i e2
      injection h with h
      subst h
      have hs : s ≠ [] := by
        intro e3
        subst e3
        simp [spl, toldR] at e
      refine ⟨?_, e2, hs⟩
      by_cases h2 : tdR u
      · exact h2
      · unfold lineR at e2
        rw [if_neg h2] at e2
        exact absurd e2.symm hs
    · cases h
  · cases h
theorem atoi_64 {l : Str} {v : Int} (h : okI (atoiAll l) = some v) : in64 v := by
  unfold okI at h
  split at h
  · rename_i w e
    injection h with h
    subst h
    exact atoiAll_bounds e
  · cases h
theorem all_64 {α : Type} {f : Str → Option α} {P : α → Prop} (hf : ∀ w x, f w = some x → P x) : ∀ {ws : List Str} {xs : List α}, allR f ws = some xs → ∀ x ∈ xs, P x := by
  intro ws
  induction ws with
  | nil => intro xs h; simp [allR] at h; subst h; simp
  | cons w ws ih =>
    intro xs h
    unfold allR at h
    split at h
    · rename_i x ys e1 e2
      injection h with h
      subst h
      intro y hy
      rcases List.mem_cons.1 hy with rfl | hy
      · exact hf w _ e1
      · exact ih e2 y hy
    · cases h
theorem cell_64 {w : Str} {c : Cl} (h : cellR w = some c) : cl64 c := by
  unfold cellR at h
  split at h
  · split at h
    · rename_i v f e1 e2
      injection h with h
      subst h
      exact ⟨atoi_64 e1, atoi_64 e2⟩
    · cases h
  · split at h
    · cases h
    · injection h with h
      subst h
      exact ⟨(show in64 0 from ⟨by decide, by decide⟩), (show in64 0 from ⟨by decide, by decide⟩)⟩
theorem told_64 {ws : List Str} {t : Td} (h : toldR ws = some t) : td64 t := by
  unfold toldR at h
  split at h
  · split at h
    · split at h
      · rename_i n a b e1 e2
        split at h
        · rename_i c d e3
          split at h
          · rename_i cs rs ch e4 e5 e6
            injection h with h
            subst h
            exact ⟨atoi_64 e1, all_64 (fun w x hx => cell_64 hx) e4⟩
          · cases h
        · cases h
      · cases h
    · cases h
  · cases h
theorem read_64 {s : Str} {t : Td} (h : readR s = some t) : td64 t := by
  unfold readR at h
  split at h
  · rename_i u e
    split at h
    · injection h with h
      subst h
      exact told_64 e
    · cases h
  · cases h
theorem line_inj {t u : Td} (ht : tdR t) (hu : tdR u) (h6 : td64 t) (h7 : td64 u) (h : lineR t = lineR u) : t = u := by
  have e1 := read_line ht h6
  have e2 := read_line hu h7
  rw [h, e2] at e1
  exact (Option.some.inj e1).symm
theorem jn_mem {c x : UInt8} (hx : x ≠ c) : ∀ {ws : List Str}, x ∈ jn c ws → ∃ w ∈ ws, x ∈ w := by
  intro ws
  induction ws with
  | nil => intro h; simp [jn] at h
  | cons w ws ih =>
    intro h
    match ws with
    | [] => exact ⟨w, by simp, h⟩
    | v :: vs =>
      rw [jn_cons _ _ (by simp)] at h
      rcases List.mem_append.1 h with h | h
      · exact ⟨w, by simp, h⟩
      · rcases List.mem_cons.1 h with h | h
        · exact absurd h hx
        · obtain ⟨u, hu, hm⟩ := ih h
          exact ⟨u, by simp at hu ⊢; exact .inr hu, hm⟩
theorem line_no10 (t : Td) : (10 : UInt8) ∉ lineR t := by
  unfold lineR
  split
  · intro h
    obtain ⟨w, hw, hm⟩ := jn_mem (by decide) h
    exact wds_no (.inr rfl) w hw hm
  · simp
/-- many lines -/
def textR (l : List Td) : Str := l.flatMap fun t => lineR t ++ [10]
theorem text_spl : ∀ l : List Td, spl 10 (textR l) = l.map lineR ++ [[]] := by
  intro l
  induction l with
  | nil => rfl
  | cons t l ih =>
    have e : textR (t :: l) = lineR t ++ 10 :: textR l := by simp [textR]
    rw [e, spl_app (line_no10 t), ih]
    rfl
end Go.Proofs.YtaelhgkodcgmnaaDoor
