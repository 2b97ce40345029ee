/- Layer 13: the document's grid: the mathematics. -/
import Derived.Test.YtoiaagdpckgpoaaGridM
namespace Go.Proofs.Ytoiaagdpckgpoaa
open Go.ChangeShapes Go.WideShapes Go.ChangeAt Go.RowKit
set_option linter.unusedVariables false
set_option linter.unusedSimpArgs false

abbrev Sp := Int × Int × Int × Int
def s4 (l : List Sp) : List Value := l.flatMap fun s => [.int .i64 s.1, .int .i64 s.2.1, .int .i64 s.2.2.1, .int .i64 s.2.2.2]
theorem s4_len (l : List Sp) : (s4 l).length = l.length * 4 := by
  induction l with
  | nil => rfl
  | cons a l ih => simp [s4] at ih ⊢; omega
theorem s4_app (l m : List Sp) : s4 (l ++ m) = s4 l ++ s4 m := by simp [s4]
theorem s4_one (l : List Sp) : ∀ u ∈ s4 l, u.oneCell' = true := by
  intro u hu
  obtain ⟨a, _, h⟩ := List.mem_flatMap.1 hu
  simp only [List.mem_cons, List.not_mem_nil, or_false] at h
  rcases h with rfl | rfl | rfl | rfl <;> rfl
theorem s4_at (l : List Sp) (i : Nat) (a : Sp) (h : l[i]? = some a) : (s4 l)[i * 4]? = some (.int .i64 a.1) ∧ (s4 l)[i * 4 + 1]? = some (.int .i64 a.2.1) ∧ (s4 l)[i * 4 + 2]? = some (.int .i64 a.2.2.1) ∧ (s4 l)[i * 4 + 3]? = some (.int .i64 a.2.2.2) := by
  induction l generalizing i with
  | nil => simp at h
  | cons b l ih =>
    cases i with
    | zero =>
      simp at h
      subst h
      exact ⟨rfl, rfl, rfl, rfl⟩
    | succ i =>
      have h' : l[i]? = some a := by simpa using h
      have := ih i h'
      have e1 : (i + 1) * 4 = i * 4 + 4 := by omega
      rw [e1]
      exact this
theorem c3_app (l m : List (Int × Int × Int)) : c3 (l ++ m) = c3 l ++ c3 m := by simp [c3]
theorem c3_one (l : List (Int × Int × Int)) : ∀ u ∈ c3 l, u.oneCell' = true := by
  intro u hu
  obtain ⟨a, _, h⟩ := List.mem_flatMap.1 hu
  simp only [List.mem_cons, List.not_mem_nil, or_false] at h
  rcases h with rfl | rfl | rfl <;> rfl

def isSp (ch kk : Int) (s : Sp) : Bool := s.1 == ch && s.2.1 == kk
def spotOf (sp : List Sp) (ch kk : Int) : Option (Int × Int) := (sp.find? (isSp ch kk)).map fun s => s.2.2
def sq (sp : List Sp) (ch kk : Int) : SB := match spotOf sp ch kk with | some x => (x, true) | none => ((0, 0), false)
def RSr (k F : Nat) (sp : List Sp) (ch : Nat) : Nat × List SB := (F, (List.range k).map fun (j : Nat) => sq sp (ch : Int) ((F : Int) + (j : Int)))
def RS (N k F : Nat) (sp : List Sp) : List (Nat × List SB) := (List.range N).map (RSr k F sp)
theorem isSp_iff (ch kk : Int) (s : Sp) : isSp ch kk s = true ↔ s.1 = ch ∧ s.2.1 = kk := by simp [isSp]
theorem spot_app (sp : List Sp) (s : Sp) (ch kk : Int) : spotOf (sp ++ [s]) ch kk = match spotOf sp ch kk with | some x => some x | none => if s.1 = ch ∧ s.2.1 = kk then some s.2.2 else none := by
  unfold spotOf
  rw [List.find?_append]
  cases h : sp.find? (isSp ch kk) with
  | some a => rfl
  | none =>
    by_cases hs : s.1 = ch ∧ s.2.1 = kk
    · have h1 : isSp ch kk s = true := (isSp_iff _ _ _).2 hs
      simp [h1, hs]
    · have h1 : isSp ch kk s = false := by rw [Bool.eq_false_iff]; exact fun h => hs ((isSp_iff _ _ _).1 h)
      simp [h1, hs]
theorem sq_other (sp : List Sp) (s : Sp) (ch kk : Int) (h : ¬ (s.1 = ch ∧ s.2.1 = kk)) : sq (sp ++ [s]) ch kk = sq sp ch kk := by
  unfold sq
  rw [spot_app]
  cases spotOf sp ch kk with
  | some x => rfl
  | none => dsimp only; rw [if_neg h]
theorem sq_new (sp : List Sp) (s : Sp) (h : spotOf sp s.1 s.2.1 = none) : sq (sp ++ [s]) s.1 s.2.1 = (s.2.2, true) := by
  unfold sq
  rw [spot_app, h]
  dsimp only
  rw [if_pos ⟨rfl, rfl⟩]
theorem sq_2 (sp : List Sp) (ch kk : Int) : (sq sp ch kk).2 = (spotOf sp ch kk).isSome := by
  unfold sq
  cases spotOf sp ch kk <;> rfl
theorem sq_out (sp : List Sp) (ch kk : Int) (h : ∀ s ∈ sp, s.2.1 < kk) : sq sp ch kk = ((0, 0), false) := by
  have : spotOf sp ch kk = none := by
    unfold spotOf
    rw [Option.map_eq_none_iff, List.find?_eq_none]
    intro s hs hi
    have := h s hs
    have := ((isSp_iff _ _ _).1 hi).2
    omega
  unfold sq
  rw [this]
theorem RS_len (N k F : Nat) (sp : List Sp) : (RS N k F sp).length = N := by simp [RS]
theorem RS_at (N k F i : Nat) (sp : List Sp) (h : i < N) : (RS N k F sp)[i]? = some (RSr k F sp i) := by simp [RS, h]
theorem RSr_len (k F ch : Nat) (sp : List Sp) : (RSr k F sp ch).2.length = k := by simp [RSr]
theorem RSr_at (k F ch j : Nat) (sp : List Sp) (h : j < k) : (RSr k F sp ch).2[j]? = some (sq sp (ch : Int) ((F : Int) + (j : Int))) := by simp [RSr, h]
theorem RS_zero (N k : Nat) : G0 0 N k = RS N k 0 [] := by
  refine List.ext_getElem? fun i => ?_
  rcases Nat.lt_or_ge i N with h | h
  · rw [G0_at _ _ _ _ h, RS_at _ _ _ _ _ h]
    congr 1
    refine Prod.ext rfl (List.ext_getElem? fun j => ?_)
    rcases Nat.lt_or_ge j k with h1 | h1
    · rw [RSr_at _ _ _ _ _ h1]
      simp [h1, sq, spotOf]
    · rw [List.getElem?_eq_none (by simpa using h1), List.getElem?_eq_none (by rw [RSr_len]; exact h1)]
  · rw [List.getElem?_eq_none (by rw [G0_len]; exact h), List.getElem?_eq_none (by rw [RS_len]; exact h)]
theorem RS_from (N k F : Nat) (sp : List Sp) : ∀ r ∈ RS N k F sp, r.1 = F := by
  intro r hr
  obtain ⟨i, _, rfl⟩ := List.mem_map.1 hr
  rfl
/-- what becomes of a sample -/
def rcode (N k F : Nat) (sp : List Sp) (ch p : Int) : Int := if ch < 0 ∨ (N : Int) ≤ ch then 0 else if p < 0 then 6 else if (k : Int) ≤ p then 7 else if (spotOf sp ch ((F : Int) + p)).isSome then 8 else 9
def rnext (N k F : Nat) (sp : List Sp) (ch p v f : Int) : List Sp := if rcode N k F sp ch p = 9 then sp ++ [(ch, (F : Int) + p, v, f)] else sp
theorem RS_code (N k F : Nat) (sp : List Sp) (ch p : Int) : gputC k (RS N k F sp) ch ((F : Int) + p) = rcode N k F sp ch p := by
  unfold rcode
  by_cases h : ch < 0 ∨ (N : Int) ≤ ch
  · rw [if_pos h]
    exact gputC_out k _ ch _ (by rw [RS_len]; exact h)
  · rw [if_neg h]
    obtain ⟨i, rfl⟩ : ∃ i : Nat, ch = (i : Int) := ⟨ch.toNat, by omega⟩
    rw [gputC_in k _ i _ _ (RS_at N k F i sp (by omega))]
    unfold putC
    show (if (F : Int) + p < (F : Int) then _ else _) = _
    by_cases h1 : p < 0
    · rw [if_pos (by omega), if_pos h1]
    · rw [if_neg (by omega), if_neg h1]
      show (if (F : Int) + p - (F : Int) ≥ (k : Int) then _ else _) = _
      by_cases h2 : (k : Int) ≤ p
      · rw [if_pos (by omega), if_pos h2]
      · rw [if_neg (by omega), if_neg h2]
        obtain ⟨j, rfl⟩ : ∃ j : Nat, p = (j : Int) := ⟨p.toNat, by omega⟩
        show (if ((RSr k F sp i).2[((F : Int) + (j : Int) - (F : Int)).toNat]?.map (·.2)).getD false then _ else _) = _
        rw [show ((F : Int) + (j : Int) - (F : Int)).toNat = j by omega, RSr_at k F i j sp (by omega)]
        simp only [Option.map_some, Option.getD_some, sq_2]
theorem RS_next (N k F : Nat) (sp : List Sp) (ch p v f : Int) : gputR k (RS N k F sp) ch ((F : Int) + p) (v, f) = RS N k F (rnext N k F sp ch p v f) := by
  by_cases h : ch < 0 ∨ (N : Int) ≤ ch
  · have e : rcode N k F sp ch p = 0 := if_pos h
    rw [rnext, e, if_neg (by decide)]
    exact gputR_out k _ ch _ _ (by rw [RS_len]; exact h)
  · obtain ⟨i, rfl⟩ : ∃ i : Nat, ch = (i : Int) := ⟨ch.toNat, by omega⟩
    have hi : i < N := by omega
    have hc := RS_code N k F sp (i : Int) p
    rw [gputC_in k _ i _ _ (RS_at N k F i sp hi)] at hc
    rw [gputR_in k _ i _ _ _ (RS_at N k F i sp hi)]
    unfold rnext putQ
    rw [hc]
    by_cases h9 : rcode N k F sp (i : Int) p = 9
    · rw [if_pos h9, if_pos h9]
      have h0 : 0 ≤ p ∧ p < k ∧ spotOf sp (i : Int) ((F : Int) + p) = none := by
        unfold rcode at h9
        rw [if_neg h] at h9
        by_cases h1 : p < 0
        · rw [if_pos h1] at h9; omega
        rw [if_neg h1] at h9
        by_cases h2 : (k : Int) ≤ p
        · rw [if_pos h2] at h9; omega
        rw [if_neg h2] at h9
        by_cases h3 : (spotOf sp (i : Int) ((F : Int) + p)).isSome = true
        · rw [if_pos h3] at h9; omega
        · exact ⟨by omega, by omega, by simpa using h3⟩
      obtain ⟨j, rfl⟩ : ∃ j : Nat, p = (j : Int) := ⟨p.toNat, by omega⟩
      show (RS N k F sp).set i (F, (RSr k F sp i).2.set ((F : Int) + (j : Int) - (F : Int)).toNat ((v, f), true)) = _
      rw [show ((F : Int) + (j : Int) - (F : Int)).toNat = j by omega]
      refine List.ext_getElem? fun a => ?_
      rcases Nat.lt_or_ge a N with ha | ha
      · rw [RS_at _ _ _ _ _ ha]
        by_cases hai : i = a
        · subst hai
          rw [List.getElem?_set_self (by rw [RS_len]; exact ha)]
          congr 1
          refine Prod.ext rfl (List.ext_getElem? fun b => ?_)
          show ((RSr k F sp i).2.set j ((v, f), true))[b]? = _
          rcases Nat.lt_or_ge b k with hb | hb
          · rw [RSr_at _ _ _ _ _ hb]
            by_cases hbj : j = b
            · subst hbj
              rw [List.getElem?_set_self (by rw [RSr_len]; exact hb)]
              exact congrArg some (sq_new sp ((i : Int), (F : Int) + (j : Int), v, f) h0.2.2).symm
            · rw [List.getElem?_set_ne hbj, RSr_at _ _ _ _ _ hb]
              exact congrArg some (sq_other sp _ _ _ (by rintro ⟨_, h⟩; dsimp only at h; omega)).symm
          · rw [List.getElem?_eq_none (by rw [List.length_set, RSr_len]; exact hb), List.getElem?_eq_none (by rw [RSr_len]; exact hb)]
        · rw [List.getElem?_set_ne hai, RS_at _ _ _ _ _ ha]
          congr 1
          refine Prod.ext rfl (List.ext_getElem? fun b => ?_)
          rcases Nat.lt_or_ge b k with hb | hb
          · rw [RSr_at _ _ _ _ _ hb, RSr_at _ _ _ _ _ hb]
            exact congrArg some (sq_other sp _ _ _ (by rintro ⟨h, _⟩; dsimp only at h; omega)).symm
          · rw [List.getElem?_eq_none (by rw [RSr_len]; exact hb), List.getElem?_eq_none (by rw [RSr_len]; exact hb)]
      · rw [List.getElem?_eq_none (by rw [List.length_set, RS_len]; exact ha), List.getElem?_eq_none (by rw [RS_len]; exact ha)]
    · rw [if_neg h9, if_neg h9]
      have h1 := RS_at N k F i sp hi
      have h2 : i < (RS N k F sp).length := by rw [RS_len]; exact hi
      have h3 := (List.getElem?_eq_some_iff.1 h1).2
      show (RS N k F sp).set i (RSr k F sp i) = _
      rw [← h3]
      exact List.set_getElem_self h2
theorem rnext_lt (N k F : Nat) (sp : List Sp) (ch p v f : Int) (h : ∀ s ∈ sp, s.2.1 < (F : Int) + (k : Int)) : ∀ s ∈ rnext N k F sp ch p v f, s.2.1 < (F : Int) + (k : Int) := by
  unfold rnext
  by_cases h9 : rcode N k F sp ch p = 9
  · rw [if_pos h9]
    intro s hs
    rcases List.mem_append.1 hs with hs | hs
    · exact h s hs
    · simp at hs
      subst hs
      unfold rcode at h9
      by_cases h0 : ch < 0 ∨ (N : Int) ≤ ch
      · rw [if_pos h0] at h9; omega
      rw [if_neg h0] at h9
      by_cases h1 : p < 0
      · rw [if_pos h1] at h9; omega
      rw [if_neg h1] at h9
      by_cases h2 : (k : Int) ≤ p
      · rw [if_pos h2] at h9; omega
      show (F : Int) + p < _
      omega
  · rw [if_neg h9]; exact h
theorem RS_adv (N k F : Nat) (sp : List Sp) (hk : 0 < k) (h : ∀ s ∈ sp, s.2.1 < (F : Int) + (k : Int)) : (RS N k F sp).map adv = RS N k (F + 1) sp := by
  unfold RS
  rw [List.map_map]
  refine List.map_congr_left fun ch _ => ?_
  show adv (RSr k F sp ch) = RSr k (F + 1) sp ch
  obtain ⟨m, rfl⟩ : ∃ m, k = m + 1 := ⟨k - 1, by omega⟩
  refine Prod.ext rfl (List.ext_getElem? fun j => ?_)
  show ((RSr (m + 1) F sp ch).2.tail ++ [((0, 0), false)])[j]? = _
  have hl : (RSr (m + 1) F sp ch).2.tail.length = m := by rw [List.length_tail, RSr_len]; rfl
  rcases Nat.lt_or_ge j (m + 1) with hj | hj
  · rw [RSr_at _ _ _ _ _ hj]
    rcases Nat.lt_or_ge j m with hjm | hjm
    · rw [List.getElem?_append_left (by omega), List.getElem?_tail, RSr_at _ _ _ _ _ (by omega)]
      congr 2
      omega
    · have he : j = m := by omega
      subst he
      rw [List.getElem?_append_right (by omega), hl, Nat.sub_self]
      rw [sq_out sp _ _ (fun s hs => by have := h s hs; omega)]
      rfl
  · rw [List.getElem?_eq_none (by rw [List.length_append, hl]; simpa using hj), List.getElem?_eq_none (by rw [RSr_len]; exact hj)]
def rcell (why : List Int) (sp : List Sp) (F ch : Nat) : Int × Int × Int := match spotOf sp (ch : Int) (F : Int) with | some x => (1, x.1, x.2) | none => (why.getD ch 0, 0, 0)
def rtell (why : List Int) (sp : List Sp) (F N : Nat) : List (Int × Int × Int) := (List.range N).map (rcell why sp F)
theorem rtell_len (why : List Int) (sp : List Sp) (F N : Nat) : (rtell why sp F N).length = N := by simp [rtell]
theorem rtell_step (why : List Int) (sp : List Sp) (F N : Nat) : rtell why sp F (N + 1) = rtell why sp F N ++ [rcell why sp F N] := by simp [rtell, List.range_succ]
theorem RS_tell (N k F : Nat) (sp : List Sp) (why : List Int) (hk : 0 < k) (hw : why.length = N) : tellC why (RS N k F sp) = rtell why sp F N := by
  refine List.ext_getElem? fun i => ?_
  rcases Nat.lt_or_ge i N with h | h
  · have hy : why[i]? = some (why.getD i 0) := by rw [List.getD_eq_getElem?_getD, List.getElem?_eq_getElem (by omega)]; rfl
    rw [tellC_at _ _ i _ _ hy (RS_at _ _ _ _ _ h)]
    have : (rtell why sp F N)[i]? = some (rcell why sp F i) := by simp [rtell, h]
    rw [this]
    congr 1
    obtain ⟨m, rfl⟩ : ∃ m, k = m + 1 := ⟨k - 1, by omega⟩
    have hq : ∃ t, (RSr (m + 1) F sp i).2 = sq sp (i : Int) (F : Int) :: t := by
      have h0 := RSr_at (m + 1) F i 0 sp (by omega)
      cases hc : (RSr (m + 1) F sp i).2 with
      | nil => rw [hc] at h0; cases h0
      | cons a t =>
        rw [hc] at h0
        simp at h0
        exact ⟨t, by rw [h0]⟩
    obtain ⟨t, hq⟩ := hq
    unfold cellOf rcell
    rw [hq]
    unfold sq
    cases spotOf sp (i : Int) (F : Int) with
    | some x => obtain ⟨x1, x2⟩ := x; rfl
    | none => rfl
  · rw [List.getElem?_eq_none (by rw [tellC_len _ _ (by rw [RS_len, hw]), RS_len]; exact h), List.getElem?_eq_none (by rw [rtell_len]; exact h)]
end Go.Proofs.Ytoiaagdpckgpoaa
