/- Layer 13: kept ones, counted. -/
import Derived.Test.YtoiaagdpckgpoaaGridR
namespace Go.Proofs.Ytoiaagdpckgpoaa
open Go.ChangeShapes Go.WideShapes Go.ChangeAt Go.RowKit
set_option linter.unusedVariables false
set_option linter.unusedSimpArgs false

def o5 (l : List OpI) : List Value := l.flatMap fun o => [.bool o.tell, .int .i64 o.ch, .int .i16 o.k, .int .i64 o.v, .int .i64 o.f]
theorem o5_len (l : List OpI) : (o5 l).length = l.length * 5 := by
  induction l with
  | nil => rfl
  | cons a l ih => simp [o5] at ih ⊢; omega
theorem o5_app (l m : List OpI) : o5 (l ++ m) = o5 l ++ o5 m := by simp [o5]
theorem o5_one (l : List OpI) : ∀ u ∈ o5 l, u.oneCell' = true := by
  intro u hu
  obtain ⟨a, _, h⟩ := List.mem_flatMap.1 hu
  simp only [List.mem_cons, List.not_mem_nil, or_false] at h
  rcases h with rfl | rfl | rfl | rfl | rfl <;> rfl
theorem o5_at (l : List OpI) (i : Nat) (a : OpI) (h : l[i]? = some a) : (o5 l)[i * 5 + 1]? = some (.int .i64 a.ch) ∧ (o5 l)[i * 5 + 2]? = some (.int .i16 a.k) ∧ (o5 l)[i * 5 + 3]? = some (.int .i64 a.v) ∧ (o5 l)[i * 5 + 4]? = some (.int .i64 a.f) := by
  induction l generalizing i with
  | nil => simp at h
  | cons b l ih =>
    cases i with
    | zero =>
      simp at h
      subst h
      exact ⟨rfl, rfl, rfl, rfl⟩
    | succ i =>
      have h' : l[i]? = some a := by simpa using h
      have := ih i h'
      rw [show (i + 1) * 5 = i * 5 + 5 by omega]
      exact this
theorem elO : Elem Try.prog 26 41 5 40 := Elem.mk' (z := .agg #[.bool false, .int .i64 0, .int .i16 0, .int .i64 0, .int .i64 0]) (by kernel_rfl) (by kernel_rfl) rfl (by decide)
def spO (o : OpI) : Sp := (o.ch, o.k, o.v, o.f)
def spL (l : List OpI) : List Sp := l.map spO
theorem spL_app (l : List OpI) (o : OpI) : spL (l ++ [o]) = spL l ++ [spO o] := by simp [spL]
theorem spL_len (l : List OpI) : (spL l).length = l.length := by simp [spL]
theorem spL_at (l : List OpI) (i : Nat) (o : OpI) (h : l[i]? = some o) : (spL l)[i]? = some (spO o) := by simp [spL, h]
/-- no two of one place -/
def ND (sp : List Sp) : Prop := ∀ (i j : Nat) a b, i < j → sp[i]? = some a → sp[j]? = some b → ¬ (a.1 = b.1 ∧ a.2.1 = b.2.1)
theorem ND_nil : ND [] := fun i j a b _ h => by simp at h
theorem spot_none {sp : List Sp} {ch kk : Int} (h : spotOf sp ch kk = none) : ∀ s ∈ sp, ¬ (s.1 = ch ∧ s.2.1 = kk) := by
  unfold spotOf at h
  rw [Option.map_eq_none_iff, List.find?_eq_none] at h
  exact fun s hs hc => h s hs ((isSp_iff _ _ _).2 hc)
theorem none_spot {sp : List Sp} {ch kk : Int} (h : ∀ s ∈ sp, ¬ (s.1 = ch ∧ s.2.1 = kk)) : spotOf sp ch kk = none := by
  unfold spotOf
  rw [Option.map_eq_none_iff, List.find?_eq_none]
  exact fun s hs hc => h s hs ((isSp_iff _ _ _).1 hc)
theorem ND_add {sp : List Sp} {s : Sp} (h : ND sp) (hs : spotOf sp s.1 s.2.1 = none) : ND (sp ++ [s]) := by
  intro i j a b hij ha hb
  have hj := (List.getElem?_eq_some_iff.1 hb).1
  rw [List.length_append, List.length_singleton] at hj
  rw [List.getElem?_append_left (by omega)] at ha
  rcases Nat.lt_or_ge j sp.length with h1 | h1
  · rw [List.getElem?_append_left h1] at hb
    exact h i j a b hij ha hb
  · rw [List.getElem?_append_right h1] at hb
    have hb' := List.mem_of_getElem? hb
    simp at hb'
    subst hb'
    exact spot_none hs a (List.mem_of_getElem? ha)
theorem take_none {sp : List Sp} (h : ND sp) {j : Nat} {s : Sp} (hs : sp[j]? = some s) : spotOf (sp.take j) s.1 s.2.1 = none := by
  refine none_spot fun a ha => ?_
  obtain ⟨i, hi, rfl⟩ := List.getElem_of_mem ha
  have hij : i < j := by rw [List.length_take] at hi; omega
  refine h i j _ s hij ?_ hs
  rw [List.getElem_take]
  exact List.getElem?_eq_getElem _
def wantOf (sp : List Sp) (ch kt y : Int) : Int × Int × Int := match spotOf sp ch kt with | some x => (1, x.1, x.2) | none => (y, 0, 0)
theorem want_rcell (why : List Int) (sp : List Sp) (F ch : Nat) : rcell why sp F ch = wantOf sp (ch : Int) (F : Int) (why.getD ch 0) := rfl
theorem want_yes {sp : List Sp} (h : ND sp) {j : Nat} {s : Sp} (hs : sp[j]? = some s) (ch kt y : Int) (hc : s.1 = ch) (hk : s.2.1 = kt) : wantOf (sp.take (j + 1)) ch kt y = (1, s.2.2.1, s.2.2.2) := by
  subst hc hk
  have h1 := take_none h hs
  unfold wantOf
  rw [List.take_add_one, hs]
  show (match spotOf (sp.take j ++ [s]) s.1 s.2.1 with | some x => (1, x.1, x.2) | none => (y, 0, 0)) = _
  rw [spot_app, h1]
  dsimp only
  rw [if_pos ⟨rfl, rfl⟩]
theorem want_no {sp : List Sp} {j : Nat} {s : Sp} (hs : sp[j]? = some s) (ch kt y : Int) (hc : ¬ (s.1 = ch ∧ s.2.1 = kt)) : wantOf (sp.take (j + 1)) ch kt y = wantOf (sp.take j) ch kt y := by
  unfold wantOf
  rw [List.take_add_one, hs]
  show (match spotOf (sp.take j ++ [s]) ch kt with | some x => (1, x.1, x.2) | none => (y, 0, 0)) = _
  rw [spot_app]
  cases spotOf (sp.take j) ch kt with
  | some x => rfl
  | none => dsimp only; rw [if_neg hc]
def bef (kt ch : Int) (s : Sp) : Bool := decide (s.2.1 < kt ∨ (s.2.1 = kt ∧ s.1 < ch))
def cnt (sp : List Sp) (kt ch : Int) : Nat := sp.countP (bef kt ch)
def mc (sp : List Sp) (ch kt : Int) : Nat := sp.countP (isSp ch kt)
theorem cnt_zero {sp : List Sp} (h : ∀ s ∈ sp, 0 ≤ s.1 ∧ 0 ≤ s.2.1) : cnt sp 0 0 = 0 := by
  unfold cnt
  rw [List.countP_eq_zero]
  intro s hs hb
  have := h s hs
  have := of_decide_eq_true hb
  omega
theorem cnt_step (sp : List Sp) (kt ch : Int) : cnt sp kt (ch + 1) = cnt sp kt ch + mc sp ch kt := by
  unfold cnt mc
  induction sp with
  | nil => rfl
  | cons s l ih =>
    rw [List.countP_cons, List.countP_cons, List.countP_cons, ih]
    have : (if bef kt (ch + 1) s = true then 1 else 0) = (if bef kt ch s = true then 1 else 0) + (if isSp ch kt s = true then 1 else 0) := by
      by_cases h1 : s.2.1 < kt ∨ (s.2.1 = kt ∧ s.1 < ch)
      · have a1 : bef kt (ch + 1) s = true := decide_eq_true (by omega)
        have a2 : bef kt ch s = true := decide_eq_true h1
        have a3 : isSp ch kt s = false := by rw [Bool.eq_false_iff]; intro h; have := (isSp_iff _ _ _).1 h; omega
        simp [a1, a2, a3]
      · have a2 : bef kt ch s = false := decide_eq_false h1
        by_cases h2 : s.1 = ch ∧ s.2.1 = kt
        · have a1 : bef kt (ch + 1) s = true := decide_eq_true (by omega)
          have a3 : isSp ch kt s = true := (isSp_iff _ _ _).2 h2
          simp [a1, a2, a3]
        · have a1 : bef kt (ch + 1) s = false := decide_eq_false (by omega)
          have a3 : isSp ch kt s = false := by rw [Bool.eq_false_iff]; intro h; exact h2 ((isSp_iff _ _ _).1 h)
          simp [a1, a2, a3]
    omega
theorem cnt_next {sp : List Sp} {N : Nat} (kt : Int) (h : ∀ s ∈ sp, 0 ≤ s.1 ∧ s.1 < (N : Int)) : cnt sp kt (N : Int) = cnt sp (kt + 1) 0 := by
  unfold cnt
  refine List.countP_congr fun s hs => ?_
  have := h s hs
  unfold bef
  rw [decide_eq_true_eq, decide_eq_true_eq]
  omega
theorem cnt_all {sp : List Sp} {k : Nat} (h : ∀ s ∈ sp, s.2.1 < (k : Int)) (kt : Int) (hk : (k : Int) ≤ kt) : cnt sp kt 0 = sp.length := by
  unfold cnt
  rw [List.countP_eq_length]
  intro s hs
  have := h s hs
  exact decide_eq_true (by omega)
theorem cnt_le (sp : List Sp) (kt ch : Int) : cnt sp kt ch ≤ sp.length := List.countP_le_length
theorem mc_le (sp : List Sp) (ch kt : Int) : mc sp ch kt ≤ sp.length := List.countP_le_length
theorem mc_step {sp : List Sp} {j : Nat} {s : Sp} (hs : sp[j]? = some s) (ch kt : Int) : mc (sp.take (j + 1)) ch kt = mc (sp.take j) ch kt + if s.1 = ch ∧ s.2.1 = kt then 1 else 0 := by
  unfold mc
  rw [List.take_add_one, hs]
  show List.countP _ (sp.take j ++ [s]) = _
  rw [List.countP_append]
  congr 1
  rw [List.countP_singleton]
  by_cases h : s.1 = ch ∧ s.2.1 = kt
  · rw [if_pos h, if_pos ((isSp_iff _ _ _).2 h)]
  · rw [if_neg h, if_neg (fun hc => h ((isSp_iff _ _ _).1 hc))]
theorem RS_code0 (N k : Nat) (sp : List Sp) (ch p : Int) : gputC k (RS N k 0 sp) ch p = rcode N k 0 sp ch p := by
  have := RS_code N k 0 sp ch p
  rwa [show ((0 : Nat) : Int) + p = p by omega] at this
theorem RS_next0 (N k : Nat) (sp : List Sp) (ch p v f : Int) : gputR k (RS N k 0 sp) ch p (v, f) = RS N k 0 (rnext N k 0 sp ch p v f) := by
  have := RS_next N k 0 sp ch p v f
  rwa [show ((0 : Nat) : Int) + p = p by omega] at this
theorem code9 {N k : Nat} {sp : List Sp} {ch p : Int} (h9 : rcode N k 0 sp ch p = 9) : 0 ≤ ch ∧ ch < N ∧ 0 ≤ p ∧ p < k ∧ spotOf sp ch p = none := by
  unfold rcode at h9
  by_cases h : ch < 0 ∨ (N : Int) ≤ ch
  · rw [if_pos h] at h9; omega
  rw [if_neg h] at h9
  by_cases h1 : p < 0
  · rw [if_pos h1] at h9; omega
  rw [if_neg h1] at h9
  by_cases h2 : (k : Int) ≤ p
  · rw [if_pos h2] at h9; omega
  rw [if_neg h2, show ((0 : Nat) : Int) + p = p by omega] at h9
  by_cases h3 : (spotOf sp ch p).isSome = true
  · rw [if_pos h3] at h9; omega
  · exact ⟨by omega, by omega, by omega, by omega, by simpa using h3⟩
theorem next9 {N k : Nat} {sp : List Sp} {ch p v f : Int} (h9 : rcode N k 0 sp ch p = 9) : rnext N k 0 sp ch p v f = sp ++ [(ch, p, v, f)] := by
  rw [rnext, if_pos h9, show ((0 : Nat) : Int) + p = p by omega]
theorem nextno {N k : Nat} {sp : List Sp} {ch p v f : Int} (h9 : ¬ rcode N k 0 sp ch p = 9) : rnext N k 0 sp ch p v f = sp := by
  rw [rnext, if_neg h9]
/-- all lie in the grid -/
def InG (N k : Nat) (sp : List Sp) : Prop := ∀ s ∈ sp, 0 ≤ s.1 ∧ s.1 < (N : Int) ∧ 0 ≤ s.2.1 ∧ s.2.1 < (k : Int)
theorem InG_add {N k : Nat} {sp : List Sp} {s : Sp} (h : InG N k sp) (hs : 0 ≤ s.1 ∧ s.1 < (N : Int) ∧ 0 ≤ s.2.1 ∧ s.2.1 < (k : Int)) : InG N k (sp ++ [s]) := by
  intro a ha
  rcases List.mem_append.1 ha with ha | ha
  · exact h a ha
  · simp at ha; subst ha; exact hs
theorem tell_at (N : Nat) (sp : List Sp) (why : List Int) (F i : Nat) (hi : i < N) (y : Int) (hy : why[i]? = some y) : (rtell why sp F N)[i]? = some (wantOf sp (i : Int) (F : Int) y) := by
  have : (rtell why sp F N)[i]? = some (rcell why sp F i) := by simp [rtell, hi]
  rw [this, want_rcell, List.getD_eq_getElem?_getD, hy]
  rfl
end Go.Proofs.Ytoiaagdpckgpoaa
