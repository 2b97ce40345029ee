/- Layer 23: lines of words, the mathematics. -/
import Derived.Lib.ItoaNum
import Derived.Lib.ItoaLen
import Derived.Lib.AtoiAll
import Derived.Lib.AtoiAllCases
import Derived.Lib.Split
import Derived.Lib.SplitLaws
namespace Go.Proofs.YtaelhgkodcgmnaaDoor
open Go.Lib
set_option linter.unusedVariables false
set_option linter.unusedSimpArgs false

abbrev Str := List UInt8
def dig (b : UInt8) : Prop := 48 ≤ b.toNat ∧ b.toNat ≤ 57
theorem ofNat_dig {d : Nat} (h : d < 10) : (UInt8.ofNat (48 + d)).toNat = 48 + d := by
  rw [UInt8.toNat_ofNat']
  omega
theorem dec_dig : ∀ (u : Nat), ∀ b ∈ decDigits u, dig b := by
  intro u
  induction u using Nat.strongRecOn with
  | _ u ih =>
    intro b hb
    rw [decDigits] at hb
    by_cases h : u < 10
    · rw [dif_pos h] at hb
      simp only [List.mem_singleton] at hb
      subst hb
      unfold dig
      rw [ofNat_dig h]
      omega
    · rw [dif_neg h] at hb
      rcases List.mem_append.1 hb with hb | hb
      · exact ih (u / 10) (by omega) b hb
      · simp only [List.mem_singleton] at hb
        subst hb
        unfold dig
        rw [ofNat_dig (by omega)]
        omega
theorem dec_ne (u : Nat) : decDigits u ≠ [] := by
  rw [decDigits]
  by_cases h : u < 10
  · rw [dif_pos h]; simp
  · rw [dif_neg h]; simp
theorem parse_app {c : UInt8} (hc : dig c) : ∀ (l : Str) (acc m : Nat), parseUint10 acc l = .ok m → m * 10 + (c.toNat - 48) < 18446744073709551616 → parseUint10 acc (l ++ [c]) = .ok (m * 10 + (c.toNat - 48)) := by
  intro l
  induction l with
  | nil =>
    intro acc m h hm
    simp only [parseUint10] at h
    injection h with h
    subst h
    unfold dig at hc
    simp only [List.nil_append, parseUint10]
    rw [if_pos hc, if_neg (by omega), if_neg (by omega)]
  | cons b l ih =>
    intro acc m h hm
    simp only [List.cons_append, parseUint10] at h ⊢
    split at h
    · split at h
      · cases h
      · split at h
        · cases h
        · rename_i h1 h2 h3
          rw [if_pos h1, if_neg h2, if_neg h3]
          exact ih _ _ h hm
    · cases h
theorem parse_dec : ∀ (u : Nat), u < 18446744073709551616 → parseUint10 0 (decDigits u) = .ok u := by
  intro u
  induction u using Nat.strongRecOn with
  | _ u ih =>
    intro hu
    rw [decDigits]
    by_cases h : u < 10
    · rw [dif_pos h]
      have e := ofNat_dig h
      have := parse_app (c := UInt8.ofNat (48 + u)) (by unfold dig; rw [e]; omega) [] 0 0 rfl (by rw [e]; omega)
      rw [List.nil_append, e] at this
      rw [this]
      congr 1
      omega
    · rw [dif_neg h]
      have e := ofNat_dig (show u % 10 < 10 by omega)
      have := parse_app (c := UInt8.ofNat (48 + u % 10)) (by unfold dig; rw [e]; omega) (decDigits (u / 10)) 0 (u / 10) (ih (u / 10) (by omega) (by omega)) (by rw [e]; omega)
      rw [this, e]
      congr 1
      omega
def in64 (n : Int) : Prop := -9223372036854775808 ≤ n ∧ n ≤ 9223372036854775807
theorem mag_dec (u : Nat) (h : u < 18446744073709551616) : parseMag (decDigits u) = .ok u := by
  unfold parseMag
  rw [if_neg (dec_ne u), parse_dec u h]
theorem atoi_itoa {n : Int} (h : in64 n) : atoiAll (itoa n) = .ok n := by
  obtain ⟨h1, h2⟩ := h
  unfold itoa
  by_cases hn : n < 0
  · rw [if_pos hn, atoiAll_minus, mag_dec _ (by omega)]
    unfold signed
    dsimp only
    rw [if_neg (by omega)]
    congr 1
    omega
  · rw [if_neg hn]
    obtain ⟨b, l, hb⟩ : ∃ b l, decDigits n.toNat = b :: l := by
      match hd : decDigits n.toNat with
      | [] => exact absurd hd (dec_ne _)
      | b :: l => exact ⟨b, l, rfl⟩
    have hd := dec_dig n.toNat b (by rw [hb]; simp)
    have hm := mag_dec n.toNat (by omega)
    rw [hb] at hm ⊢
    unfold dig at hd
    rw [atoiAll_plain b l (by omega) (by omega), hm]
    unfold signless
    dsimp only
    rw [if_neg (by omega)]
    congr 1
    omega
/-- bytes of a number's text -/
theorem itoa_bytes (n : Int) : ∀ b ∈ itoa n, b = 45 ∨ dig b := by
  intro b hb
  unfold itoa at hb
  split at hb
  · rcases List.mem_cons.1 hb with hb | hb
    · exact .inl hb
    · exact .inr (dec_dig _ b hb)
  · exact .inr (dec_dig _ b hb)
theorem itoa_ne (n : Int) : itoa n ≠ [] := by
  unfold itoa
  split
  · simp
  · exact dec_ne _
theorem itoa_no {n : Int} {c : UInt8} (h : c = 32 ∨ c = 64 ∨ c = 10 ∨ c = 47) : c ∉ itoa n := by
  intro hm
  rcases itoa_bytes n c hm with h2 | h2
  · subst h2
    rcases h with h | h | h | h <;> exact absurd h (by decide)
  · unfold dig at h2
    rcases h with rfl | rfl | rfl | rfl <;> exact absurd h2 (by decide)

/-! ### Split at one byte -/
def pre1 (b : UInt8) : List Str → List Str
  | w :: ws => (b :: w) :: ws
  | [] => [[b]]
def spl (c : UInt8) : Str → List Str
  | [] => [[]]
  | b :: l => if b = c then [] :: spl c l else pre1 b (spl c l)
theorem spl_eq (c : UInt8) (l : Str) : spl c (c :: l) = [] :: spl c l := by rw [spl, if_pos rfl]
theorem spl_ne1 {c b : UInt8} (h : b ≠ c) (l : Str) : spl c (b :: l) = pre1 b (spl c l) := by rw [spl, if_neg h]
def jn (c : UInt8) : List Str → Str
  | [] => []
  | [w] => w
  | w :: v :: ws => w ++ c :: jn c (v :: ws)
theorem index_cons (c b : UInt8) (l : Str) : index (b :: l) [c] = if b = c then 0 else if index l [c] = -1 then -1 else index l [c] + 1 := by
  rw [index]
  by_cases h : b = c
  · subst h
    simp
  · rw [if_neg h]
    have : ([c].isPrefixOf (b :: l)) = false := by simp [List.isPrefixOf]; exact fun e => h e.symm
    rw [this]
    simp
theorem index_ge (c : UInt8) : ∀ l : Str, -1 ≤ index l [c] := by
  intro l
  induction l with
  | nil => simp [index]
  | cons b l ih =>
    rw [index_cons]
    (repeat' split) <;> omega
theorem splitK_cons {c b : UInt8} (hb : b ≠ c) (l : Str) (k : Nat) : splitK [c] 0 k (b :: l) = pre1 b (splitK [c] 0 k l) := by
  cases k with
  | zero => rfl
  | succ k =>
    unfold splitK
    rw [index_cons, if_neg hb]
    have hg := index_ge c l
    by_cases h : index l [c] = -1
    · rw [if_pos h, h]
      rfl
    · rw [if_neg h]
      have h1 : (index l [c] + 1 == -1) = false := by rw [beq_eq_false_iff_ne]; omega
      have h2 : (index l [c] == -1) = false := by rw [beq_eq_false_iff_ne]; omega
      rw [h1, h2]
      obtain ⟨i, hi⟩ : ∃ i : Nat, index l [c] = i := ⟨(index l [c]).toNat, by omega⟩
      rw [hi]
      have e : ((i : Int) + 1).toNat = i + 1 := by omega
      simp [e, pre1]
theorem split_spl (c : UInt8) : ∀ s : Str, split s [c] = spl c s := by
  intro s
  unfold split
  rw [count_one]
  induction s with
  | nil => rfl
  | cons b l ih =>
    by_cases h : b = c
    · subst h
      rw [spl_eq, List.count_cons_self, splitK, index_cons, if_pos rfl]
      simp
      exact ih
    · rw [spl_ne1 h, List.count_cons_of_ne (fun e => h e), splitK_cons h, ih]
theorem spl_ne (c : UInt8) (s : Str) : spl c s ≠ [] := by
  cases s with
  | nil => simp [spl]
  | cons b l =>
    by_cases h : b = c
    · subst h; rw [spl_eq]; simp
    · rw [spl_ne1 h]
      cases spl c l <;> simp [pre1]
theorem spl_no (c : UInt8) : ∀ (s : Str), ∀ w ∈ spl c s, c ∉ w := by
  intro s
  induction s with
  | nil => intro w hw; simp [spl] at hw; subst hw; simp
  | cons b l ih =>
    intro w hw
    by_cases hb : b = c
    · subst hb
      rw [spl_eq] at hw
      rcases List.mem_cons.1 hw with rfl | hw
      · simp
      · exact ih w hw
    · rw [spl_ne1 hb] at hw
      cases hs : spl c l with
      | nil => exact absurd hs (spl_ne c l)
      | cons v vs =>
        rw [hs] at hw
        rcases List.mem_cons.1 hw with rfl | hw
        · intro hm
          rcases List.mem_cons.1 hm with rfl | hm
          · exact hb rfl
          · exact ih v (by rw [hs]; simp) hm
        · exact ih w (by rw [hs]; simp [hw])
theorem jn_cons (c : UInt8) (w : Str) {ws : List Str} (h : ws ≠ []) : jn c (w :: ws) = w ++ c :: jn c ws := by
  match ws, h with
  | v :: ws, _ => rfl
theorem jn_spl (c : UInt8) : ∀ s : Str, jn c (spl c s) = s := by
  intro s
  induction s with
  | nil => rfl
  | cons b l ih =>
    by_cases h : b = c
    · subst h
      rw [spl_eq, jn_cons _ _ (spl_ne _ _), ih]
      rfl
    · rw [spl_ne1 h]
      cases hs : spl c l with
      | nil => exact absurd hs (spl_ne c l)
      | cons v vs =>
        rw [hs] at ih
        match vs with
        | [] => exact congrArg (b :: ·) ih
        | u :: us => exact congrArg (b :: ·) ih
theorem spl_app {c : UInt8} {w : Str} (h : c ∉ w) (s : Str) : spl c (w ++ c :: s) = w :: spl c s := by
  induction w with
  | nil => exact spl_eq c s
  | cons b w ih =>
    have hb : b ≠ c := fun e => h (by simp [e])
    rw [List.cons_append, spl_ne1 hb, ih (fun e => h (by simp [e]))]
    rfl
theorem spl_one {c : UInt8} {w : Str} (h : c ∉ w) : spl c w = [w] := by
  induction w with
  | nil => rfl
  | cons b w ih =>
    have hb : b ≠ c := fun e => h (by simp [e])
    rw [spl_ne1 hb, ih (fun e => h (by simp [e]))]
    rfl
theorem spl_jn {c : UInt8} : ∀ {ws : List Str}, ws ≠ [] → (∀ w ∈ ws, c ∉ w) → spl c (jn c ws) = ws := by
  intro ws
  induction ws with
  | nil => intro h; exact absurd rfl h
  | cons w ws ih =>
    intro _ hw
    match ws with
    | [] => exact spl_one (hw w (by simp))
    | v :: vs =>
      rw [jn_cons _ _ (by simp), spl_app (hw w (by simp)), ih (by simp) (fun x hx => hw x (by simp at hx ⊢; exact .inr hx))]
theorem index_app {c : UInt8} {a : Str} (h : c ∉ a) (b : Str) : index (a ++ c :: b) [c] = a.length := by
  induction a with
  | nil => rw [List.nil_append, index_cons, if_pos rfl]; rfl
  | cons x a ih =>
    rw [List.cons_append, index_cons, if_neg (fun e => h (by simp [e])), ih (fun e => h (by simp [e])), if_neg (by omega)]
    simp
theorem index_none {c : UInt8} {a : Str} (h : c ∉ a) : index a [c] = -1 := by
  induction a with
  | nil => simp [index]
  | cons x a ih => rw [index_cons, if_neg (fun e => h (by simp [e])), ih (fun e => h (by simp [e])), if_pos rfl]
theorem cut_app {c : UInt8} {a : Str} (h : c ∉ a) (b : Str) : cut (a ++ c :: b) [c] = (a, b, true) := by
  unfold cut
  rw [index_app h, if_pos (by omega)]
  simp
theorem cut_none {c : UInt8} {a : Str} (h : c ∉ a) : cut a [c] = (a, [], false) := by
  unfold cut
  rw [index_none h, if_neg (by omega)]

/-! ### What is told -/
structure Cl where
  kind : Int
  v : Int
  fr : Int
deriving DecidableEq
instance : Inhabited Cl := ⟨⟨0, 0, 0⟩⟩
structure Td where
  tick : Int
  cells : List Cl
  rules : List (Bool × Bool)
  chans : List (Bool × Bool)
deriving DecidableEq
def Td.zero : Td := ⟨0, [], [], []⟩
def clR (c : Cl) : Prop := (1 ≤ c.kind ∧ c.kind ≤ 4) ∧ (c.kind = 1 ∨ (c.v = 0 ∧ c.fr = 0))
instance (c : Cl) : Decidable (clR c) := by unfold clR; infer_instance
def tdR (t : Td) : Prop := (∀ c ∈ t.cells, clR c) ∧ 0 ≤ t.tick
instance (t : Td) : Decidable (tdR t) := by unfold tdR; infer_instance
def clW (c : Cl) : Str := if c.kind = 1 then 118 :: (itoa c.v ++ 64 :: itoa c.fr) else if c.kind = 2 then [109] else if c.kind = 3 then [117] else [114]
def alB (a : Bool × Bool) : UInt8 := if a.1 = true then (if a.2 = true then 43 else 42) else (if a.2 = true then 33 else 45)
def tickW : Str := [116, 105, 99, 107]
/-- the words of a line -/
def wds (t : Td) : List Str := tickW :: itoa t.tick :: (t.cells.map clW ++ [47] :: (t.rules.map (fun a => [alB a]) ++ [47] :: t.chans.map (fun a => [alB a])))
def lineR (t : Td) : Str := if tdR t then jn 32 (wds t) else []
theorem alB_no {a : Bool × Bool} {c : UInt8} (h : c = 32 ∨ c = 64 ∨ c = 10 ∨ c = 47) : alB a ≠ c := by
  rcases a with ⟨_ | _, _ | _⟩ <;> rcases h with rfl | rfl | rfl | rfl <;> decide
theorem clW_no {x : Cl} {c : UInt8} (h : c = 32 ∨ c = 10 ∨ c = 47) : c ∉ clW x := by
  have h2 : c = 32 ∨ c = 64 ∨ c = 10 ∨ c = 47 := by rcases h with h | h | h <;> simp [h]
  unfold clW
  split
  · intro hm
    rcases List.mem_cons.1 hm with hm | hm
    · subst hm; rcases h with h | h | h <;> exact absurd h (by decide)
    · rcases List.mem_append.1 hm with hm | hm
      · exact itoa_no h2 hm
      · rcases List.mem_cons.1 hm with hm | hm
        · subst hm; rcases h with h | h | h <;> exact absurd h (by decide)
        · exact itoa_no h2 hm
  · (repeat' split) <;> (intro hm; simp at hm; subst hm; rcases h with h | h | h <;> exact absurd h (by decide))
theorem wds_no {t : Td} {c : UInt8} (h : c = 32 ∨ c = 10) : ∀ w ∈ wds t, c ∉ w := by
  have h2 : c = 32 ∨ c = 64 ∨ c = 10 ∨ c = 47 := by rcases h with h | h <;> simp [h]
  have h3 : c = 32 ∨ c = 10 ∨ c = 47 := by rcases h with h | h <;> simp [h]
  intro w hw hm
  unfold wds at hw
  simp only [List.mem_cons, List.mem_append, List.mem_map] at hw
  rcases hw with rfl | rfl | ⟨x, _, rfl⟩ | rfl | ⟨a, _, rfl⟩ | rfl | ⟨a, _, rfl⟩
  · rcases h with rfl | rfl <;> exact absurd hm (by decide)
  · exact itoa_no h2 hm
  · exact clW_no h3 hm
  · simp at hm; subst hm; rcases h with h | h <;> exact absurd h (by decide)
  · simp at hm; exact alB_no h2 hm.symm
  · simp at hm; subst hm; rcases h with h | h <;> exact absurd h (by decide)
  · simp at hm; exact alB_no h2 hm.symm
theorem wds_ne (t : Td) : wds t ≠ [] := by simp [wds]
theorem spl_line (t : Td) : spl 32 (jn 32 (wds t)) = wds t := spl_jn (wds_ne t) (wds_no (.inl rfl))
end Go.Proofs.YtaelhgkodcgmnaaDoor
