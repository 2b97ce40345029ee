/- Layer 17: contracts. -/
import Derived.Test.YtcdmojimdiiepaaMem
import Derived.Deep.QuietTactic
import Derived.BigQuiet
import Derived.Deep.RegionWith
namespace Go.Proofs.Ytcdmojimdiiepaa
open Go.ChangeShapes Go.WideShapes Go.ChangeAt Go.RowKit
set_option linter.unusedVariables false
set_option linter.unusedSimpArgs false

def tr (n : Int) : Int := if n = 1 then 1 else if n = 2 then 2 else 3
def Tr (n : Int) : Prop := n = 1 ∨ n = 2 ∨ n = 3
theorem tr_tr (n : Int) : Tr (tr n) := by unfold tr Tr; (repeat' split) <;> omega
def not3 (a : Int) : Int := if a = 1 then 2 else if a = 2 then 1 else 3
def and3 (a b : Int) : Int := if a = 1 ∨ b = 1 then 1 else if a = 2 ∧ b = 2 then 2 else 3
def or3 (a b : Int) : Int := if a = 2 ∨ b = 2 then 2 else if a = 1 ∧ b = 1 then 1 else 3

theorem truthOf_any (n : Int) (w : World) :
    Calls Try.prog 104 #[.int .i64 n] w fun e w' => e = .returned (.int .i64 (tr n)) ∧ w = w' := by
  by_cases h1 : n = 1
  · subst h1
    go_enter Try.func104, Try.ntmps104
    go_wp2
    go_ret
    exact ⟨rfl, rfl⟩
  by_cases h2 : n = 2
  · subst h2
    go_enter Try.func104, Try.ntmps104
    go_wp2
    go_ret
    exact ⟨rfl, rfl⟩
  have g1 : (n == 1) = false := by simp [h1]
  have g2 : (n == 2) = false := by simp [h2]
  have e : tr n = 3 := by unfold tr; rw [if_neg h1, if_neg h2]
  clear h1 h2
  go_enter Try.func104, Try.ntmps104
  go_wp2
  go_ret
  exact ⟨by simp [e], rfl⟩

theorem place_any (n : Int) (w : World) (h : 1 ≤ n) (h3 : n ≤ 3) :
    Calls Try.prog 105 #[.int .i64 n] w fun e w' => e = .returned (.int .i64 (n - 1)) ∧ w' = w := by
  go_enter Try.func105, Try.ntmps105
  go_wp2
  go_ret
  exact ⟨rfl, rfl⟩

/-- what a table of nine says -/
def look (t11 t12 t13 t21 t22 t23 t31 t32 t33 a b : Int) : Int :=
  if a = 1 then (if b = 1 then t11 else if b = 2 then t12 else t13) else if a = 2 then (if b = 1 then t21 else if b = 2 then t22 else t23) else (if b = 1 then t31 else if b = 2 then t32 else t33)

set_option maxHeartbeats 1000000 in
theorem kof_any (a b : Int) (t11 t12 t13 t21 t22 t23 t31 t32 t33 : Int) (w : World) (ha : Tr a) (hb : Tr b) :
    Calls Try.prog 112 #[.agg #[.int .i64 t11, .int .i64 t12, .int .i64 t13, .int .i64 t21, .int .i64 t22, .int .i64 t23, .int .i64 t31, .int .i64 t32, .int .i64 t33], .int .i64 a, .int .i64 b] w
      fun e w' => e = .returned (.int .i64 (look t11 t12 t13 t21 t22 t23 t31 t32 t33 a b)) ∧ Below w.heap.size w w' := by
  rcases ha with rfl | rfl | rfl <;> rcases hb with rfl | rfl | rfl
  all_goals
    go_enter Try.func112, Try.ntmps112
    go_wp2_with fail
    go_quiet ((go_at_call 105; refine Calls.quiet_of_same (place_any _ _ (by omega) (by omega))))
    go_wp2
    go_ret
    exact ⟨by simp [look], Bdrew ((Below.refl _ _).alloc (Nat.le_refl _) _) _⟩

theorem blk_cells {w : World} {g : Nat} {t : TypeId} {cs : Array Value} (h : w.heap[g]? = some (.cells cs t (0, 0))) (i : Nat) : w.cell? ⟨g, i, none⟩ = cs[i]? := cell_of_row w g i cs t (0, 0) h

def foldT (g : Int → Int → Int) (f : Int) (l : List Int) : Int := l.foldl (fun a x => g a (tr x)) f
theorem foldT_snoc (g : Int → Int → Int) (f : Int) (l : List Int) (x : Int) : foldT g f (l ++ [x]) = g (foldT g f l) (tr x) := by simp [foldT]
theorem foldT_tr (g : Int → Int → Int) (f : Int) (l : List Int) (hf : Tr f) (hg : ∀ a b, Tr a → Tr b → Tr (g a b)) : Tr (foldT g f l) := by
  have key : ∀ (l : List Int) (f : Int), Tr f → Tr (l.foldl (fun a x => g a (tr x)) f) := by
    intro l
    induction l with
    | nil => intro f h; exact h
    | cons x l ih => intro f h; exact ih _ (hg _ _ h (tr_tr x))
  exact key l f hf

set_option maxHeartbeats 1000000 in
theorem fold_any (t11 t12 t13 t21 t22 t23 t31 t32 t33 : Int) (f : Int) (v : Value) (l : List Int) (w : World) (hf : Tr f) (hl : Row w v (l.map (.int .i64)))
    (hg : ∀ a b, Tr a → Tr b → Tr (look t11 t12 t13 t21 t22 t23 t31 t32 t33 a b)) :
    Calls Try.prog 101 #[.agg #[.int .i64 t11, .int .i64 t12, .int .i64 t13, .int .i64 t21, .int .i64 t22, .int .i64 t23, .int .i64 t31, .int .i64 t32, .int .i64 t33], .int .i64 f, v] w
      fun e w' => e = .returned (.int .i64 (foldT (look t11 t12 t13 t21 t22 t23 t31 t32 t33) f l)) ∧ Below w.heap.size w w' := by
  have HT := Lib.hid (fun k => foldT_tr (look t11 t12 t13 t21 t22 t23 t31 t32 t33) f (l.take k) hf hg)
  obtain ⟨A, c, rfl, hc, hm, hA⟩ := hl
  rw [List.length_map] at hc hA ⊢
  unfold maxLen at hm
  have hcell : ∀ k x, l[k]? = some x → ∃ ad, A = some ad ∧ ad.block < w.heap.size ∧ w.cell? (ad.add k) = some (.int .i64 x) := by
    intro k x hx
    have hk : k < l.length := by
      rcases Nat.lt_or_ge k l.length with h | h
      · exact h
      · rw [List.getElem?_eq_none h] at hx; cases hx
    rcases hA with ⟨_, h0⟩ | ⟨ad, h1, h2, h3⟩
    · omega
    · exact ⟨ad, h1, h2 (by omega), h3 k _ (by rw [List.getElem?_map, hx]; rfl)⟩
  have HC := Lib.hid hcell
  clear hcell hA hg
  go_enter Try.func101, Try.ntmps101
  go_wp2
  go_loopw [1, 11] (fun a i wr => ∃ k : Nat, k ≤ l.length ∧ i = .int .i64 k ∧ a = .int .i64 (foldT (look t11 t12 t13 t21 t22 t23 t31 t32 t33) f (l.take k)) ∧ Below w.heap.size w wr ∧
      wr.heap[w.heap.size]? = some (.cells #[.int .i64 t11, .int .i64 t12, .int .i64 t13, .int .i64 t21, .int .i64 t22, .int .i64 t23, .int .i64 t31, .int .i64 t32, .int .i64 t33] 162 (0, 0))) (fun _ i _ => l.length - (intOf i).toNat)
  case atStart => exact ⟨0, Nat.zero_le _, rfl, rfl, (Below.refl _ _).alloc (Nat.le_refl _) _, heap_alloc_new _ _⟩
  case round =>
    obtain ⟨k, hk, rfl, rfl, hb, hblk⟩ := hrel
    by_cases hlt : k < l.length
    · obtain ⟨x, hx⟩ : ∃ x, l[k]? = some x := ⟨_, List.getElem?_eq_getElem hlt⟩
      obtain ⟨ad, rfl, had, hcx⟩ := HC.out k x hx
      have hcx' : wr.cell? (ad.add k) = some (.int .i64 x) := by rw [hb.cell (by rw [block_add]; exact had)]; exact hcx
      have HE := Lib.hid (show foldT (look t11 t12 t13 t21 t22 t23 t31 t32 t33) f (l.take (k + 1)) = look t11 t12 t13 t21 t22 t23 t31 t32 t33 (foldT (look t11 t12 t13 t21 t22 t23 t31 t32 t33) f (l.take k)) (tr x) by rw [List.take_add_one, hx]; exact foldT_snoc _ _ _ _)
      have hT := HT.out k
      have HB := Lib.hid hblk
      have c0 := blk_cells hblk 0
      have c1 := blk_cells hblk 1
      have c2 := blk_cells hblk 2
      have c3 := blk_cells hblk 3
      have c4 := blk_cells hblk 4
      have c5 := blk_cells hblk 5
      have c6 := blk_cells hblk 6
      have c7 := blk_cells hblk 7
      have c8 := blk_cells hblk 8
      simp at c0 c1 c2 c3 c4 c5 c6 c7 c8
      have hsz : w.heap.size < wr.heap.size := by
        rcases Nat.lt_or_ge w.heap.size wr.heap.size with h | h
        · exact h
        · rw [Array.getElem?_eq_none h] at hblk; cases hblk
      clear hx hcx hblk
      generalize foldT (look t11 t12 t13 t21 t22 t23 t31 t32 t33) f (l.take k) = a at *
      have HTa := Lib.hid hT
      clear hT
      go_wp2
      go_region_with (first | (go_at_call 104; refine (truthOf_any _ _).mono ?_; rintro e w' ⟨rfl, rfl⟩) | (go_at_call 112; refine (kof_any _ _ _ _ _ _ _ _ _ _ _ _ HTa.out (tr_tr _)).mono ?_; rintro e w2 ⟨rfl, hb2⟩))
      all_goals
        have hb3 : Below wr.heap.size wr w2 := ⟨hb2.os, hb2.tape, hb2.output, hb2.size, hb2.block⟩
        go_wp2
        go_roundw
        case rel => exact ⟨k + 1, by omega, by go_num, by rw [HE.out], hb.trans (hb3.mono hb.size), (hb3.block _ hsz).trans HB.out⟩
        case measure => simp [intOf]; omega
    · go_wp2
      go_ret
      have : k = l.length := by omega
      subst this
      exact ⟨by rw [List.take_length]; rfl, hb⟩

/-! ### what the table's two functions make -/
theorem and_look (a b : Int) (ha : Tr a) (hb : Tr b) : look 1 1 1 1 2 3 1 3 3 a b = and3 a b := by
  rcases ha with rfl | rfl | rfl <;> rcases hb with rfl | rfl | rfl <;> rfl
theorem or_look (a b : Int) (ha : Tr a) (hb : Tr b) : look 1 2 3 2 2 2 3 2 3 a b = or3 a b := by
  rcases ha with rfl | rfl | rfl <;> rcases hb with rfl | rfl | rfl <;> rfl
theorem and_tr (a b : Int) (ha : Tr a) (hb : Tr b) : Tr (and3 a b) := by unfold and3 Tr; (repeat' split) <;> omega
theorem or_tr (a b : Int) (ha : Tr a) (hb : Tr b) : Tr (or3 a b) := by unfold or3 Tr; (repeat' split) <;> omega
theorem foldT_congr (g h : Int → Int → Int) (f : Int) (l : List Int) (hf : Tr f) (hh : ∀ a b, Tr a → Tr b → Tr (h a b)) (e : ∀ a b, Tr a → Tr b → g a b = h a b) : foldT g f l = foldT h f l := by
  have key : ∀ (l : List Int) (f : Int), Tr f → l.foldl (fun a x => g a (tr x)) f = l.foldl (fun a x => h a (tr x)) f := by
    intro l
    induction l with
    | nil => intro f _; rfl
    | cons x l ih =>
      intro f hf
      rw [List.foldl_cons, List.foldl_cons, e f (tr x) hf (tr_tr x)]
      exact ih _ (hh _ _ hf (tr_tr x))
  exact key l f hf

def all3 (l : List Int) : Int := foldT and3 2 l
def any3 (l : List Int) : Int := foldT or3 1 l

theorem table_and (w : World) : Calls Try.prog 102 #[] w fun e w' => e = .returned (.agg #[.int .i64 1, .int .i64 1, .int .i64 1, .int .i64 1, .int .i64 2, .int .i64 3, .int .i64 1, .int .i64 3, .int .i64 3]) ∧ Below w.heap.size w w' := by
  go_enter Try.func102, Try.ntmps102
  go_wp2
  go_returns
  exact ⟨by simp, by go_grown⟩
theorem table_or (w : World) : Calls Try.prog 103 #[] w fun e w' => e = .returned (.agg #[.int .i64 1, .int .i64 2, .int .i64 3, .int .i64 2, .int .i64 2, .int .i64 2, .int .i64 3, .int .i64 2, .int .i64 3]) ∧ Below w.heap.size w w' := by
  go_enter Try.func103, Try.ntmps103
  go_wp2
  go_returns
  exact ⟨by simp, by go_grown⟩

theorem and_tr1 (a b : Int) : foldT and3 2 [a, b] = and3 (tr a) (tr b) := by
  show and3 (and3 2 (tr a)) (tr b) = _
  rcases tr_tr a with h | h | h <;> rcases tr_tr b with k | k | k <;> rw [h, k] <;> rfl
theorem or_tr1 (a b : Int) : foldT or3 1 [a, b] = or3 (tr a) (tr b) := by
  show or3 (or3 1 (tr a)) (tr b) = _
  rcases tr_tr a with h | h | h <;> rcases tr_tr b with k | k | k <;> rw [h, k] <;> rfl

set_option maxHeartbeats 1000000 in
theorem and_any (a b : Int) (w : World) :
    Calls Try.prog 82 #[.int .i64 a, .int .i64 b] w fun e w' => e = .returned (.int .i64 (and3 (tr a) (tr b))) ∧ Below w.heap.size w w' := by
  have he : foldT (look 1 1 1 1 2 3 1 3 3) 2 [a, b] = and3 (tr a) (tr b) := (foldT_congr _ _ _ _ (.inr (.inl rfl)) and_tr and_look).trans (and_tr1 a b)
  go_enter Try.func82, Try.ntmps82
  go_wp2_with fail
  refine (table_and _).mono ?_
  rintro e w1 ⟨rfl, hb1⟩
  go_wp2_with fail
  refine (fold_any _ _ _ _ _ _ _ _ _ 2 _ [a, b] _ (.inr (.inl rfl)) (Row.of_block (heap_at _ _ _ rfl) rfl rfl (Nat.le_refl _) (by simp [maxLen])) (fun a b ha hb => by rw [and_look a b ha hb]; exact and_tr a b ha hb)).mono ?_
  rintro e w2 ⟨rfl, hb2⟩
  have hb3 : Below w1.heap.size w1 w2 := ((Below.refl _ _).alloc (Nat.le_refl _) _).trans (hb2.mono (by simp))
  go_wp2
  go_ret
  exact ⟨by simp, Btrans hb1 hb3⟩
set_option maxHeartbeats 1000000 in
theorem or_any (a b : Int) (w : World) :
    Calls Try.prog 84 #[.int .i64 a, .int .i64 b] w fun e w' => e = .returned (.int .i64 (or3 (tr a) (tr b))) ∧ Below w.heap.size w w' := by
  have he : foldT (look 1 2 3 2 2 2 3 2 3) 1 [a, b] = or3 (tr a) (tr b) := (foldT_congr _ _ _ _ (.inl rfl) or_tr or_look).trans (or_tr1 a b)
  go_enter Try.func84, Try.ntmps84
  go_wp2_with fail
  refine (table_or _).mono ?_
  rintro e w1 ⟨rfl, hb1⟩
  go_wp2_with fail
  refine (fold_any _ _ _ _ _ _ _ _ _ 1 _ [a, b] _ (.inl rfl) (Row.of_block (heap_at _ _ _ rfl) rfl rfl (Nat.le_refl _) (by simp [maxLen])) (fun a b ha hb => by rw [or_look a b ha hb]; exact or_tr a b ha hb)).mono ?_
  rintro e w2 ⟨rfl, hb2⟩
  have hb3 : Below w1.heap.size w1 w2 := ((Below.refl _ _).alloc (Nat.le_refl _) _).trans (hb2.mono (by simp))
  go_wp2
  go_ret
  exact ⟨by simp, Btrans hb1 hb3⟩

theorem of_bool (b : Bool) (w : World) :
    Calls Try.prog 77 #[.bool b] w fun e w' => e = .returned (.int .i64 (if b then 2 else 1)) ∧ w = w' := by
  cases b
  all_goals
    go_enter Try.func77, Try.ntmps77
    go_wp2
    go_ret
    exact ⟨rfl, rfl⟩

set_option maxHeartbeats 1000000 in
theorem not_any (a : Int) (w : World) :
    Calls Try.prog 86 #[.int .i64 a] w fun e w' => e = .returned (.int .i64 (not3 (tr a))) ∧ Below w.heap.size w w' := by
  rcases tr_tr a with h | h | h
  all_goals
    go_enter Try.func86, Try.ntmps86
    go_wp2_with (first | (go_at_call 104; refine (truthOf_any _ _).mono ?_; rintro e w' ⟨rfl, rfl⟩) | (go_at_call 105; refine (place_any _ _ (by omega) (by omega)).mono ?_; rintro e w' ⟨rfl, rfl⟩))
    go_ret
    exact ⟨by simp [h, not3], by go_grown⟩
end Go.Proofs.Ytcdmojimdiiepaa
