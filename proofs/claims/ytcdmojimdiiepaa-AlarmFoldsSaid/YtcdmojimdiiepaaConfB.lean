/- Layer 5: what lies within its bounds. -/
import Derived.Test.YtcdmojimdiiepaaConfR
import Derived.Test.YtcdmojimdiiepaaMemC
namespace Go.Proofs.Ytcdmojimdiiepaa
open Go.ChangeShapes Go.WideShapes Go.ChangeAt Go.RowKit
set_option linter.unusedVariables false
set_option linter.unusedSimpArgs false

structure Bd where
  (n lo hi : Int)
def Bd.ok (b : Bd) : Bool := decide (b.lo ≤ b.n ∧ b.n ≤ b.hi)
def bd3 (l : List Bd) : List Value := l.flatMap fun b => [.int .i64 b.n, .int .i64 b.lo, .int .i64 b.hi]
theorem bd3_len (l : List Bd) : (bd3 l).length = l.length * 3 := by
  induction l with
  | nil => rfl
  | cons a l ih => simp [bd3] at ih ⊢; omega
theorem bd3_at (l : List Bd) (i : Nat) (b : Bd) (h : l[i]? = some b) : (bd3 l)[i * 3]? = some (.int .i64 b.n) ∧ (bd3 l)[i * 3 + 1]? = some (.int .i64 b.lo) ∧ (bd3 l)[i * 3 + 2]? = some (.int .i64 b.hi) := by
  induction l generalizing i with
  | nil => simp at h
  | cons a l ih =>
    cases i with
    | zero =>
      simp at h
      subst h
      exact ⟨rfl, rfl, rfl⟩
    | succ i =>
      have h' : l[i]? = some b := by simpa using h
      have := ih i h'
      have e1 : (i + 1) * 3 = i * 3 + 3 := by omega
      rw [e1]
      exact this

theorem add_one' (a : Addr) : a.add 1 = ⟨a.block, a.off + 1, none⟩ := by simp [Addr.add]
theorem add_two' (a : Addr) : a.add 2 = ⟨a.block, a.off + 2, none⟩ := by simp [Addr.add]

set_option maxRecDepth 100000 in
set_option maxHeartbeats 2000000 in
theorem within_any (v : Value) (l : List Bd) (w : World) (h : RowN 3 w v l.length (bd3 l)) :
    Calls Try.prog 53 #[v] w fun e w' => e = .returned (.bool (l.all Bd.ok)) ∧ Below w.heap.size w w' := by
  obtain ⟨hl, A, c, rfl, hc, hcm, hA⟩ := h
  unfold maxLen at hcm
  have hcell : ∀ (k : Nat) (b : Bd), l[k]? = some b → ∃ ad, A = some ad ∧ ad.block < w.heap.size ∧ w.cell? (ad.add (k * 3)) = some (.int .i64 b.n) ∧ w.cell? (ad.add (k * 3 + 1)) = some (.int .i64 b.lo) ∧ w.cell? (ad.add (k * 3 + 2)) = some (.int .i64 b.hi) := by
    intro k b hb
    have hk : k < l.length := (List.getElem?_eq_some_iff.1 hb).1
    obtain ⟨h1, h2, h3⟩ := bd3_at l k b hb
    rcases hA with ⟨_, h0⟩ | ⟨ad, e, hb, hx⟩
    · omega
    · exact ⟨ad, e, hb (by rw [hl]; omega), hx _ _ h1, hx _ _ h2, hx _ _ h3⟩
  have HC := Lib.hid hcell
  have HO := Lib.hid (show ∀ k (b : Bd), l[k]? = some b → (l.take (k + 1)).all Bd.ok = ((l.take k).all Bd.ok && b.ok) from fun k b hb => by rw [List.take_add_one, hb]; simp)
  clear hcell hA hl
  go_enter Try.func53, Try.ntmps53
  go_wp2_with fail
  go_loopw [7] (fun i wr => ∃ k : Nat, k ≤ l.length ∧ i = .int .i64 k ∧ (l.take k).all Bd.ok = true ∧ Below w.heap.size w wr) (fun i _ => l.length - (intOf i).toNat)
  case atStart => exact ⟨0, Nat.zero_le _, rfl, rfl, Below.refl _ _⟩
  case round =>
    obtain ⟨k, hk, rfl, hok, hb⟩ := hrel
    have HOK := Lib.hid hok
    have hbz := hb.size
    clear hok
    by_cases hlt : k < l.length
    · obtain ⟨b, hbb⟩ : ∃ b, l[k]? = some b := ⟨_, List.getElem?_eq_getElem hlt⟩
      obtain ⟨ad, rfl, had, h0, h1, h2⟩ := HC.out k b hbb
      have hq : ∀ i, wr.cell? (ad.add i) = w.cell? (ad.add i) := fun i => hb.cell (by rw [block_add]; exact had)
      have c0 : wr.cell? (ad.add (k * 3)) = some (.int .i64 b.n) := by rw [hq]; exact h0
      have c1 : wr.cell? ⟨(ad.add (k * 3)).block, (ad.add (k * 3)).off + 1, none⟩ = some (.int .i64 b.lo) := by rw [← add_one', Go.Deep.add_add, hq]; exact h1
      have c2 : wr.cell? ⟨(ad.add (k * 3)).block, (ad.add (k * 3)).off + 2, none⟩ = some (.int .i64 b.hi) := by rw [← add_two', Go.Deep.add_add, hq]; exact h2
      have HS := Lib.hid (HO.out k b hbb)
      have HBB := Lib.hid hbb
      clear h0 h1 h2 hbb hq
      obtain ⟨n, lo, hi⟩ := b
      simp only at c0 c1 c2
      by_cases hlo : n < lo
      · have g1 : decide (n < lo) = true := decide_eq_true hlo
        have hno : l.all Bd.ok = false := by
          rw [Bool.eq_false_iff]
          intro h
          have := List.all_eq_true.1 h _ (List.mem_of_getElem? HBB.out)
          have := of_decide_eq_true this
          simp only at this
          omega
        have HNO := Lib.hid hno
        clear hno hlo
        go_wp2
        go_ret
        exact ⟨by rw [HNO.out]; rfl, by go_grown⟩
      · have g1 : decide (n < lo) = false := decide_eq_false hlo
        by_cases hhi : n > hi
        · have g2 : decide (n > hi) = true := decide_eq_true hhi
          have hno : l.all Bd.ok = false := by
            rw [Bool.eq_false_iff]
            intro h
            have := List.all_eq_true.1 h _ (List.mem_of_getElem? HBB.out)
            have := of_decide_eq_true this
            simp only at this
            omega
          have HNO := Lib.hid hno
          clear hno hlo hhi
          go_wp2
          go_ret
          exact ⟨by rw [HNO.out]; rfl, by go_grown⟩
        · have g2 : decide (n > hi) = false := decide_eq_false hhi
          have hyes : Bd.ok ⟨n, lo, hi⟩ = true := decide_eq_true (by simp only; omega)
          have HY := Lib.hid hyes
          clear hyes hlo hhi
          go_wp2
          go_roundw
          case rel => exact ⟨k + 1, by omega, by go_num, by rw [HS.out, HOK.out, HY.out]; rfl, by go_grown⟩
          case measure => simp [intOf]; omega
    · have he : k = l.length := by omega
      subst he
      have hyes : l.all Bd.ok = true := by have := HOK.out; rwa [List.take_length] at this
      have HY := Lib.hid hyes
      clear hyes
      go_wp2
      go_ret
      exact ⟨by rw [HY.out]; rfl, hb⟩
end Go.Proofs.Ytcdmojimdiiepaa
