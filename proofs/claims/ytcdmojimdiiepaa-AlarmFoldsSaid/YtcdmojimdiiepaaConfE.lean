/- Layer 5: all channels, one by one. -/
import Derived.Test.YtcdmojimdiiepaaConfD
import Derived.RangeFuncNested
import Derived.RangeFuncBound
import Derived.RangeFuncCalls
import Derived.RangeFuncLeaves
import Derived.Shelf.Abstract
import Derived.Shelf.RegionOpen
import Derived.OwnWalkIn
import Derived.TacticsInMore
import Derived.LoopNIn
import Derived.LoopIn
namespace Go.Proofs.Ytcdmojimdiiepaa
open Go.ChangeShapes Go.WideShapes Go.ChangeAt Go.RowKit Go.Shelf
set_option linter.unusedVariables false
set_option linter.unusedSimpArgs false
attribute [local go_sem] Oper.semAt_some

def lenAt (rows : List (List Int)) (d : Nat) : Nat := (rows[d]?.getD []).length
/-- What has come ahead of channel j of device k. -/
def came (rows : List (List Int)) (k j : Nat) : List (Nat × Nat) := ((List.range k).flatMap fun d => (List.range (lenAt rows d)).map fun h => (d, h)) ++ (List.range j).map fun h => (k, h)
def chansOf (rows : List (List Int)) : List (Nat × Nat) := came rows rows.length 0
theorem came_zero (rows : List (List Int)) : came rows 0 0 = [] := rfl
theorem came_step (rows : List (List Int)) (k j : Nat) : came rows k (j + 1) = came rows k j ++ [(k, j)] := by
  simp [came, List.range_succ]
theorem came_next (rows : List (List Int)) (k : Nat) : came rows (k + 1) 0 = came rows k (lenAt rows k) := by
  simp [came, List.range_succ]
theorem came_pre (rows : List (List Int)) (k j : Nat) (hj : j ≤ lenAt rows k) : ∀ m, k < m → came rows k j <+: came rows m 0 := by
  have h1 : came rows k j <+: came rows (k + 1) 0 := by
    rw [came_next]
    obtain ⟨q, hq⟩ : ∃ q, lenAt rows k = j + q := ⟨lenAt rows k - j, by omega⟩
    rw [hq]
    clear hq
    induction q with
    | zero => exact List.prefix_refl _
    | succ q ih => rw [← Nat.add_assoc, came_step]; exact ih.trans (List.prefix_append _ _)
  intro m
  induction m with
  | zero => intro h; omega
  | succ m ih =>
    intro h
    by_cases hm : m = k
    · subst hm; exact h1
    · refine (ih (by omega)).trans ?_
      rw [came_next]
      have : ∀ q, came rows m 0 <+: came rows m q := by
        intro q
        induction q with
        | zero => exact List.prefix_refl _
        | succ q ih => rw [came_step]; exact ih.trans (List.prefix_append _ _)
      exact this _
theorem came_in (rows : List (List Int)) (k j : Nat) (hk : k < rows.length) (hj : j ≤ lenAt rows k) : came rows k j <+: chansOf rows := came_pre rows k j hj _ hk
theorem came_lt (rows : List (List Int)) (k j : Nat) (hk : k < rows.length) (hj : j < lenAt rows k) : (came rows k j).length < (chansOf rows).length := by
  have h := (came_in rows k (j + 1) hk hj).length_le
  rw [came_step, List.length_append] at h
  simp at h
  omega

set_option maxRecDepth 100000 in
set_option maxHeartbeats 4000000 in
theorem chan_in (n : Nat) (hn : 1 ≤ n) (l Bc : Nat) (rows : List (List Int)) (w0 : World) (sv : Value) (hs : Rows2 w0 sv rows) (J Jx : List (Nat × Nat) → World → Prop)
    (hY : ∀ pre (x : Nat × Nat) W, J pre W → pre.length < (chansOf rows).length → YieldAt Fence.wide (n - 1) Try.prog l #[.int .i64 (x.1 : Int), .int .i64 (x.2 : Int)] W fun e W' =>
      (e = .returned (.bool true) ∧ J (pre ++ [x]) W' ∧ Below w0.heap.size W W') ∨ (e = .returned (.bool false) ∧ Jx (pre ++ [x]) W'))
    (W : World) (hW : Below w0.heap.size w0 W) (hB : W.cell? ⟨Bc, 9, none⟩ = some sv) (h0 : J [] W) :
    CallsIn Fence.wide n Try.prog 74 #[.func (.yield l) #[] #[], .pointer (some ⟨Bc, 0, none⟩)] W fun e W' => (∃ v, e = .returned v) ∧
      ((∃ ys, ys = chansOf rows ∧ J ys W') ∨ (∃ pre, pre <+: chansOf rows ∧ Jx pre W')) := by
  obtain ⟨A, c, rfl, hc, hcm, hcell⟩ := hs.src
  have HC := Lib.hid hcell
  clear hs hcell
  refine callsIn_of_wp Try.func74 rfl trivial ?_ rfl
  simp only [Try.ntmps74, List.size_toArray, List.length_cons, List.length_nil, Nat.reduceAdd, Nat.reduceSub, Array.replicate_succ, Array.replicate_zero, List.push_toArray, List.append_toArray, List.nil_append, List.cons_append]
  gi_wp2
  gi_loopw [9] (fun i wr => ∃ k : Nat, k ≤ rows.length ∧ i = .int .i64 k ∧ J (came rows k 0) wr ∧ Below w0.heap.size w0 wr) (fun i _ => rows.length - (intOf i).toNat)
  case atStart => exact ⟨0, Nat.zero_le _, rfl, h0, hW⟩
  case round =>
    obtain ⟨k, hk, rfl, hJs, hb⟩ := hrel
    by_cases hlt : k < rows.length
    · obtain ⟨r, hr⟩ : ∃ r, rows[k]? = some r := ⟨_, List.getElem?_eq_getElem hlt⟩
      obtain ⟨ad, B, d, rfl, had, hc0, hrl, _⟩ := HC.out k r hr
      have c0 : wr.cell? (ad.add k) = some (.slice B r.length d) := (hb.cell (by rw [block_add]; exact had)).trans hc0
      have HL := Lib.hid (show lenAt rows k = r.length by unfold lenAt; rw [hr]; rfl)
      clear hr hc0
      gi_wp2
      gi_loopw [16] (fun i wr => ∃ j : Nat, j ≤ r.length ∧ i = .int .i64 j ∧ J (came rows k j) wr ∧ Below w0.heap.size w0 wr) (fun i _ => r.length - (intOf i).toNat)
      case atStart => exact ⟨0, Nat.zero_le _, rfl, hJs, hb⟩
      case round =>
        obtain ⟨j, hj, rfl, hJj, hbj⟩ := hrel
        by_cases hjl : j < r.length
        · obtain ⟨fn, tmps, assign, body, hy, hR⟩ := hY _ (k, j) wr hJj (came_lt rows k j hlt (by rw [HL.out]; exact hjl))
          dsimp only at hy
          gi_wp2
          refine hR.mono ?_
          rintro e W3 (⟨rfl, hJ3, hk3⟩ | ⟨rfl, hJx3⟩)
          · gi_wp2
            go_roundw
            case rel => exact ⟨j + 1, by omega, by simp, by rw [came_step]; exact hJ3, hbj.trans hk3⟩
            case measure => simp [intOf]; omega
          · gi_wp2
            refine bodyPost_ret (results_none rfl _ _ _) rfl ?_
            exact ⟨⟨_, rfl⟩, .inr ⟨_, by rw [← came_step]; exact came_in rows k (j + 1) hlt (by rw [HL.out]; exact hjl), hJx3⟩⟩
        · have he : j = r.length := by omega
          subst he
          gi_wp2
          go_roundw
          case rel => exact ⟨k + 1, by omega, by simp, by rw [came_next, HL.out]; exact hJj, hbj⟩
          case measure => simp [intOf]; omega
    · have he : k = rows.length := by omega
      subst he
      gi_wp2
      go_end0
      exact ⟨⟨_, rfl⟩, .inl ⟨_, rfl, hJs⟩⟩
end Go.Proofs.Ytcdmojimdiiepaa
