/- Rows of alarms: laid, filled, held against one another; rows read by places. -/
import Derived.Test.YtaelhgkodcgmnaaDoorMemC
import Derived.Test.YtaelhgkodcgmnaaDoorReg
import Derived.Deep.QuietTactic
import Derived.BigQuiet
import Derived.StillTailTactics
import Derived.Laws.StructEq
import Derived.Laws.EntriesVeiled
namespace Go.Proofs.YtaelhgkodcgmnaaDoor
open Go.ChangeShapes Go.WideShapes Go.ChangeAt Go.RowKit
set_option linter.unusedVariables false
set_option linter.unusedSimpArgs false

/-- what stands in the row that is laid, behind so many rounds -/
def fillTo (c : List (Bool × Bool)) (n : Nat) : Array Value := (al2 c ++ List.replicate (2 * (n - c.length)) (Value.bool false)).toArray
theorem fill_step (c : List (Bool × Bool)) (n : Nat) (a b : Bool) (h : c.length < n) :
    ((fillTo c n).setIfInBounds (c.length * 2) (.bool a)).setIfInBounds (c.length * 2 + 1) (.bool b) = fillTo (c ++ [(a, b)]) n := by
  unfold fillTo
  have e : 2 * (n - c.length) = (2 * (n - (c ++ [(a, b)]).length)) + 1 + 1 := by simp; omega
  rw [e, List.replicate_succ, List.replicate_succ, al2_app]
  simp only [List.setIfInBounds_toArray, List.append_assoc]
  congr 1
  rw [List.set_append_right _ _ (by rw [al2_len]; exact Nat.le_refl _)]
  rw [List.set_append_right _ _ (by rw [al2_len]; omega)]
  rw [al2_len, show c.length * 2 - c.length * 2 = 0 by omega, show c.length * 2 + 1 - c.length * 2 = 1 by omega]
  rfl

theorem info39 : (Tryd.prog.info? 51).map (fun i => (i.zero, i.size, i.bytes)) = some (some (.agg #[.bool false, .bool false]), 2, 2) := by kernel_rfl
theorem fill_zero (n : Nat) : madeCells (Value.agg #[.bool false, .bool false]).cells (n * 2) = fillTo [] n := by
  rw [madeCells_rep _ (.bool false) _ (by simp [Value.cells]; intro i hi; match i, hi with | 0, _ => rfl | 1, _ => rfl) (by simp [Value.cells])]
  unfold fillTo
  simp [al2, Nat.mul_comm]

theorem fill_at (c : List (Bool × Bool)) (n : Nat) (h : c.length < n) : (fillTo c n)[c.length * 2]? = some (.bool false) ∧ (fillTo c n)[c.length * 2 + 1]? = some (.bool false) := by
  unfold fillTo
  simp only [List.getElem?_toArray]
  rw [List.getElem?_append_right (by rw [al2_len]; exact Nat.le_refl _), List.getElem?_append_right (by rw [al2_len]; omega), al2_len]
  constructor <;> (rw [List.getElem?_replicate, if_pos (by omega)])

/-- an ack, that is there or not -/
theorem getD_ge (m : List Bool) (i : Nat) (h : m.length ≤ i) : m.getD i false = false := by simp [List.getD, List.getElem?_eq_none h]
theorem getD_lt {α : Type} (m : List α) (i : Nat) (d x : α) (h : m[i]? = some x) : m.getD i d = x := by simp [List.getD, h]

theorem elA : Elem Tryd.prog 23 51 2 2 := Elem.mk' Tryd.underlying23 info39 rfl (by decide)

theorem neqA (w : World) (a b c d : Bool) : (binOp .neq 51 (.agg #[.bool a, .bool b]) (.agg #[.bool c, .bool d])).run Tryd.prog w = .ok (.bool (decide ((a, b) ≠ (c, d)))) w := by
  cases a <;> cases b <;> cases c <;> cases d <;> kernel_rfl
theorem guardA : Tryd.prog.eqGuardType Tryd.prog.depth 51 = false := by kernel_rfl

set_option maxRecDepth 100000 in
set_option maxHeartbeats 4000000 in
theorem same_any (va vb : Value) (n m : Nat) (a b : List (Bool × Bool)) (w : World) (ha : RowN 2 w va n (al2 a)) (hb : RowN 2 w vb m (al2 b)) :
    Calls Tryd.prog 34 #[va, vb] w fun e w' => e = .returned (.bool (decide (a = b))) ∧ Below w.heap.size w w' := by
  have hna : a.length = n := by have := ha.1; rw [al2_len] at this; omega
  have hnb : b.length = m := by have := hb.1; rw [al2_len] at this; omega
  subst hna hnb
  obtain ⟨_, A, c, rfl, hc, hcm, hA⟩ := ha
  obtain ⟨_, B, d, rfl, hd, hdm, hB⟩ := hb
  unfold maxLen at hcm hdm
  by_cases hab : a.length = b.length
  · have HA : Hid (∀ k x, a[k]? = some x → ∃ ad, A = some ad ∧ w.cell? (ad.add (k * 2)) = some (.bool x.1) ∧ w.cell? (ad.add (k * 2 + 1)) = some (.bool x.2)) := Lib.hid (by
      intro k x hx
      have hk : k < a.length := (List.getElem?_eq_some_iff.1 hx).1
      rcases hA with ⟨_, h0⟩ | ⟨ad, h1, h2, h3⟩
      · omega
      · exact ⟨ad, h1, h3 _ _ (al2_at a k x hx).1, h3 _ _ (al2_at a k x hx).2⟩)
    have HB : Hid (∀ k x, b[k]? = some x → ∃ ad, B = some ad ∧ w.cell? (ad.add (k * 2)) = some (.bool x.1) ∧ w.cell? (ad.add (k * 2 + 1)) = some (.bool x.2)) := Lib.hid (by
      intro k x hx
      have hk : k < b.length := (List.getElem?_eq_some_iff.1 hx).1
      rcases hB with ⟨_, h0⟩ | ⟨ad, h1, h2, h3⟩
      · omega
      · exact ⟨ad, h1, h3 _ _ (al2_at b k x hx).1, h3 _ _ (al2_at b k x hx).2⟩)
    clear hA hB
    have hbq : ((a.length : Int) != (b.length : Int)) = false := by simp; omega
    have HAB := Lib.hid hab
    have hle : b.length ≤ a.length := by omega
    have hle2 : a.length ≤ b.length := by omega
    clear hab
    go_enter Tryd.func34, Tryd.ntmps34
    go_wp2
    go_loopw [5] (fun i wr => ∃ k : Nat, k ≤ a.length ∧ i = .int .i64 k ∧ a.take k = b.take k ∧ Below w.heap.size w wr ∧ (∀ p, wr.cell? p = w.cell? p)) (fun i _ => a.length - (intOf i).toNat)
    case atStart => exact ⟨0, Nat.zero_le _, rfl, rfl, Below.refl _ _, fun _ => rfl⟩
    case round =>
      obtain ⟨k, hk, rfl, heq, hbw, hce⟩ := hrel
      by_cases hlt : k < a.length
      · obtain ⟨x, hx⟩ : ∃ x, a[k]? = some x := ⟨_, List.getElem?_eq_getElem hlt⟩
        obtain ⟨y, hy⟩ : ∃ y, b[k]? = some y := ⟨_, List.getElem?_eq_getElem (by omega)⟩
        obtain ⟨ad, rfl, hx1, hx2⟩ := HA.out k x hx
        obtain ⟨bd, rfl, hy1, hy2⟩ := HB.out k y hy
        rw [← hce] at hx1 hx2 hy1 hy2
        have hgd := guardA
        have HX := Lib.hid hx
        have HY := Lib.hid hy
        have HE := Lib.hid heq
        have HC := Lib.hid hce
        have hx3 : wr.cell? ⟨(ad.add (k * 2)).block, (ad.add (k * 2)).off + 1, none⟩ = some (.bool x.2) := by have := hx2; rw [← Go.Deep.add_add] at this; exact this
        have hy3 : wr.cell? ⟨(bd.add (k * 2)).block, (bd.add (k * 2)).off + 1, none⟩ = some (.bool y.2) := by have := hy2; rw [← Go.Deep.add_add] at this; exact this
        clear hx2 hy2
        clear hx hy heq hce
        have hkb : (k : Int) < (b.length : Int) := by omega
        have HT := Lib.hid (show a.take (k + 1) = a.take k ++ [x] by rw [List.take_add_one, HX.out]; rfl)
        have HU := Lib.hid (show b.take (k + 1) = b.take k ++ [y] by rw [List.take_add_one, HY.out]; rfl)
        by_cases hxy : x = y
        · have hnq : ∀ w : World, (binOp .neq 51 (.agg #[.bool x.1, .bool x.2]) (.agg #[.bool y.1, .bool y.2])).run Tryd.prog w = .ok (.bool false) w := fun w => by
            rw [neqA, hxy]; simp
          have HXY := Lib.hid hxy
          clear hxy
          go_wp2_with fail
          go_quiet (fail)
          clear hx1 hy1 hx3 hy3 hnq hgd
          go_wp2
          go_roundw
          case rel => exact ⟨k + 1, by omega, by go_num, by rw [HT.out, HU.out, HE.out, HXY.out], Bdrew hbw _, fun p => HC.out p⟩
          case measure => simp [intOf]; omega
        · have hnq : ∀ w : World, (binOp .neq 51 (.agg #[.bool x.1, .bool x.2]) (.agg #[.bool y.1, .bool y.2])).run Tryd.prog w = .ok (.bool true) w := fun w => by
            rw [neqA, decide_eq_true (show (x.1, x.2) ≠ (y.1, y.2) from hxy)]
          have HXY := Lib.hid hxy
          clear hxy
          go_wp2_with fail
          go_quiet (fail)
          clear hx1 hy1 hx3 hy3 hnq hgd
          go_wp2
          go_ret
          refine ⟨ret_bool (Eq.symm (decide_eq_false fun h => HXY.out ?_)), Bdrew hbw _⟩
          have e := HX.out
          rw [h, HY.out] at e
          exact (Option.some.inj e).symm
      · have : k = a.length := by omega
        subst this
        have HE := Lib.hid heq
        clear heq hce
        go_wp2
        go_ret
        refine ⟨ret_bool (Eq.symm (decide_eq_true ?_)), hbw⟩
        have e := HE.out
        rw [List.take_length, List.take_of_length_le (by omega)] at e
        exact e
  · have hbq : ((a.length : Int) != (b.length : Int)) = true := by simp; omega
    have hne : a ≠ b := fun h => hab (by rw [h])
    have HN := Lib.hid hne
    clear hA hB hab hne
    go_enter Tryd.func34, Tryd.ntmps34
    go_wp2
    go_ret
    exact ⟨ret_bool (Eq.symm (decide_eq_false HN.out)), Below.refl _ _⟩

theorem Row.shape2 {w : World} {v : Value} {xs : List Value} (h : Row w v xs) : ∃ A c, v = .slice A xs.length c ∧ xs.length ≤ c ∧ c ≤ 9223372036854775807 := by
  obtain ⟨A, c, h1, h2, h3, _⟩ := h
  exact ⟨A, c, h1, h2, h3⟩
theorem RowN.shape2 {k n : Nat} {w : World} {v : Value} {xs : List Value} (h : RowN k w v n xs) : ∃ A c, v = .slice A n c ∧ n ≤ c ∧ c ≤ 9223372036854775807 := by
  obtain ⟨_, A, c, h1, h2, h3, _⟩ := h
  exact ⟨A, c, h1, h2, h3⟩
theorem RowN.at2 {n : Nat} {w : World} {A : Option Addr} {c : Nat} {l : List (Bool × Bool)} (h : RowN 2 w (.slice A n c) n (al2 l)) (k : Nat) (x : Bool × Bool) (hx : l[k]? = some x) :
    ∃ ad, A = some ad ∧ w.cell? (ad.add (k * 2)) = some (.bool x.1) ∧ w.cell? ⟨(ad.add (k * 2)).block, (ad.add (k * 2)).off + 1, none⟩ = some (.bool x.2) := by
  obtain ⟨h0, A', c', h1, h2, h3, h4⟩ := h
  injection h1 with e1 e2 e3
  subst e1 e3
  have hk : k < l.length := (List.getElem?_eq_some_iff.1 hx).1
  have hl := al2_len l
  obtain ⟨y1, y2⟩ := al2_at l k x hx
  rcases h4 with ⟨_, h5⟩ | ⟨ad, h5, _, h6⟩
  · omega
  · refine ⟨ad, h5, h6 _ _ y1, ?_⟩
    have := h6 _ _ y2
    rw [← Go.Deep.add_add] at this
    exact this
theorem Row.at1 {w : World} {A : Option Addr} {n c : Nat} {xs : List Value} (h : Row w (.slice A n c) xs) (k : Nat) (x : Value) (hx : xs[k]? = some x) : ∃ ad, A = some ad ∧ w.cell? (ad.add k) = some x := by
  obtain ⟨A', c', h1, h2, h3, h4⟩ := h
  injection h1 with e1 e2 e3
  subst e1 e3
  have hk : k < xs.length := (List.getElem?_eq_some_iff.1 hx).1
  rcases h4 with ⟨_, h5⟩ | ⟨ad, h5, _, h6⟩
  · omega
  · exact ⟨ad, h5, h6 _ _ hx⟩

end Go.Proofs.YtaelhgkodcgmnaaDoor
