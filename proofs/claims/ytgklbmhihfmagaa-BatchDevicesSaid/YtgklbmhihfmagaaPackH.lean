/- Layer 4: the text's equalities. -/
import Derived.Test.YtgklbmhihfmagaaPackG
namespace Go.Proofs.Ytgklbmhihfmagaa
open Go.ChangeShapes Go.WideShapes Go.ChangeAt Go.RowKit
set_option linter.unusedVariables false
set_option linter.unusedSimpArgs false

theorem Ints.shape {w : World} {v : Value} {xs : List Int} (h : Ints .i64 w v xs) : ∃ A c, v = .slice A xs.length c ∧ xs.length ≤ c ∧ c ≤ maxLen ∧
    ∀ (k : Nat) (x : Int), xs[k]? = some x → ∃ ad, A = some ad ∧ ad.block < w.heap.size ∧ w.cell? (ad.add k) = some (.int .i64 x) := by
  obtain ⟨⟨A, c, h1, h2, h3, hA⟩, _⟩ := h
  rw [List.length_map] at h1 h2 hA
  refine ⟨A, c, h1, h2, h3, fun k x hx => ?_⟩
  have hk : k < xs.length := (List.getElem?_eq_some_iff.1 hx).1
  rcases hA with ⟨_, h0⟩ | ⟨ad, h1, h2, h3⟩
  · omega
  · exact ⟨ad, h1, h2 (by omega), h3 k _ (by rw [List.getElem?_map, hx]; rfl)⟩

theorem take_eq_step {α : Type} {xs ys : List α} {k : Nat} {x : α} (h : xs.take k = ys.take k) (hx : xs[k]? = some x) (hy : ys[k]? = some x) : xs.take (k + 1) = ys.take (k + 1) := by
  rw [List.take_add_one, List.take_add_one, hx, hy, h]

set_option maxRecDepth 100000 in
set_option maxHeartbeats 4000000 in
theorem sameints_any (va vb : Value) (xs ys : List Int) (w : World) (ha : Ints .i64 w va xs) (hb : Ints .i64 w vb ys) :
    Calls Try.prog 28 #[va, vb] w fun e w' => e = .returned (.bool (decide (xs = ys))) ∧ Below w.heap.size w w' := by
  obtain ⟨A, c, rfl, hc, hcm, hA⟩ := ha.shape
  obtain ⟨B, d, rfl, hd, hdm, hB⟩ := hb.shape
  have HA := Lib.hid hA
  have HB := Lib.hid hB
  have hxl : ((xs.length : Nat) : Int) ≤ 9223372036854775807 := by unfold maxLen at hcm; omega
  have hyl : ((ys.length : Nat) : Int) ≤ 9223372036854775807 := by unfold maxLen at hdm; omega
  clear ha hb hA hB hcm hdm
  by_cases hl : xs.length = ys.length
  · go_enter Try.func28, Try.ntmps28
    have g : ((xs.length : Int) != (ys.length : Int)) = false := by simp; omega
    have HL := Lib.hid hl
    have hle : ys.length ≤ xs.length := by omega
    have hle2 : xs.length ≤ ys.length := by omega
    clear hl
    go_wp2_with fail
    go_loopw [5] (fun i wr => ∃ k : Nat, k ≤ xs.length ∧ i = .int .i64 k ∧ xs.take k = ys.take k ∧ Below w.heap.size w wr) (fun i _ => xs.length - (intOf i).toNat)
    case atStart => exact ⟨0, by omega, rfl, rfl, Below.refl _ _⟩
    case round =>
      obtain ⟨k, hk, rfl, ht, hb⟩ := hrel
      have HT := Lib.hid ht
      clear ht
      by_cases hlt : k < xs.length
      · obtain ⟨x, hx⟩ : ∃ x, xs[k]? = some x := ⟨_, List.getElem?_eq_getElem hlt⟩
        obtain ⟨y, hy⟩ : ∃ y, ys[k]? = some y := ⟨_, List.getElem?_eq_getElem (by omega)⟩
        obtain ⟨ad, rfl, had, hcx⟩ := HA.out k x hx
        obtain ⟨bd, rfl, hbd, hcy⟩ := HB.out k y hy
        have hcx' := (hb.cell (by rw [block_add]; exact had)).trans hcx
        have hcy' := (hb.cell (by rw [block_add]; exact hbd)).trans hcy
        have hkb : (k : Int) < (ys.length : Int) := by omega
        have HX := Lib.hid hx
        have HY := Lib.hid hy
        clear hx hy hcx hcy
        by_cases hxy : x = y
        · subst hxy
          go_wp2_with fail
          go_still_tail 8, (by kernel_rfl)
          go_wp2_with fail
          go_roundw
          case rel => exact ⟨k + 1, by omega, by go_num, take_eq_step HT.out HX.out HY.out, hb.drew⟩
          case measure => simp [intOf]; omega
        · have hne : decide (xs = ys) = false := decide_eq_false fun h => hxy (by
            have h1 := HX.out
            have h2 := HY.out
            rw [h, h2] at h1
            exact (Option.some.inj h1).symm)
          have gxy : decide (x = y) = false := decide_eq_false hxy
          go_wp2_with fail
          go_still_tail 8, (by kernel_rfl)
          go_wp2
          go_ret
          exact ⟨by first | rfl | (rw [hne]; rfl), hb.drew⟩
      · have he : k = xs.length := by omega
        subst he
        have hyes : decide (xs = ys) = true := decide_eq_true (by
          have h := HT.out
          rw [List.take_length, HL.out, List.take_length] at h
          exact h)
        go_wp2
        go_ret
        exact ⟨by first | rfl | (rw [hyes]; rfl), hb⟩
  · have hne : decide (xs = ys) = false := decide_eq_false fun h => hl (by rw [h])
    have g : decide (((xs.length : Nat) : Int) = ((ys.length : Nat) : Int)) = false := decide_eq_false (by omega)
    go_enter Try.func28, Try.ntmps28
    go_wp2
    go_ret
    exact ⟨by first | rfl | (rw [hne]; rfl), Below.refl _ _⟩

theorem pk_ne {p q : Pk} (h : ¬ (p.dev = q.dev ∧ p.chan = q.chan ∧ p.boot = q.boot ∧ p.seq = q.seq ∧ p.stamp = q.stamp)) : decide (p = q) = false :=
  decide_eq_false fun e => h (by rw [e]; exact ⟨rfl, rfl, rfl, rfl, rfl⟩)
theorem pk_eq {p q : Pk} (h : p.dev = q.dev ∧ p.chan = q.chan ∧ p.boot = q.boot ∧ p.seq = q.seq ∧ p.stamp = q.stamp) : decide (p = q) = decide (p.vals = q.vals) := by
  obtain ⟨h1, h2, h3, h4, h5⟩ := h
  cases p; cases q
  simp only at h1 h2 h3 h4 h5
  subst h1 h2 h3 h4 h5
  simp

set_option maxRecDepth 100000 in
set_option maxHeartbeats 4000000 in
theorem same_pk (va vb : Value) (p q : Pk) (w : World) (ha : PkV w va p) (hb : PkV w vb q) :
    Calls Try.prog 16 #[va, vb] w fun e w' => e = .returned (.bool (decide (p = q))) ∧ Below w.heap.size w w' := by
  obtain ⟨u, rfl, hp⟩ := ha
  obtain ⟨v, rfl, hq⟩ := hb
  have HP := Lib.hid hp
  have HQ := Lib.hid hq
  clear hp hq
  by_cases h0 : p.dev = q.dev
  rotate_left
  · have hne := pk_ne (p := p) (q := q) (fun h => h0 h.1)
    have e0 : (p.dev == q.dev) = false := beq_false_of_ne h0
    clear h0
    go_enter Try.func16, Try.ntmps16
    go_wp2
    go_ret
    exact ⟨by first | rfl | (rw [hne]; rfl), by go_grown⟩
  have e0 : (p.dev == q.dev) = true := beq_iff_eq.2 h0
  have H0 := Lib.hid h0
  clear h0
  by_cases h1 : p.chan = q.chan
  rotate_left
  · have hne := pk_ne (p := p) (q := q) (fun h => h1 h.2.1)
    have e1 : (p.chan == q.chan) = false := beq_false_of_ne h1
    clear h1
    go_enter Try.func16, Try.ntmps16
    go_wp2
    go_ret
    exact ⟨by first | rfl | (rw [hne]; rfl), by go_grown⟩
  have e1 : (p.chan == q.chan) = true := beq_iff_eq.2 h1
  have H1 := Lib.hid h1
  clear h1
  by_cases h2 : p.boot = q.boot
  rotate_left
  · have hne := pk_ne (p := p) (q := q) (fun h => h2 h.2.2.1)
    have e2 : (p.boot == q.boot) = false := beq_false_of_ne h2
    clear h2
    go_enter Try.func16, Try.ntmps16
    go_wp2
    go_ret
    exact ⟨by first | rfl | (rw [hne]; rfl), by go_grown⟩
  have e2 : (p.boot == q.boot) = true := beq_iff_eq.2 h2
  have H2 := Lib.hid h2
  clear h2
  by_cases h3 : p.seq = q.seq
  rotate_left
  · have hne := pk_ne (p := p) (q := q) (fun h => h3 h.2.2.2.1)
    have e3 : (p.seq == q.seq) = false := beq_false_of_ne h3
    clear h3
    go_enter Try.func16, Try.ntmps16
    go_wp2
    go_ret
    exact ⟨by first | rfl | (rw [hne]; rfl), by go_grown⟩
  have e3 : (p.seq == q.seq) = true := beq_iff_eq.2 h3
  have H3 := Lib.hid h3
  clear h3
  by_cases h4 : p.stamp = q.stamp
  rotate_left
  · have hne := pk_ne (p := p) (q := q) (fun h => h4 h.2.2.2.2)
    have e4 : (p.stamp == q.stamp) = false := beq_false_of_ne h4
    clear h4
    go_enter Try.func16, Try.ntmps16
    go_wp2
    go_ret
    exact ⟨by first | rfl | (rw [hne]; rfl), by go_grown⟩
  have e4 : (p.stamp == q.stamp) = true := beq_iff_eq.2 h4
  have H4 := Lib.hid h4
  clear h4
  have heq := Lib.hid (pk_eq (p := p) (q := q) ⟨H0.out, H1.out, H2.out, H3.out, H4.out⟩)
  go_enter Try.func16, Try.ntmps16
  go_wp2_with fail
  refine (sameints_any _ _ _ _ _ (HP.out.below (by go_grown)) (HQ.out.below (by go_grown))).mono ?_
  rintro e w1 ⟨rfl, hk⟩
  have hb1 : Below w.heap.size w w1 := (show Below w.heap.size w _ by go_grown).trans (hk.mono (by simp; omega))
  rw [← heq.out]
  go_wp2
  go_ret
  exact ⟨by simp, hb1⟩

theorem Row.of_lit {w : World} {cs : Array Value} {t : TypeId} {fr : Nat × Nat} {g n : Nat} (hg : w.heap[g]? = some (.cells cs t fr)) (hn : cs.size = n) (hm : n ≤ maxLen) : Row w (.slice (some ⟨g, 0, none⟩) n n) cs.toList := by
  subst hn
  refine ⟨some ⟨g, 0, none⟩, cs.size, by simp, by simp, hm, .inr ⟨_, rfl, fun _ => ?_, fun i x hi => ?_⟩⟩
  · show g < w.heap.size
    rcases Nat.lt_or_ge g w.heap.size with h1 | h1
    · exact h1
    · rw [Array.getElem?_eq_none h1] at hg; cases hg
  · have he : (Addr.add ⟨g, 0, none⟩ i) = ⟨g, i, none⟩ := by
      unfold Addr.add
      split
      · simp [*]
      · simp
    rw [he, cell_of_row w g i cs t fr hg]
    simpa using hi

end Go.Proofs.Ytgklbmhihfmagaa
