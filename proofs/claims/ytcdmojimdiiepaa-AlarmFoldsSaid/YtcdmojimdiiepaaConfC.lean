/- Layer 5: whether a setting is right, by the program. -/
import Derived.Test.YtcdmojimdiiepaaConfB
namespace Go.Proofs.Ytcdmojimdiiepaa
open Go.ChangeShapes Go.WideShapes Go.ChangeAt Go.RowKit
set_option linter.unusedVariables false
set_option linter.unusedSimpArgs false

theorem one_bd {w : World} {g : Nat} {n lo hi : Int} {t : TypeId} (h : Blk w g t #[.int .i64 n, .int .i64 lo, .int .i64 hi]) : RowN 3 w (.slice (some ⟨g, 0, none⟩) 1 1) 1 (bd3 [⟨n, lo, hi⟩]) :=
  RowN.of_blk h rfl rfl (Nat.le_refl _) (by decide)
def rowB (r : List Int) : Bool := decide (1 ≤ r.length ∧ r.length ≤ 4) && r.all fun x => decide (1 ≤ x ∧ x ≤ 1000000)
theorem Rows2.src {w : World} {v : Value} {rows : List (List Int)} (h : Rows2 w v rows) : ∃ A c, v = .slice A rows.length c ∧ rows.length ≤ c ∧ c ≤ 9223372036854775807 ∧
    ∀ (k : Nat) r, rows[k]? = some r → ∃ ad B d, A = some ad ∧ ad.block < w.heap.size ∧ w.cell? (ad.add k) = some (.slice B r.length d) ∧ r.length ≤ 9223372036854775807 ∧
      ∀ (j : Nat) x, r[j]? = some x → ∃ bd, B = some bd ∧ bd.block < w.heap.size ∧ w.cell? (bd.add j) = some (.int .i64 x) := by
  obtain ⟨vs, ⟨A, c, h1, h2, h3, hA⟩, hl, hr⟩ := h
  rw [hl] at h1 h2
  unfold maxLen at h3
  refine ⟨A, c, h1, h2, h3, fun k r hk => ?_⟩
  obtain ⟨u, hu, B, d, e1, e2, e3, hB⟩ := hr k r hk
  have hkl : k < rows.length := (List.getElem?_eq_some_iff.1 hk).1
  rcases hA with ⟨_, h0⟩ | ⟨ad, e, hb, hc⟩
  · omega
  · rw [List.length_map] at e1 e2 hB
    refine ⟨ad, B, d, e, hb (by omega), by rw [hc k u hu, e1], by unfold maxLen at e3; omega, fun j x hx => ?_⟩
    have hj : j < r.length := (List.getElem?_eq_some_iff.1 hx).1
    rcases hB with ⟨_, h0⟩ | ⟨bd, e, hb2, hc2⟩
    · omega
    · exact ⟨bd, e, hb2 (by omega), hc2 j _ (by rw [List.getElem?_map, hx]; rfl)⟩

set_option maxRecDepth 100000 in
set_option maxHeartbeats 4000000 in
theorem stepsR_any (v : Value) (rows : List (List Int)) (w : World) (h : Rows2 w v rows) :
    Calls Try.prog 54 #[v] w fun e w' => e = .returned (.bool (rows.all rowB)) ∧ Below w.heap.size w w' := by
  obtain ⟨A, c, rfl, hc, hcm, hcell⟩ := h.src
  have HC := Lib.hid hcell
  have HO := Lib.hid (show ∀ k (r : List Int), rows[k]? = some r → (rows.take (k + 1)).all rowB = ((rows.take k).all rowB && rowB r) from fun k b hb => by rw [List.take_add_one, hb]; simp)
  have HNO := Lib.hid (show ∀ k (r : List Int), rows[k]? = some r → rowB r = false → rows.all rowB = false from fun k r hr hf => by
    rw [Bool.eq_false_iff]
    intro h
    rw [List.all_eq_true.1 h _ (List.mem_of_getElem? hr)] at hf
    cases hf)
  clear h hcell
  go_enter Try.func54, Try.ntmps54
  go_wp2_with fail
  go_loopw [9] (fun i wr => ∃ k : Nat, k ≤ rows.length ∧ i = .int .i64 k ∧ (rows.take k).all rowB = true ∧ Below w.heap.size w wr) (fun i _ => rows.length - (intOf i).toNat)
  case atStart => exact ⟨0, Nat.zero_le _, rfl, rfl, Below.refl _ _⟩
  case round =>
    obtain ⟨k, hk, rfl, hok, hb⟩ := hrel
    have HOK := Lib.hid hok
    have hbz := hb.size
    clear hok
    by_cases hlt : k < rows.length
    rotate_left
    · have he : k = rows.length := by omega
      subst he
      have hyes : rows.all rowB = true := by have := HOK.out; rwa [List.take_length] at this
      have HY := Lib.hid hyes
      clear hyes
      go_wp2
      go_ret
      exact ⟨by rw [HY.out]; rfl, hb⟩
    obtain ⟨r, hr⟩ : ∃ r, rows[k]? = some r := ⟨_, List.getElem?_eq_getElem hlt⟩
    obtain ⟨ad, B, d, rfl, had, h0, hrl, hin⟩ := HC.out k r hr
    have c0 : wr.cell? (ad.add k) = some (.slice B r.length d) := (hb.cell (by rw [block_add]; exact had)).trans h0
    have HIN := Lib.hid hin
    have HR := Lib.hid hr
    clear hin hr h0
    go_wp2_with fail
    refine (within_any _ [⟨r.length, 1, 4⟩] _ (one_bd (Blk.new _ _ _ _ rfl))).mono ?_
    rintro e w1 ⟨rfl, hk1⟩
    have hb1 : Below w.heap.size w w1 := (show Below w.heap.size w _ by go_grown).trans (hk1.mono (by simp; omega))
    have hbz1 := hb1.size
    have HG : Hid (([⟨r.length, 1, 4⟩] : List Bd).all Bd.ok = decide (1 ≤ r.length ∧ r.length ≤ 4)) := Lib.hid (by
      simp only [List.all_cons, List.all_nil, Bool.and_true, Bd.ok]
      rw [Bool.eq_iff_iff, decide_eq_true_eq, decide_eq_true_eq]
      omega)
    rw [HG.out]
    clear hk1 c0
    by_cases hl4 : 1 ≤ r.length ∧ r.length ≤ 4
    rotate_left
    · have gd : decide (1 ≤ r.length ∧ r.length ≤ 4) = false := decide_eq_false hl4
      have hno := HNO.out k r HR.out (by unfold rowB; rw [gd]; rfl)
      have HNO2 := Lib.hid hno
      clear hno
      rw [gd]
      go_wp2
      go_ret
      exact ⟨by rw [HNO2.out]; rfl, hb1⟩
    have gd : decide (1 ≤ r.length ∧ r.length ≤ 4) = true := decide_eq_true hl4
    rw [gd]
    have HXO := Lib.hid (show ∀ j (x : Int), r[j]? = some x → (r.take (j + 1)).all (fun x => decide (1 ≤ x ∧ x ≤ 1000000)) = ((r.take j).all (fun x => decide (1 ≤ x ∧ x ≤ 1000000)) && decide (1 ≤ x ∧ x ≤ 1000000)) from fun k b hb => by rw [List.take_add_one, hb]; simp)
    have HGD := Lib.hid gd
    clear gd HG
    go_wp2_with fail
    go_loopw [21] (fun i wq => ∃ j : Nat, j ≤ r.length ∧ i = .int .i64 j ∧ (r.take j).all (fun x => decide (1 ≤ x ∧ x ≤ 1000000)) = true ∧ Below w.heap.size w wq) (fun i _ => r.length - (intOf i).toNat)
    case atStart => exact ⟨0, Nat.zero_le _, rfl, rfl, hb1⟩
    case round =>
      obtain ⟨j, hj, rfl, hxo, hbq⟩ := hrel
      have HJ := Lib.hid hxo
      have hbzq := hbq.size
      clear hxo
      by_cases hjl : j < r.length
      rotate_left
      · have he : j = r.length := by omega
        subst he
        have hyes : rowB r = true := by have h := HJ.out; rw [List.take_length] at h; unfold rowB; rw [HGD.out, h]; rfl
        have HY := Lib.hid hyes
        clear hyes
        go_wp2
        go_roundw
        case rel => exact ⟨k + 1, by omega, by go_num, by rw [HO.out k r HR.out, HOK.out, HY.out]; rfl, hbq⟩
        case measure => simp [intOf]; omega
      obtain ⟨x, hx⟩ : ∃ x, r[j]? = some x := ⟨_, List.getElem?_eq_getElem hjl⟩
      obtain ⟨bd, rfl, hbd, h1⟩ := HIN.out j x hx
      have c1 : wr.cell? (bd.add j) = some (.int .i64 x) := (hbq.cell (by rw [block_add]; exact hbd)).trans h1
      have HX := Lib.hid hx
      clear hx h1
      go_wp2_with fail
      refine (within_any _ [⟨x, 1, 1000000⟩] _ (one_bd (Blk.new _ _ _ _ rfl))).mono ?_
      rintro e w2 ⟨rfl, hk2⟩
      have hb2 : Below w.heap.size w w2 := (show Below w.heap.size w _ by go_grown).trans (hk2.mono (by simp; omega))
      have HG : Hid (([⟨x, 1, 1000000⟩] : List Bd).all Bd.ok = decide (1 ≤ x ∧ x ≤ 1000000)) := Lib.hid (by
        simp only [List.all_cons, List.all_nil, Bool.and_true, Bd.ok])
      rw [HG.out]
      clear hk2 c1
      by_cases hxr : 1 ≤ x ∧ x ≤ 1000000
      · have gx : decide (1 ≤ x ∧ x ≤ 1000000) = true := decide_eq_true hxr
        rw [gx]
        have GX := Lib.hid gx
        clear gx hxr
        go_wp2
        go_roundw
        case rel => exact ⟨j + 1, by omega, by go_num, by rw [HXO.out j x HX.out, HJ.out, GX.out]; rfl, hb2⟩
        case measure => simp [intOf]; omega
      · have gx : decide (1 ≤ x ∧ x ≤ 1000000) = false := decide_eq_false hxr
        have hno := HNO.out k r HR.out (by
          unfold rowB
          rw [Bool.and_eq_false_iff]
          refine .inr (Bool.eq_false_iff.2 fun h => ?_)
          have := List.all_eq_true.1 h _ (List.mem_of_getElem? HX.out)
          exact hxr (of_decide_eq_true this))
        have HNO2 := Lib.hid hno
        rw [gx]
        clear hno gx hxr
        go_wp2
        go_ret
        exact ⟨by rw [HNO2.out]; rfl, hb2⟩
end Go.Proofs.Ytcdmojimdiiepaa
