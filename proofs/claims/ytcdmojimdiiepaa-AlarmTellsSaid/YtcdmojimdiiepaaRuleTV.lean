/- Layer 18: the channels of a rule. -/
import Derived.Test.YtcdmojimdiiepaaRuleSV
import Derived.Test.YtcdmojimdiiepaaRuleIV
import Derived.Sort.OwnSortedInts
import Derived.Lib.OwnBridge
import Derived.Laws.EntriesVeiled
namespace Go.Proofs.Ytcdmojimdiiepaa
open Go.ChangeShapes Go.WideShapes Go.ChangeAt Go.RowKit Go.Sort
set_option linter.unusedVariables false
set_option linter.unusedSimpArgs false

theorem sort_own (w : World) (base n : Nat) (v : Value) (zs : List Int) (h : w.ownsRow base 3 1 v n (zs.map (.int .i64))) (hn : n ≤ 1000) :
    Calls Try.prog 49 #[v] w fun e w' => e = .returned (.tuple #[]) ∧ w'.ownsRow base 3 1 v n ((zs.mergeSort fun x y => decide (x ≤ y)).map (.int .i64)) ∧ Below base w w' := by
  have hl : zs.length = n := by simpa using h.1
  have hl2 : (zs.mergeSort fun x y => decide (x ≤ y)).length = zs.length := List.length_mergeSort zs
  rcases h.2 with ⟨rfl, h0⟩ | ⟨g, cap, cur, rfl, hb, hg, hnc, hm, hs, ht⟩
  · have hz : zs = [] := List.eq_nil_of_length_eq_zero (by omega)
    subst hz
    refine (slices_Sort_int_none none 0 w).mono ?_
    rintro e w' ⟨rfl, rfl⟩
    exact ⟨rfl, by simpa using h, Below.refl _ _⟩
  · subst hl
    have hH : Holds (Value.int .i64) w g 0 zs.toArray := holds_of_blockI hg (by simpa using ht)
    refine (slices_Sort_int g 0 cap zs w hH (Array.getElem?_eq_some_iff.1 hg).1 (by omega)).mono ?_
    rintro e w' ⟨rfl, m, os, rfl⟩
    refine ⟨rfl, ownsRow_sortedI hl2 hb hg hnc hm hs, ?_⟩
    exact (Below.refl base w).grown (grownBy_sortedI _) (Nat.le_trans hb (Nat.le_of_lt (Array.getElem?_eq_some_iff.1 hg).1)) (fun j hj => by cases hj; exact hb)
theorem compact_own (w : World) (base n : Nat) (v : Value) (zs : List Int) (h : w.ownsRow base 3 1 v n (zs.map (.int .i64))) (hn : n ≤ 1000) :
    Calls Try.prog 50 #[v] w fun e w' => ∃ A c, e = .returned (.slice A (Lib.compact zs).length c) ∧ w'.ownsRow base 3 1 (.slice A (Lib.compact zs).length c) (Lib.compact zs).length ((Lib.compact zs).map (.int .i64)) ∧ Below base w w' := by
  have hl : zs.length = n := by simpa using h.1
  have hle := Lib.compact_length_le zs
  rcases h.2 with ⟨rfl, h0⟩ | ⟨g, cap, cur, rfl, hb, hg, hnc, hm, hs, ht⟩
  · have hz : zs = [] := List.eq_nil_of_length_eq_zero (by omega)
    subst hz
    refine (slices_Compact_int_empty none 0 w).mono ?_
    rintro e w' ⟨rfl, rfl⟩
    exact ⟨none, 0, rfl, by simpa [Lib.compact, Lib.compactUpTo] using own_nil base 3, Below.refl _ _⟩
  · subst hl
    have hH : Holds (Value.int .i64) w g 0 zs.toArray := holds_of_blockI hg (by simpa using ht)
    refine (slices_Compact_int g 0 cap zs w hH (by omega) hnc).mono ?_
    rintro e w' ⟨rfl, q, rfl⟩
    refine ⟨some ⟨g, 0, none⟩, cap, rfl, ?_, Lib.below_putRow (Below.refl base w) hb⟩
    have hc := Lib.ownsRow_putRow (q := q) (k := (Lib.compact zs).length) (ys := Lib.compact zs ++ List.replicate (zs.length - (Lib.compact zs).length) 0) h (by simp; omega) hle
    rw [List.take_left] at hc
    exact hc
set_option maxHeartbeats 4000000 in
theorem rule_channels_any (v : Value) (hold : Int) (latch : Bool) (l : List T) (w : World) (h : IsRule w v hold latch l) (hl : l.length ≤ 100) :
    Calls Try.prog 27 #[v] w fun e w' => ∃ A c, e = .returned (.slice A (chO l).length c) ∧ w'.ownsRow w.heap.size 3 1 (.slice A (chO l).length c) (chO l).length ((chO l).map (.int .i64)) ∧ Below w.heap.size w w' := by
  obtain ⟨A, rc, rfl, hrow⟩ := h.ex
  have HROW := Lib.hid hrow
  have R0 := Lib.hid (Blk.new w 50 #[.slice A l.length rc, .int .i64 hold, .bool latch] w.heap.size rfl)
  have HAL := Lib.hid ((Below.refl w.heap.size w).alloc (Nat.le_refl _) (.cells #[.slice A l.length rc, .int .i64 hold, .bool latch] 50))
  clear h hrow
  go_enter Try.func27, Try.ntmps27
  go_wp2_with fail
  refine wp_world (fun W => Below w.heap.size w W) HAL.out fun W hbW => ?_
  clear HAL R0
  go_loopw [3, 9] (fun vc i wr => ∃ j : Nat, j ≤ l.length ∧ i = .int .i64 j ∧ Below w.heap.size w wr ∧ wr.ownsRow w.heap.size 3 1 vc (chs (l.take j)).length ((chs (l.take j)).map (.int .i64)) ∧ w.heap.size ≤ wr.heap.size) (fun _ i _ => l.length - (intOf i).toNat)
  case atStart => exact ⟨0, by omega, rfl, hbW, own_nil _ _, hbW.size⟩
  case round =>
    clear hbW
    obtain ⟨j, hj, rfl, hb, hown, hz⟩ := hrel
    have HO := Lib.hid hown
    clear hown
    by_cases hlt : j < l.length
    · obtain ⟨t, ht⟩ : ∃ t, l[j]? = some t := ⟨_, List.getElem?_eq_getElem hlt⟩
      obtain ⟨ad, rfl, had, c0, c1, c2⟩ := row3_at HROW.out ht
      have e0 : wr.cell? (ad.add (j * 3)) = some (.int .i64 t.1) := by rw [hb.cell (by rw [block_add]; exact had)]; exact c0
      have e1 : wr.cell? ⟨(ad.add (j * 3)).block, (ad.add (j * 3)).off + 1, none⟩ = some (.int .i64 t.2.1) := by rw [hb.cell (by show (ad.add (j * 3)).block < _; rw [block_add]; exact had)]; exact c1
      have e2 : wr.cell? ⟨(ad.add (j * 3)).block, (ad.add (j * 3)).off + 2, none⟩ = some (.int .i64 t.2.2) := by rw [hb.cell (by show (ad.add (j * 3)).block < _; rw [block_add]; exact had)]; exact c2
      have hjl : (j : Int) < (l.length : Int) := by omega
      have htk : l.take (j + 1) = l.take j ++ [t] := by rw [List.take_add_one, ht]; rfl
      have HSN := Lib.hid (show chs (l.take (j + 1)) = if isLim t then chs (l.take j) ++ [t.2.1] else chs (l.take j) by rw [htk, chs_snoc])
      have hlc := chs_len (l.take j)
      rw [List.length_take] at hlc
      have hal1 := (Below.refl wr.heap.size wr).alloc (Nat.le_refl _) (.cells #[.int .i64 t.1, .int .i64 t.2.1, .int .i64 t.2.2] 103)
      have HX1 := Lib.hid (Blk.new wr 103 #[.int .i64 t.1, .int .i64 t.2.1, .int .i64 t.2.2] wr.heap.size rfl)
      have hb1 := Btrans hb hal1
      have HO1 := Lib.hid (own_below HO.out hal1)
      clear c0 c1 c2 ht htk hal1
      go_wp2_with fail
      refine (islim_any t _).mono ?_
      rintro e w3 ⟨rfl, hk⟩
      have hb3 := Btrans hb1 hk
      have hx := (HX1.out.below hk).cells
      have HO3 := Lib.hid (own_below HO1.out hk)
      have hz3 := hb3.size
      clear hk hb1 HX1 e0 e1 e2 hb HO HO1
      cases hlm : isLim t with
      | true =>
        have HC2 := Lib.hid (show chs (l.take (j + 1)) = chs (l.take j) ++ [t.2.1] by rw [HSN.out, hlm]; rfl)
        clear hlm
        go_wp2_with (at_builtin; refine wpList_app elI rfl (.tmp 15) (.tmp 18) rfl w.heap.size _ _ _ rfl (own_below HO3.out (by go_grown)) _ [.int .i64 t.2.1] rfl (Row.new [.int .i64 t.2.1] 3 1 (by simp) (by decide) _ _ rfl) (by simp [Value.oneCell']) ?_ ?_ ?_ ?_)
        case refine_1 => simp; unfold maxLen; omega
        case refine_2 => simp; omega
        case refine_3 => simp; omega
        intro v7 w7 own7 hg7 _
        have hb7 : Below w.heap.size w w7 := hb3.trans (below_app ((Below.refl w.heap.size w3).alloc (by omega) _) (by simp; omega) (own_below HO3.out ((Below.refl _ _).alloc (Nat.le_refl _) _)) hg7 (Nat.le_refl _))
        have HO7 := Lib.hid (show w7.ownsRow w.heap.size 3 1 v7 (chs (l.take (j + 1))).length ((chs (l.take (j + 1))).map (.int .i64)) by rw [HC2.out, List.length_append, List.map_append]; exact own7)
        clear own7 hg7
        go_wp2
        go_roundw
        case rel => exact ⟨j + 1, by omega, by go_num, hb7, HO7.out, hb7.size⟩
        case measure => simp [intOf]; omega
      | false =>
        have HC2 := Lib.hid (show chs (l.take (j + 1)) = chs (l.take j) by rw [HSN.out, hlm]; rfl)
        clear hlm
        go_wp2
        go_roundw
        case rel => exact ⟨j + 1, by omega, by go_num, hb3, by rw [HC2.out]; exact HO3.out, hz3⟩
        case measure => simp [intOf]; omega
    · have he : j = l.length := by omega
      subst he
      have hown := HO.out
      rw [List.take_length] at hown
      have hlc := chs_len l
      have HO2 := Lib.hid hown
      clear hown HO
      go_wp2_with fail
      refine (sort_own _ _ _ _ _ HO2.out (by omega)).mono ?_
      rintro e w3 ⟨rfl, h3, k3⟩
      have hb3 := hb.trans k3
      have HO3 := Lib.hid h3
      have hz3 := hb3.size
      clear h3 k3 HO2
      go_wp2_with fail
      refine (compact_own _ _ _ _ _ HO3.out (by omega)).mono ?_
      rintro e w4 ⟨A4, c4, rfl, h4, k4⟩
      rw [sorted_compact] at h4 ⊢
      have hb4 := hb3.trans k4
      have HO4 := Lib.hid h4
      clear h4 k4 HO3
      go_wp2
      go_ret
      exact ⟨A4, c4, rfl, HO4.out, hb4⟩
end Go.Proofs.Ytcdmojimdiiepaa
