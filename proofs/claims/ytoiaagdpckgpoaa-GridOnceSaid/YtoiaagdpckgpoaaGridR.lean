/- Layer 13: the document's cells. -/
import Derived.Test.YtoiaagdpckgpoaaGridQ
import Derived.StillTailTactics
namespace Go.Proofs.Ytoiaagdpckgpoaa
open Go.ChangeShapes Go.WideShapes Go.ChangeAt Go.RowKit
set_option linter.unusedVariables false
set_option linter.unusedSimpArgs false

set_option maxRecDepth 100000 in
set_option maxHeartbeats 4000000 in
theorem rgtell_any (w : World) (base gb N k nx cw : Nat) (sp : List Sp) (Aw : Option Addr) (why : List Int) (h : RG w base gb N k nx sp) (hw : Row w (.slice Aw why.length cw) (why.map (.int .i64))) (hl : why.length = N) (hN : N ≤ 2500) (hn : nx ≤ 1000000) :
    Calls Try.prog 17 #[.pointer (some ⟨gb, 0, none⟩), .slice Aw why.length cw] w fun e w' => ∃ A c, e = .returned (.slice A N c) ∧ RowN 3 w' (.slice A N c) N (c3 (rtell why sp nx N)) ∧ RG w' base gb N k (nx + 1) sp ∧ Only [gb] w w' := by
  have HRG := Lib.hid h
  have HW := Lib.hid hw
  have HL := Lib.hid hl
  obtain ⟨A, c, h1, h2⟩ := h.ex
  have H1 := Lib.hid h1
  have H2 := Lib.hid h2
  have hx := h1.cells
  have lG := h1.lt
  have hq : ((why.length : Int) != (N : Int)) = false := by rw [bne_eq_false_iff_eq]; omega
  have hwl : why.length = N := hl
  have HLEN := Lib.hid hwl
  clear h hw hl h1 h2 hwl
  go_enter Try.func17, Try.ntmps17
  go_wp2_with fail
  clear hx
  go_loopw [5, 6] (fun vo i wr => ∃ j : Nat, j ≤ N ∧ i = .int .i64 j ∧ Below w.heap.size w wr ∧ wr.ownsRow w.heap.size 51 3 vo j (c3 (rtell why sp nx j))) (fun _ i _ => N - (intOf i).toNat)
  case atStart => exact ⟨0, by omega, rfl, Below.refl _ _, own_nilN _ _⟩
  case round =>
    obtain ⟨j, hj, rfl, hb, hown⟩ := hrel
    have HO := Lib.hid hown
    have HB1 := Lib.hid (H1.out.below hb)
    have hx := HB1.out.cells
    have lB := HB1.out.lt
    clear hown
    by_cases hlt : j < N
    · obtain ⟨y, hy⟩ : ∃ y, why[j]? = some y := ⟨_, List.getElem?_eq_getElem (by rw [HLEN.out]; exact hlt)⟩
      have HY := Lib.hid (show (why.map (Value.int .i64))[j]? = some (.int .i64 y) by rw [List.getElem?_map, hy]; rfl)
      have hd : why.getD j 0 = y := by rw [List.getD_eq_getElem?_getD, hy]; rfl
      have HD := Lib.hid hd
      clear hy hd
      go_wp2_with fail
      refine (rgat_any _ base gb N k nx sp (j : Int) (nx : Int) (HRG.out.below hb)).mono ?_
      rintro e w1 ⟨rfl, hk⟩
      have hb1 := Btrans hb hk
      have HO1 := Lib.hid (own_below HO.out hk)
      have hz1 := hb1.size
      obtain ⟨ad, cw2, e1, hcy, hcy2⟩ := (HW.out.below hb1).at_new HY.out
      obtain ⟨rfl, -⟩ : Aw = some ad ∧ True := by injection e1 with e1; exact ⟨e1, trivial⟩
      have hadl := lt_of_cell hcy
      rw [block_add] at hadl
      have hjl : (j : Int) < (why.length : Int) := by have := HLEN.out; omega
      clear e1 hk HO hx
      cases hs : spotOf sp (j : Int) (nx : Int) with
      | some x =>
        have hst := rtell_step why sp nx j
        rw [show rcell why sp nx j = (1, x.1, x.2) by unfold rcell; rw [hs]] at hst
        have HST := Lib.hid hst
        simp only [Option.getD_some, Option.isSome_some]
        clear hs hst
        go_wp2_with (at_builtin; refine wpList_appN elC rfl (.tmp 35) (.tmp 41) rfl w.heap.size _ j _ rfl (own_below HO1.out (by go_grown)) _ 1 (c3 [(1, x.1, x.2)]) rfl (RowN.of_blk (Blk.new _ _ _ _ (by first | rfl | simp)) rfl rfl (Nat.le_refl _) (by decide)) (c3_one _) ?_ ?_ ?_ ?_)
        case refine_1 => unfold maxLen; omega
        case refine_2 => omega
        case refine_3 => simp; omega
        intro v7 w7 own7 hg7 _
        have hb7 : Below w.heap.size w w7 := hb1.trans (below_app ((Below.refl w1.heap.size w1).alloc (Nat.le_refl _) _ |>.alloc (by simp) _ |>.mono hz1) (by simp; omega) (own_below HO1.out (((Below.refl w1.heap.size w1).alloc (Nat.le_refl _) _).alloc (by simp) _)) hg7 (Nat.le_refl _))
        rw [← c3_app, ← HST.out] at own7
        have HO7 := Lib.hid own7
        clear own7 hg7 hcy hcy2
        go_wp2
        go_roundw
        case rel => exact ⟨j + 1, by omega, by go_num, hb7, HO7.out⟩
        case measure => simp [intOf]; omega
      | none =>
        have hst := rtell_step why sp nx j
        rw [show rcell why sp nx j = (y, 0, 0) by unfold rcell; rw [hs, HD.out]] at hst
        have HST := Lib.hid hst
        simp only [Option.getD_none, Option.isSome_none]
        clear hs hst
        go_wp2_with (at_builtin; refine wpList_appN elC rfl (.tmp 43) (.tmp 49) rfl w.heap.size _ j _ rfl (own_below HO1.out (by go_grown)) _ 1 (c3 [(y, 0, 0)]) rfl (RowN.of_blk (Blk.new _ _ _ _ (by first | rfl | simp)) rfl rfl (Nat.le_refl _) (by decide)) (c3_one _) ?_ ?_ ?_ ?_)
        case refine_1 => unfold maxLen; omega
        case refine_2 => omega
        case refine_3 => simp; omega
        intro v7 w7 own7 hg7 _
        have hb7 : Below w.heap.size w w7 := hb1.trans (below_app ((Below.refl w1.heap.size w1).alloc (Nat.le_refl _) _ |>.alloc (by simp) _ |>.mono hz1) (by simp; omega) (own_below HO1.out (((Below.refl w1.heap.size w1).alloc (Nat.le_refl _) _).alloc (by simp) _)) hg7 (Nat.le_refl _))
        rw [← c3_app, ← HST.out] at own7
        have HO7 := Lib.hid own7
        clear own7 hg7 hcy hcy2
        go_wp2
        go_roundw
        case rel => exact ⟨j + 1, by omega, by go_num, hb7, HO7.out⟩
        case measure => simp [intOf]; omega
    · have he : j = N := by omega
      subst he
      have fG := HB1.out.froz
      have hwr : IntKind.i64.wrap ((nx : Int) + 1) = (nx : Int) + 1 := IntWalk.i64_in _ (by omega)
      obtain ⟨A9, c9, rfl⟩ := own_shape HO.out
      go_wp2
      go_ret
      have ho : Only [gb] wr (wr.setCell ⟨gb, 2, none⟩ (.int .i64 ((nx : Int) + 1))) := (Only.refl _ _).setCell (p := ⟨gb, 2, none⟩) (by simp) _
      refine ⟨A9, c9, rfl, RowN.of_own (own_onlyB HO.out ho (by simp; exact lG)), ⟨⟨A, c, ?_, own_typed (own_below H2.out hb) HB1.out (by decide) ho⟩, HRG.out.lo⟩, (Only.of_below [gb] hb).trans ho⟩
      exact HB1.out.set 2 (.int .i64 ((nx : Int) + 1))
end Go.Proofs.Ytoiaagdpckgpoaa
