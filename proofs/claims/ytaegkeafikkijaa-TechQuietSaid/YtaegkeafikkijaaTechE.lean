/- Layer 20: the document alarms. -/
import Derived.Test.YtaegkeafikkijaaTechD
namespace Go.Proofs.Ytaegkeafikkijaa
open Go.ChangeShapes Go.WideShapes Go.ChangeAt Go.RowKit
set_option linter.unusedVariables false
set_option linter.unusedSimpArgs false


set_option maxRecDepth 100000 in
set_option maxHeartbeats 4000000 in
theorem rtsteps_any (kk : Int) (vl vm : Value) (l m : List Bool) (w : World) (hh : 1 ≤ kk) (hh2 : kk ≤ 4611686018427387904)
    (hl : Row w vl (l.map .bool)) (hm : Row w vm (m.map .bool)) (hsz : l.length ≤ 1000) :
    Calls Try.prog 17 #[.int .i64 kk, vl, vm] w fun e w' => ∃ v, e = .returned v ∧ RowN 2 w' v l.length (al2 (alarms kk l m)) ∧ Below w.heap.size w w' := by
  obtain ⟨A, c, rfl, hc, hcm, hA⟩ := hl
  obtain ⟨B, d, rfl, hd, hdm, hB⟩ := hm
  rw [List.length_map] at hc hA hd hB ⊢
  rw [List.length_map]
  unfold maxLen at hcm hdm
  have HCL : Hid (∀ k x, l[k]? = some x → ∃ ad, A = some ad ∧ ad.block < w.heap.size ∧ w.cell? (ad.add k) = some (.bool x)) := Lib.hid (by
    intro k x hx
    have hk : k < l.length := (List.getElem?_eq_some_iff.1 hx).1
    rcases hA with ⟨_, h0⟩ | ⟨ad, h1, h2, h3⟩
    · omega
    · exact ⟨ad, h1, h2 (by omega), h3 k _ (by rw [List.getElem?_map, hx]; rfl)⟩)
  have HCM : Hid (∀ k x, m[k]? = some x → ∃ ad, B = some ad ∧ ad.block < w.heap.size ∧ w.cell? (ad.add k) = some (.bool x)) := Lib.hid (by
    intro k x hx
    have hk : k < m.length := (List.getElem?_eq_some_iff.1 hx).1
    rcases hB with ⟨_, h0⟩ | ⟨ad, h1, h2, h3⟩
    · omega
    · exact ⟨ad, h1, h2 (by omega), h3 k _ (by rw [List.getElem?_map, hx]; rfl)⟩)
  clear hA hB
  go_enter Try.func17, Try.ntmps17
  go_wp2_with fail
  go_loopw [7, 9] (fun v i wr => ∃ k : Nat, k ≤ l.length ∧ i = .int .i64 k ∧ Below w.heap.size w wr ∧
      Blk wr w.heap.size 23 #[.int .i64 (trun kk l m k).run, .bool (trun kk l m k).on, .bool (trun kk l m k).now, .bool (trun kk l m k).ok] ∧ wr.ownsRow (w.heap.size + 1) 35 2 v k (al2 (alarmsTo kk l m k))) (fun _ i _ => l.length - (intOf i).toNat)
  case atStart =>
    exact ⟨0, Nat.zero_le _, rfl, by go_grown, Blk.new _ _ _ _ rfl, own_nilN _ _⟩
  case round =>
    obtain ⟨k, hk, rfl, hb, hbs, ho⟩ := hrel
    by_cases hlt : k < l.length
    · obtain ⟨x, hx⟩ : ∃ x, l[k]? = some x := ⟨_, List.getElem?_eq_getElem hlt⟩
      obtain ⟨ad, rfl, had, hcx⟩ := HCL.out k x hx
      have hcx' : wr.cell? (ad.add k) = some (.bool x) := by rw [hb.cell (by rw [block_add]; exact had)]; exact hcx
      have HX := Lib.hid (getD_lt l k false x hx)
      clear hx hcx
      by_cases hkm : k < m.length
      · obtain ⟨y, hy⟩ : ∃ y, m[k]? = some y := ⟨_, List.getElem?_eq_getElem hkm⟩
        obtain ⟨bd, rfl, hbd, hcy⟩ := HCM.out k y hy
        have hcy' : wr.cell? (bd.add k) = some (.bool y) := by rw [hb.cell (by rw [block_add]; exact hbd)]; exact hcy
        have HY := Lib.hid (getD_lt m k false y hy)
        clear hy hcy
        have HBS := Lib.hid hbs
        have HO := Lib.hid ho
        clear hbs ho
        have hs := HBS.out.cells
        have hsf := HBS.out.froz
        have r0 := trun_bd kk l m k hh
        go_wp2_with fail
        go_still_tail 16, (by kernel_rfl)
        go_wp2_with fail
        refine (rtstep_any kk (trun kk l m k) x y _ r0.1 (by omega)).mono ?_
        rintro e w2 ⟨rfl, hbw⟩
        have HBS2 := Lib.hid (HBS.out.drw.below hbw)
        have HO2 := Lib.hid (own_below HO.out.drew hbw)
        have hb2 : Below w.heap.size w w2 := hb.drew.trans (hbw.mono hb.size)
        have l1 := HBS2.out.lt
        have HE := Lib.hid (show trun kk l m (k + 1) = (tstep kk (trun kk l m k) x y) by show tstep kk (trun kk l m k) (l.getD k false) (m.getD k false) = _; rw [HX.out, HY.out])
        clear hs hsf HBS HO hbw hcx' hcy' hb
        have hs := HBS2.out.cells
        have hsf := HBS2.out.froz
        go_wp2_with (at_builtin; refine wpList_appN elA rfl (.tmp 33) (.tmp 39) rfl (w.heap.size + 1) _ k (al2 (alarmsTo kk l m k)) rfl ?_ _ 1 (al2 [((tstep kk (trun kk l m k) x y).on, (tstep kk (trun kk l m k) x y).now)]) rfl ?_ (al2_one _) ?_ ?_ ?_ ?_)
        case refine_1 => exact (ownsRow_setCell_below (ownsRow_setCell_below (ownsRow_setCell_below (ownsRow_setCell_below HO2.out (Nat.lt_succ_self w.heap.size) _) (Nat.lt_succ_self w.heap.size) _) (Nat.lt_succ_self w.heap.size) _) (Nat.lt_succ_self w.heap.size) _).alloc _
        case refine_2 => exact RowN.of_blk (Blk.new _ _ _ _ (by simp)) rfl rfl (Nat.le_refl _) (by decide)
        case refine_3 => unfold maxLen; omega
        case refine_4 => omega
        case refine_5 => simp; omega
        intro v2 w3 hown2 hgrow hat
        have hb2s : Below w.heap.size w (((((w2.setCell ⟨w.heap.size, 0, none⟩ (.int .i64 (tstep kk (trun kk l m k) x y).run)).setCell ⟨w.heap.size, 1, none⟩ (.bool (tstep kk (trun kk l m k) x y).on)).setCell ⟨w.heap.size, 2, none⟩ (.bool (tstep kk (trun kk l m k) x y).now)).setCell ⟨w.heap.size, 3, none⟩ (.bool (tstep kk (trun kk l m k) x y).ok)).alloc (.cells #[.bool (tstep kk (trun kk l m k) x y).on, .bool (tstep kk (trun kk l m k) x y).now] 35)) := by
          clear hs hsf; go_grown
        have hown0 := (ownsRow_setCell_below (ownsRow_setCell_below (ownsRow_setCell_below (ownsRow_setCell_below HO2.out (a := ⟨w.heap.size, 0, none⟩) (Nat.lt_succ_self w.heap.size) (.int .i64 (tstep kk (trun kk l m k) x y).run)) (a := ⟨w.heap.size, 1, none⟩) (Nat.lt_succ_self w.heap.size) (.bool (tstep kk (trun kk l m k) x y).on)) (a := ⟨w.heap.size, 2, none⟩) (Nat.lt_succ_self w.heap.size) (.bool (tstep kk (trun kk l m k) x y).now)) (a := ⟨w.heap.size, 3, none⟩) (Nat.lt_succ_self w.heap.size) (.bool (tstep kk (trun kk l m k) x y).ok)).alloc (.cells #[.bool (tstep kk (trun kk l m k) x y).on, .bool (tstep kk (trun kk l m k) x y).now] 35)
        have hb3 : Below w.heap.size w w3 := below_app hb2s (by simp; omega) hown0 hgrow (by omega)
        have hk3 := (Below.refl (w.heap.size + 1) _).grown hgrow (by simp; omega) (fun g hg => by
          rcases hown0.2 with ⟨e, _⟩ | ⟨g1, cap, cur, e, hg1, _⟩
          · rw [e] at hg; simp [Value.ownBlock] at hg
          · rw [e] at hg; simp [Value.ownBlock] at hg; omega)
        have HBS3 := Lib.hid (((((HBS2.out.set 0 (.int .i64 (tstep kk (trun kk l m k) x y).run)).set 1 (.bool (tstep kk (trun kk l m k) x y).on)).set 2 (.bool (tstep kk (trun kk l m k) x y).now)).set 3 (.bool (tstep kk (trun kk l m k) x y).ok)).al (.cells #[.bool (tstep kk (trun kk l m k) x y).on, .bool (tstep kk (trun kk l m k) x y).now] 35) |>.keep hk3 (by omega))
        have HO3 := Lib.hid hown2
        clear hs hsf hown2 hown0 hgrow hat hk3 hb2s HBS2 HO2 hb2
        go_wp2
        go_roundw
        case rel =>
          refine ⟨k + 1, by omega, by go_num, hb3, ?_, ?_⟩
          · rw [HE.out]; exact HBS3.out
          · rw [alarmsTo_succ, al2_app, HE.out]; exact HO3.out
        case measure => simp [intOf]; omega
      · have HY := Lib.hid (getD_ge m k (by omega))
        have hdk : decide ((k : Int) < (m.length : Int)) = false := by simpa using hkm
        have HBS := Lib.hid hbs
        have HO := Lib.hid ho
        clear hbs ho
        have hs := HBS.out.cells
        have hsf := HBS.out.froz
        have r0 := trun_bd kk l m k hh
        go_wp2_with fail
        go_still_tail 16, (by kernel_rfl)
        go_wp2_with fail
        refine (rtstep_any kk (trun kk l m k) x false _ r0.1 (by omega)).mono ?_
        rintro e w2 ⟨rfl, hbw⟩
        have HBS2 := Lib.hid (HBS.out.drw.below hbw)
        have HO2 := Lib.hid (own_below HO.out.drew hbw)
        have hb2 : Below w.heap.size w w2 := hb.drew.trans (hbw.mono hb.size)
        have l1 := HBS2.out.lt
        have HE := Lib.hid (show trun kk l m (k + 1) = (tstep kk (trun kk l m k) x false) by show tstep kk (trun kk l m k) (l.getD k false) (m.getD k false) = _; rw [HX.out, HY.out])
        clear hs hsf HBS HO hbw hcx'  hb
        have hs := HBS2.out.cells
        have hsf := HBS2.out.froz
        go_wp2_with (at_builtin; refine wpList_appN elA rfl (.tmp 33) (.tmp 39) rfl (w.heap.size + 1) _ k (al2 (alarmsTo kk l m k)) rfl ?_ _ 1 (al2 [((tstep kk (trun kk l m k) x false).on, (tstep kk (trun kk l m k) x false).now)]) rfl ?_ (al2_one _) ?_ ?_ ?_ ?_)
        case refine_1 => exact (ownsRow_setCell_below (ownsRow_setCell_below (ownsRow_setCell_below (ownsRow_setCell_below HO2.out (Nat.lt_succ_self w.heap.size) _) (Nat.lt_succ_self w.heap.size) _) (Nat.lt_succ_self w.heap.size) _) (Nat.lt_succ_self w.heap.size) _).alloc _
        case refine_2 => exact RowN.of_blk (Blk.new _ _ _ _ (by simp)) rfl rfl (Nat.le_refl _) (by decide)
        case refine_3 => unfold maxLen; omega
        case refine_4 => omega
        case refine_5 => simp; omega
        intro v2 w3 hown2 hgrow hat
        have hb2s : Below w.heap.size w (((((w2.setCell ⟨w.heap.size, 0, none⟩ (.int .i64 (tstep kk (trun kk l m k) x false).run)).setCell ⟨w.heap.size, 1, none⟩ (.bool (tstep kk (trun kk l m k) x false).on)).setCell ⟨w.heap.size, 2, none⟩ (.bool (tstep kk (trun kk l m k) x false).now)).setCell ⟨w.heap.size, 3, none⟩ (.bool (tstep kk (trun kk l m k) x false).ok)).alloc (.cells #[.bool (tstep kk (trun kk l m k) x false).on, .bool (tstep kk (trun kk l m k) x false).now] 35)) := by
          clear hs hsf; go_grown
        have hown0 := (ownsRow_setCell_below (ownsRow_setCell_below (ownsRow_setCell_below (ownsRow_setCell_below HO2.out (a := ⟨w.heap.size, 0, none⟩) (Nat.lt_succ_self w.heap.size) (.int .i64 (tstep kk (trun kk l m k) x false).run)) (a := ⟨w.heap.size, 1, none⟩) (Nat.lt_succ_self w.heap.size) (.bool (tstep kk (trun kk l m k) x false).on)) (a := ⟨w.heap.size, 2, none⟩) (Nat.lt_succ_self w.heap.size) (.bool (tstep kk (trun kk l m k) x false).now)) (a := ⟨w.heap.size, 3, none⟩) (Nat.lt_succ_self w.heap.size) (.bool (tstep kk (trun kk l m k) x false).ok)).alloc (.cells #[.bool (tstep kk (trun kk l m k) x false).on, .bool (tstep kk (trun kk l m k) x false).now] 35)
        have hb3 : Below w.heap.size w w3 := below_app hb2s (by simp; omega) hown0 hgrow (by omega)
        have hk3 := (Below.refl (w.heap.size + 1) _).grown hgrow (by simp; omega) (fun g hg => by
          rcases hown0.2 with ⟨e, _⟩ | ⟨g1, cap, cur, e, hg1, _⟩
          · rw [e] at hg; simp [Value.ownBlock] at hg
          · rw [e] at hg; simp [Value.ownBlock] at hg; omega)
        have HBS3 := Lib.hid (((((HBS2.out.set 0 (.int .i64 (tstep kk (trun kk l m k) x false).run)).set 1 (.bool (tstep kk (trun kk l m k) x false).on)).set 2 (.bool (tstep kk (trun kk l m k) x false).now)).set 3 (.bool (tstep kk (trun kk l m k) x false).ok)).al (.cells #[.bool (tstep kk (trun kk l m k) x false).on, .bool (tstep kk (trun kk l m k) x false).now] 35) |>.keep hk3 (by omega))
        have HO3 := Lib.hid hown2
        clear hs hsf hown2 hown0 hgrow hat hk3 hb2s HBS2 HO2 hb2
        go_wp2
        go_roundw
        case rel =>
          refine ⟨k + 1, by omega, by go_num, hb3, ?_, ?_⟩
          · rw [HE.out]; exact HBS3.out
          · rw [alarmsTo_succ, al2_app, HE.out]; exact HO3.out
        case measure => simp [intOf]; omega
    · have : k = l.length := by omega
      subst this
      have HO := Lib.hid (RowN.of_own ho)
      clear ho hbs
      go_wp2
      go_ret
      exact ⟨_, rfl, HO.out, hb⟩
end Go.Proofs.Ytaegkeafikkijaa
