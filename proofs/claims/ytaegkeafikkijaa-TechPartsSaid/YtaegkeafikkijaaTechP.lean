/- Layer 20: the law of parts, walked. -/
import Derived.Test.YtaegkeafikkijaaTechR
import Derived.Test.YtaegkeafikkijaaZero
namespace Go.Proofs.Ytaegkeafikkijaa
open Go.ChangeShapes Go.WideShapes Go.ChangeAt Go.RowKit
set_option linter.unusedVariables false
set_option linter.unusedSimpArgs false

theorem elB : Elem Try.prog 24 4 1 1 := Elem.mk' (z := .bool false) Try.underlying24 (by kernel_rfl) rfl (by decide)
theorem infoB : ∃ i, Try.prog.info? 4 = some i ∧ i.zero = some (.bool false) ∧ i.size = 1 ∧ i.bytes = 1 := info_parts (by kernel_rfl)

set_option maxRecDepth 100000 in
set_option maxHeartbeats 4000000 in
theorem walk_TechParts (n : Int) (vl : Value) (l : List Bool) (vm : Value) (m : List Bool) (w : World) (w0 : (Lit.int .u8 n).wf = true) (h1 : Row w vl (l.map .bool)) (h2 : Row w vm (m.map .bool)) :
    Calls Try.prog 8 #[.int .u8 n, vl, vm] w fun e w' => e = .returned (.bool true) ∧ Below w.heap.size w w' := by
  have bn := bounds_u8 w0
  have hn0 : 1 ≤ n % 6 + 1 ∧ n % 6 + 1 ≤ 6 := by omega
  have HL := h1
  have HM := h2
  obtain ⟨A, c, rfl, hc, hcm⟩ := h1.shape2
  obtain ⟨B, d, rfl, hd, hdm⟩ := h2.shape2
  rw [List.length_map] at hc hd
  simp only [List.length_map] at HL HM ⊢
  clear h1 h2 w0
  have HL0 := Lib.hid HL
  have HM0 := Lib.hid HM
  clear HL HM
  go_enter Try.func8, Try.ntmps8
  go_wp2_with fail
  refine calls_world (fun W1 => Below w.heap.size w W1 ∧ Row W1 (.slice A l.length c) (l.map .bool) ∧ Row W1 (.slice B m.length d) (m.map .bool)) ⟨(by go_grown), (HL0.out.below (by go_grown)), (HM0.out.below (by go_grown))⟩ fun W1 ⟨hb1, qHL, qHM⟩ => ?_
  have HL1 := Lib.hid qHL
  have HM1 := Lib.hid qHM
  clear qHL qHM HL0 HM0
  refine (head_any _).mono ?_
  rintro e W2 ⟨rfl, hk⟩
  have hb2 := hb1.trans (hk.mono hb1.size)
  have HL2 := Lib.hid (HL1.out.below hk)
  have HM2 := Lib.hid (HM1.out.below hk)
  clear hk HL1 HM1 hb1
  go_wp2_with fail
  refine (limit_any n _ bn.1 bn.2).mono ?_
  rintro e W3 ⟨rfl, hk⟩
  have hb3 := hb2.trans (hk.mono hb2.size)
  have HL3 := Lib.hid (HL2.out.below hk)
  have HM3 := Lib.hid (HM2.out.below hk)
  clear hk HL2 HM2 hb2
  generalize n % 6 + 1 = kk at *
  by_cases hbl : 300 < l.length
  · have hz := hb3.size
    go_wp2
    go_ret
    exact ⟨by simp, by go_grown⟩
  by_cases hbm : 300 < m.length
  · have hz := hb3.size
    go_wp2
    go_ret
    exact ⟨by simp, by go_grown⟩
  go_wp2_with fail
  go_wp2
  go_loopw [10, 11] (fun v i wr => ∃ k : Nat, k ≤ l.length ∧ i = .int .i64 k ∧ Below W3.heap.size W3 wr ∧ Blk wr W3.heap.size 23 #[.int .i64 (trun kk l m k).run, .bool (trun kk l m k).on, .bool (trun kk l m k).now, .bool (trun kk l m k).ok] ∧ wr.ownsRow (W3.heap.size + 1) 35 2 v k (al2 (alarmsTo kk l m k))) (fun _ i _ => l.length - (intOf i).toNat)
  case atStart => exact ⟨0, Nat.zero_le _, rfl, by go_grown, Blk.new _ _ _ _ rfl, own_nilN _ _⟩
  case round =>
    obtain ⟨k, hk, rfl, hb, hbs, ho⟩ := hrel
    by_cases hlt : k < l.length
    · obtain ⟨x, hx⟩ : ∃ x, l[k]? = some x := ⟨_, List.getElem?_eq_getElem hlt⟩
      obtain ⟨pd, rfl, hcx⟩ := (HL3.out.below hb).at1 k (.bool x) (by rw [List.getElem?_map, hx]; rfl)
      have HX := Lib.hid (getD_lt l k false x hx)
      clear hx
      by_cases hkm : k < m.length
      · obtain ⟨y, hy⟩ : ∃ y, m[k]? = some y := ⟨_, List.getElem?_eq_getElem hkm⟩
        obtain ⟨qd, rfl, hcy⟩ := (HM3.out.below hb).at1 k (.bool y) (by rw [List.getElem?_map, hy]; rfl)
        have HY := Lib.hid (getD_lt m k false y hy)
        clear hy
        have HBS := Lib.hid hbs
        have HO := Lib.hid ho
        clear hbs ho 
        have hs := HBS.out.cells
        have hsf := HBS.out.froz
        have r0 := trun_bd kk l m k hn0.1
        go_wp2_with fail
        go_still_tail 16, (by kernel_rfl)
        go_wp2_with fail
        refine (tstep_any kk (trun kk l m k) x y _ r0.1 (by omega)).mono ?_
        rintro e w2 ⟨rfl, hbw⟩
        have HBS2 := Lib.hid (HBS.out.drw.below hbw)
        have HO2 := Lib.hid (own_below HO.out.drew hbw)
        have hb2 : Below W3.heap.size W3 w2 := hb.drew.trans (hbw.mono hb.size)
        have l1 := HBS2.out.lt
        have HE := Lib.hid (show trun kk l m (k + 1) = (tstep kk (trun kk l m k) x y) by show tstep kk (trun kk l m k) (l.getD k false) (m.getD k false) = _; rw [HX.out, HY.out])
        clear hs hsf  HBS HO hbw hcx hcy hb
        have hs := HBS2.out.cells
        have hsf := HBS2.out.froz
        go_wp2_with (at_builtin; refine wpList_appN elA rfl (.tmp 49) (.tmp 55) rfl (W3.heap.size + 1) _ k (al2 (alarmsTo kk l m k)) rfl ?_ _ 1 (al2 [((tstep kk (trun kk l m k) x y).on, (tstep kk (trun kk l m k) x y).now)]) rfl ?_ (al2_one _) ?_ ?_ ?_ ?_)
        case refine_1 => exact (ownsRow_setCell_below (ownsRow_setCell_below (ownsRow_setCell_below (ownsRow_setCell_below HO2.out (Nat.lt_succ_self W3.heap.size) _) (Nat.lt_succ_self W3.heap.size) _) (Nat.lt_succ_self W3.heap.size) _) (Nat.lt_succ_self W3.heap.size) _).alloc _
        case refine_2 => exact RowN.of_blk (Blk.new _ _ _ _ (by simp)) rfl rfl (Nat.le_refl _) (by decide)
        case refine_3 => unfold maxLen; omega
        case refine_4 => omega
        case refine_5 => simp; omega
        intro v2 w3 hown2 hgrow hat
        have hb2s : Below W3.heap.size W3 (((((w2.setCell ⟨W3.heap.size, 0, none⟩ (.int .i64 (tstep kk (trun kk l m k) x y).run)).setCell ⟨W3.heap.size, 1, none⟩ (.bool (tstep kk (trun kk l m k) x y).on)).setCell ⟨W3.heap.size, 2, none⟩ (.bool (tstep kk (trun kk l m k) x y).now)).setCell ⟨W3.heap.size, 3, none⟩ (.bool (tstep kk (trun kk l m k) x y).ok)).alloc (.cells #[.bool (tstep kk (trun kk l m k) x y).on, .bool (tstep kk (trun kk l m k) x y).now] 35)) := by
          clear hs hsf; go_grown
        have hown0 := ((ownsRow_setCell_below (ownsRow_setCell_below (ownsRow_setCell_below (ownsRow_setCell_below HO2.out (a := ⟨W3.heap.size, 0, none⟩) (Nat.lt_succ_self W3.heap.size) (.int .i64 (tstep kk (trun kk l m k) x y).run)) (a := ⟨W3.heap.size, 1, none⟩) (Nat.lt_succ_self W3.heap.size) (.bool (tstep kk (trun kk l m k) x y).on)) (a := ⟨W3.heap.size, 2, none⟩) (Nat.lt_succ_self W3.heap.size) (.bool (tstep kk (trun kk l m k) x y).now)) (a := ⟨W3.heap.size, 3, none⟩) (Nat.lt_succ_self W3.heap.size) (.bool (tstep kk (trun kk l m k) x y).ok)).alloc (.cells #[.bool (tstep kk (trun kk l m k) x y).on, .bool (tstep kk (trun kk l m k) x y).now] 35))
        have hb3 : Below W3.heap.size W3 w3 := below_app hb2s (by simp; omega) hown0 hgrow (by omega)
        have hk3 := (Below.refl (W3.heap.size + 1) _).grown hgrow (by simp; omega) (fun g hg => by
          rcases hown0.2 with ⟨e, _⟩ | ⟨g1, cap, cur, e, hg1, _⟩
          · rw [e] at hg; simp [Value.ownBlock] at hg
          · rw [e] at hg; simp [Value.ownBlock] at hg; omega)
        have HBS3 := Lib.hid ((((((HBS2.out.set 0 (.int .i64 (tstep kk (trun kk l m k) x y).run)).set 1 (.bool (tstep kk (trun kk l m k) x y).on)).set 2 (.bool (tstep kk (trun kk l m k) x y).now)).set 3 (.bool (tstep kk (trun kk l m k) x y).ok)).al (.cells #[.bool (tstep kk (trun kk l m k) x y).on, .bool (tstep kk (trun kk l m k) x y).now] 35)).keep hk3 (by omega))
        have HO3 := Lib.hid hown2
        clear hs hsf hown2 hown0 hgrow hat hk3 hb2s HBS2 HO2 hb2 
        go_wp2
        go_roundw
        case rel =>
          refine ⟨k + 1, by omega, by go_num, hb3, ?_, ?_⟩
          · rw [HE.out]; exact HBS3.out
          · rw [alarmsTo_succ, al2_app, HE.out]; exact HO3.out
        case measure => simp [intOf]; omega
      · have HY := Lib.hid (getD_ge m k (by omega))
        have hdk : decide ((k : Int) < (m.length : Int)) = false := decide_eq_false (by omega)
        have HBS := Lib.hid hbs
        have HO := Lib.hid ho
        clear hbs ho 
        have hs := HBS.out.cells
        have hsf := HBS.out.froz
        have r0 := trun_bd kk l m k hn0.1
        go_wp2_with fail
        go_still_tail 16, (by kernel_rfl)
        go_wp2_with fail
        refine (tstep_any kk (trun kk l m k) x false _ r0.1 (by omega)).mono ?_
        rintro e w2 ⟨rfl, hbw⟩
        have HBS2 := Lib.hid (HBS.out.drw.below hbw)
        have HO2 := Lib.hid (own_below HO.out.drew hbw)
        have hb2 : Below W3.heap.size W3 w2 := hb.drew.trans (hbw.mono hb.size)
        have l1 := HBS2.out.lt
        have HE := Lib.hid (show trun kk l m (k + 1) = (tstep kk (trun kk l m k) x false) by show tstep kk (trun kk l m k) (l.getD k false) (m.getD k false) = _; rw [HX.out, HY.out])
        clear hs hsf  HBS HO hbw hcx  hb
        have hs := HBS2.out.cells
        have hsf := HBS2.out.froz
        go_wp2_with (at_builtin; refine wpList_appN elA rfl (.tmp 49) (.tmp 55) rfl (W3.heap.size + 1) _ k (al2 (alarmsTo kk l m k)) rfl ?_ _ 1 (al2 [((tstep kk (trun kk l m k) x false).on, (tstep kk (trun kk l m k) x false).now)]) rfl ?_ (al2_one _) ?_ ?_ ?_ ?_)
        case refine_1 => exact (ownsRow_setCell_below (ownsRow_setCell_below (ownsRow_setCell_below (ownsRow_setCell_below HO2.out (Nat.lt_succ_self W3.heap.size) _) (Nat.lt_succ_self W3.heap.size) _) (Nat.lt_succ_self W3.heap.size) _) (Nat.lt_succ_self W3.heap.size) _).alloc _
        case refine_2 => exact RowN.of_blk (Blk.new _ _ _ _ (by simp)) rfl rfl (Nat.le_refl _) (by decide)
        case refine_3 => unfold maxLen; omega
        case refine_4 => omega
        case refine_5 => simp; omega
        intro v2 w3 hown2 hgrow hat
        have hb2s : Below W3.heap.size W3 (((((w2.setCell ⟨W3.heap.size, 0, none⟩ (.int .i64 (tstep kk (trun kk l m k) x false).run)).setCell ⟨W3.heap.size, 1, none⟩ (.bool (tstep kk (trun kk l m k) x false).on)).setCell ⟨W3.heap.size, 2, none⟩ (.bool (tstep kk (trun kk l m k) x false).now)).setCell ⟨W3.heap.size, 3, none⟩ (.bool (tstep kk (trun kk l m k) x false).ok)).alloc (.cells #[.bool (tstep kk (trun kk l m k) x false).on, .bool (tstep kk (trun kk l m k) x false).now] 35)) := by
          clear hs hsf; go_grown
        have hown0 := ((ownsRow_setCell_below (ownsRow_setCell_below (ownsRow_setCell_below (ownsRow_setCell_below HO2.out (a := ⟨W3.heap.size, 0, none⟩) (Nat.lt_succ_self W3.heap.size) (.int .i64 (tstep kk (trun kk l m k) x false).run)) (a := ⟨W3.heap.size, 1, none⟩) (Nat.lt_succ_self W3.heap.size) (.bool (tstep kk (trun kk l m k) x false).on)) (a := ⟨W3.heap.size, 2, none⟩) (Nat.lt_succ_self W3.heap.size) (.bool (tstep kk (trun kk l m k) x false).now)) (a := ⟨W3.heap.size, 3, none⟩) (Nat.lt_succ_self W3.heap.size) (.bool (tstep kk (trun kk l m k) x false).ok)).alloc (.cells #[.bool (tstep kk (trun kk l m k) x false).on, .bool (tstep kk (trun kk l m k) x false).now] 35))
        have hb3 : Below W3.heap.size W3 w3 := below_app hb2s (by simp; omega) hown0 hgrow (by omega)
        have hk3 := (Below.refl (W3.heap.size + 1) _).grown hgrow (by simp; omega) (fun g hg => by
          rcases hown0.2 with ⟨e, _⟩ | ⟨g1, cap, cur, e, hg1, _⟩
          · rw [e] at hg; simp [Value.ownBlock] at hg
          · rw [e] at hg; simp [Value.ownBlock] at hg; omega)
        have HBS3 := Lib.hid ((((((HBS2.out.set 0 (.int .i64 (tstep kk (trun kk l m k) x false).run)).set 1 (.bool (tstep kk (trun kk l m k) x false).on)).set 2 (.bool (tstep kk (trun kk l m k) x false).now)).set 3 (.bool (tstep kk (trun kk l m k) x false).ok)).al (.cells #[.bool (tstep kk (trun kk l m k) x false).on, .bool (tstep kk (trun kk l m k) x false).now] 35)).keep hk3 (by omega))
        have HO3 := Lib.hid hown2
        clear hs hsf hown2 hown0 hgrow hat hk3 hb2s HBS2 HO2 hb2 
        go_wp2
        go_roundw
        case rel =>
          refine ⟨k + 1, by omega, by go_num, hb3, ?_, ?_⟩
          · rw [HE.out]; exact HBS3.out
          · rw [alarmsTo_succ, al2_app, HE.out]; exact HO3.out
        case measure => simp [intOf]; omega
    · have : k = l.length := by omega
      subst this
      have HW0 := Lib.hid (RowN.of_own ho)
      clear ho hlt hk hbs
      have HLw := Lib.hid (HL3.out.below hb)
      have HMw := Lib.hid (HM3.out.below hb)
      have hbv := hb3.trans (hb.mono hb3.size)
      clear hb
      obtain ⟨iB, i1, i2, i3, i4⟩ := infoB
      go_wp2_with (at_builtin; refine wpList_app elB rfl (.tmp 57) (.tmp 58) rfl wr.heap.size _ 0 [] rfl (own_empty _ _ _ _ (Nat.le_refl _) rfl) _ (m.map .bool) rfl (HMw.out.below ((Below.refl _ _).alloc (Nat.le_refl _) _)) (by intro u hu; obtain ⟨b, _, rfl⟩ := List.mem_map.1 hu; rfl) ?_ ?_ ?_ ?_)
      case refine_1 => rw [List.length_map]; unfold maxLen; omega
      case refine_2 => rw [List.length_map]; omega
      case refine_3 => simp
      intro va wa owna hga _
      have hba : Below wr.heap.size wr wa := ((Below.refl _ _).alloc (Nat.le_refl _) _).grown hga (by simp) (by simp [Value.ownBlock])
      have ownb : wa.ownsRow wr.heap.size 4 1 va m.length (m.map .bool) := by simpa using owna
      clear owna hga
      go_wp2_with (at_builtin; refine wpList_zeros rfl (.tmp 59) (.tmp 61) rfl Try.underlying24 Try.underlying3 i1 i2 i3 i4 rfl rfl wr.heap.size _ _ _ rfl ownb l.length rfl ?_ ?_ ?_ ?_)
      case refine_1 => unfold maxLen; omega
      case refine_2 => omega
      case refine_3 => exact hba.size
      intro vm wm ownm hgm _
      have hbm2 : Below wr.heap.size wr wm := below_app hba hba.size ownb hgm (Nat.le_refl _)
      have HMm := Lib.hid (show Row wm vm ((m ++ List.replicate l.length false).map .bool) by rw [List.map_append, List.map_replicate]; exact Row.of_own ownm)
      have HLm := Lib.hid (HLw.out.below hbm2)
      have HM1 := Lib.hid (HMw.out.below hbm2)
      have HWm := Lib.hid (HW0.out.below hbm2)
      have hbx := hbv.trans (hbm2.mono hbv.size)
      clear ownm hgm ownb hba hbm2 HLw HMw HW0 hbv i1 i2 i3 i4 
      go_wp2_with fail
      refine (tsteps_any kk _ _ l m _ hn0.1 (by omega) HLm.out HM1.out (by omega)).mono ?_
      rintro e w5 ⟨va5, rfl, hr5, hk5⟩
      have HA5 := Lib.hid hr5
      have HM5 := Lib.hid (HMm.out.below hk5)
      have HL5 := Lib.hid (HLm.out.below hk5)
      have HW5 := Lib.hid (HWm.out.below hk5)
      have hb5 := hbx.trans (hk5.mono hbx.size)
      clear hr5 hk5 hbx HMm HLm HM1 HWm 
      go_wp2_with fail
      refine (same_any _ _ _ _ _ _ _ HA5.out HW5.out).mono ?_
      rintro e w6 ⟨rfl, hk6⟩
      rw [decide_eq_true (show alarms kk l m = alarmsTo kk l m l.length from rfl)]
      have HA6 := Lib.hid (HA5.out.below hk6)
      have HM6 := Lib.hid (HM5.out.below hk6)
      have HL6 := Lib.hid (HL5.out.below hk6)
      have hb6 := hb5.trans (hk6.mono hb5.size)
      clear hk6 hb5 HA5 HM5 HL5 HW5 
      go_wp2_with fail
      refine (tsteps_any kk _ _ l (m ++ List.replicate l.length false) _ hn0.1 (by omega) HL6.out HM6.out (by omega)).mono ?_
      rintro e w7 ⟨va7, rfl, hr7, hk7⟩
      have HA7 := Lib.hid (HA6.out.below hk7)
      have HB7 := Lib.hid hr7
      have hb7 := hb6.trans (hk7.mono hb6.size)
      clear hr7 hk7 hb6 HA6 HM6 HL6 
      go_wp2_with fail
      refine (same_any _ _ _ _ _ _ _ HA7.out HB7.out).mono ?_
      rintro e w8 ⟨rfl, hk8⟩
      rw [decide_eq_true (show alarms kk l m = alarms kk l (m ++ List.replicate l.length false) from (alarms_more kk l m l.length).symm)]
      go_wp2
      go_ret
      exact ⟨by simp, hb7.trans (hk8.mono hb7.size)⟩
end Go.Proofs.Ytaegkeafikkijaa
