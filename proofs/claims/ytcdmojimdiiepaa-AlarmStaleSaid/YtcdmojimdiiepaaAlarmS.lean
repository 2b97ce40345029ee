/- Layer 21: a silent channel is told. -/
import Derived.Test.YtcdmojimdiiepaaAlarmL
import Derived.Test.YtcdmojimdiiepaaAlarmZ
import Derived.Test.YtcdmojimdiiepaaTechMV
import Derived.StillTailTactics
import Derived.Handy
namespace Go.Proofs.Ytcdmojimdiiepaa
open Go.ChangeShapes Go.WideShapes Go.ChangeAt Go.RowKit
set_option linter.unusedVariables false
set_option linter.unusedSimpArgs false

/-- a channel's alarm, none ticks behind its last sample -/
def CI (St : Int) (M : List Wt) (k : Nat) (none : Int) : Prop := ∃ s a, M[k]? = some (.chan St k s a) ∧ rightT St s = true ∧ s.run = min none St
theorem CI.ack {St : Int} {M : List Wt} {k : Nat} {none : Int} (n : Int) (h : CI St M k none) : CI St (ackL n M) k none := by
  obtain ⟨s, a, h1, h2, h3⟩ := h
  unfold ackL
  split
  · by_cases hk : n.toNat = k
    · exact ⟨s, true, by rw [List.getElem?_modify, h1]; simp [hk, Wt.ack], h2, h3⟩
    · exact ⟨s, a, by rw [List.getElem?_modify, h1]; simp [hk], h2, h3⟩
  · exact ⟨s, a, h1, h2, h3⟩
theorem CI.next {St : Int} {M : List Wt} {k : Nat} {none : Int} (cs : List Cl) (hSt : 1 ≤ St) (h0 : 0 ≤ none) (h : CI St M k none) :
    CI St (M.map (Wt.next cs)) k (if sampB cs k then 0 else none + 1) ∧ ∃ on now, (M.map fun x => (x.next cs).al)[k]? = some (on, now) ∧ (St ≤ (if sampB cs k then 0 else none + 1) → on = true ∧ now = true) ∧ ((if sampB cs k then 0 else none + 1) < St → now = false) := by
  obtain ⟨s, a, h1, h2, h3⟩ := h
  have hr := right_step St s (sampB cs k) a hSt h2
  have hrun : (tstep St s (sampB cs k) a).run = min (if sampB cs k then 0 else none + 1) St := by
    rw [tstep_run]
    unfold lst
    cases sampB cs k
    · simp only [Bool.false_eq_true, if_false]
      rw [h3]
      split <;> simp only <;> omega
    · simp only [if_true]
      omega
  refine ⟨⟨tstep St s (sampB cs k) a, false, by rw [List.getElem?_map, h1]; rfl, hr, hrun⟩, (tstep St s (sampB cs k) a).on, (tstep St s (sampB cs k) a).now, by rw [List.getElem?_map, h1]; rfl, ?_, ?_⟩
  · intro hge
    have h4 := (rightT_iff _ _).1 hr
    have h5 : (tstep St s (sampB cs k) a).now = true := h4.2.2.1.2 (by rw [hrun]; omega)
    exact ⟨h4.2.2.2.1 h5, h5⟩
  · intro hlt
    have h4 := (rightT_iff _ _).1 hr
    cases hn : (tstep St s (sampB cs k) a).now with
    | false => rfl
    | true =>
      have := h4.2.2.1.1 hn
      rw [hrun] at this
      omega
theorem CI.new (c : Cf) (k : Nat) (hk : k < (chansOf c.rows).length) (hs : 1 ≤ c.St) : CI c.St (newM c) k 0 := by
  refine ⟨⟨0, false, false, false⟩, false, ?_, right_zero _ hs, by show (0 : Int) = min 0 c.St; omega⟩
  unfold newM
  rw [List.getElem?_map, List.getElem?_range hk]
  rfl
set_option maxRecDepth 100000 in
set_option maxHeartbeats 2000000 in
theorem walkH_AlarmStale (hd : Hd) (vc : Value) (z : Cf × List Rl) (vl : Value) (l : List Ol) (ch : Int) (w : World) (h0 : ConfV w vc z) (h1 : OpsV w vl l) (wch : (Lit.int .u8 ch).wf = true) :
    Calls Try.prog 6 #[vc, vl, .int .u8 ch] w fun e w' => e = .returned (.bool true) ∧ Below w.heap.size w w' := by
  obtain ⟨c, rs⟩ := z
  have hc0 : ConfR w vc c rs := h0
  obtain ⟨sA, sn, scap, RA, rc, rfl, hrc, _, _⟩ := hc0.shape
  have HC := Lib.hid hc0
  clear h0 hc0
  have OXV := Lib.hid h1
  obtain ⟨OXA, OXc, rfl, hOXr, hOXt⟩ := h1
  have OXR := Lib.hid hOXr
  have OXT := Lib.hid hOXt
  have hOXcap := hOXr.caps.1
  clear hOXr hOXt
  have bch := bounds_u8 wch
  clear wch
  go_enter Try.func6, Try.ntmps6
  go_wp2_with fail
  refine calls_world (fun W => Below w.heap.size w W ∧ Blk W w.heap.size 25 #[.int .i64 c.P, .int .i64 c.H, .int .i64 c.C, .int .i64 c.Mn, .int .i64 c.Mx, .int .i64 c.Rho, .int .i64 c.Bd, .int .i64 c.Win, .int .i64 c.St, .slice sA sn scap, .slice RA rs.length rc]) ⟨by go_grown, Blk.new _ _ _ _ rfl⟩ fun W1 ⟨hb1, hq1⟩ => ?_
  have HB1 := Lib.hid hb1
  have HQ1 := Lib.hid hq1
  clear hb1 hq1
  refine (hd W1).mono ?_
  rintro e W2 ⟨rfl, hk⟩
  (try clear cQ); (try clear lQ)
  have HB2 := Lib.hid (Btrans HB1.out hk)
  have HQ2 := Lib.hid (HQ1.out.below hk)
  clear hk HB1 HQ1
  have cQ := HQ2.out.cells
  have lQ := HQ2.out.lt
  go_wp2_with fail
  refine (great21_any _ c rs _ (HC.out.below HB2.out)).mono ?_
  rintro e W3 ⟨rfl, hk⟩
  obtain ⟨ga, hga⟩ : ∃ b, b = greatA c rs := ⟨_, rfl⟩
  rw [← hga]
  (try clear cQ); (try clear lQ)
  have HB3 := Lib.hid (Btrans HB2.out hk)
  have HQ3 := Lib.hid (HQ2.out.below hk)
  clear hk HB2 HQ2
  have HGA := Lib.hid hga
  clear hga
  have cQ := HQ3.out.cells
  have lQ := HQ3.out.lt
  cases ga with
  | true =>
    go_wp2
    go_ret
    exact ⟨by first | rfl | simp, HB3.out⟩
  | false =>
  go_wp2_with fail
  refine (greatO_any _ l _ (OXV.out.below HB3.out)).mono ?_
  rintro e W4 ⟨rfl, hk⟩
  obtain ⟨go0, hgo0⟩ : ∃ b, b = greatO l := ⟨_, rfl⟩
  rw [← hgo0]
  (try clear cQ); (try clear lQ)
  have HB4 := Lib.hid (Btrans HB3.out hk)
  have HQ4 := Lib.hid (HQ3.out.below hk)
  clear hk HB3 HQ3
  have HGO0 := Lib.hid hgo0
  clear hgo0
  have cQ := HQ4.out.cells
  have lQ := HQ4.out.lt
  cases go0 with
  | true =>
    go_wp2
    go_ret
    exact ⟨by first | rfl | simp, HB4.out⟩
  | false =>
  go_wp2_with fail
  have HN25 := Lib.hid (great_n HGA.out.symm)
  refine (rright21_any _ c rs _ (HC.out.below HB4.out) (Nat.le_trans HN25.out (by decide))).mono ?_
  rintro e W5 ⟨rfl, hk⟩
  obtain ⟨ri, hri⟩ : ∃ b, b = rightA c rs := ⟨_, rfl⟩
  rw [← hri]
  (try clear cQ); (try clear lQ)
  have HB5 := Lib.hid (Btrans HB4.out hk)
  have HQ5 := Lib.hid (HQ4.out.below hk)
  clear hk HB4 HQ4
  have HRI := Lib.hid hri
  clear hri
  have cQ := HQ5.out.cells
  have lQ := HQ5.out.lt
  cases ri with
  | false =>
    go_wp2
    go_ret
    exact ⟨by first | rfl | simp, HB5.out⟩
  | true =>
  have HRN := Lib.hid (right_n HRI.out.symm)
  have HOL := Lib.hid (newL_ok HRI.out.symm)
  have HOM := Lib.hid (newM_ok HRI.out.symm)
  have hr8 : rs.length ≤ 8 := HRN.out.1
  have hn25 : (chansOf c.rows).length ≤ 2500 := HN25.out
  have hn0 : 0 < (chansOf c.rows).length := HRN.out.2.2.2.1
  have hst : 1 ≤ c.St ∧ c.St ≤ 1000 := ⟨HRN.out.2.1, HRN.out.2.2.1⟩
  obtain ⟨N, HNE⟩ : ∃ N, RowKit.Hid (N = (chansOf c.rows).length) := ⟨_, Lib.hid rfl⟩
  have HOL2 := Lib.hid (show ∀ x ∈ newL rs, x.ok N by rw [HNE.out]; exact HOL.out)
  have HOM2 := Lib.hid (show ∀ x ∈ newM c, x.ok N by rw [HNE.out]; exact HOM.out)
  have HML := Lib.hid (show (newM c).length = N by rw [newM_len, HNE.out])
  have hN25 : N ≤ 2500 := by rw [HNE.out]; exact hn25
  have hN0 : 0 < N := by rw [HNE.out]; exact hn0
  clear HOL HOM hn25 hn0
  go_wp2_with fail
  refine (rmany_any _ c _ (HC.out.conf.below HB5.out) (Nat.le_trans HN25.out (by decide))).mono ?_
  rintro e W6 ⟨rfl, hk⟩
  (try clear cQ); (try clear lQ)
  have HB6 := Lib.hid (Btrans HB5.out hk)
  have HQ6 := Lib.hid (HQ5.out.below hk)
  clear hk HB5 HQ5
  have cQ := HQ6.out.cells
  have lQ := HQ6.out.lt
  rw [← HNE.out]
  obtain ⟨k, HK⟩ : ∃ k : Nat, RowKit.Hid (ch % (N : Int) = (k : Int) ∧ k < N) := ⟨(ch % (N : Int)).toNat, Lib.hid ⟨by have := Int.emod_nonneg ch (show (N : Int) ≠ 0 by omega); omega, by have := Int.emod_lt_of_pos ch (show (0 : Int) < (N : Int) by omega); have := Int.emod_nonneg ch (show (N : Int) ≠ 0 by omega); omega⟩⟩
  have hNi : ((N : Int) == 0) = false := by simp; omega
  have hNz : (N : Int) ≠ 0 := by omega
  go_wp2_with fail
  rw [HK.out.1]
  have hkN : k < N := HK.out.2
  refine (SS.new w _ _ c rs HC.out HB6.out (Nat.le_trans HN25.out (by decide)) (by omega)).mono ?_
  rintro e W7 ⟨pb, rfl, hS, hk⟩
  (try clear cQ); (try clear lQ)
  obtain ⟨lo, hi, hlo, hS, hlh, hle⟩ : ∃ lo hi, w.heap.size < lo ∧ SS w W7 lo hi pb (newL rs) (newM c) ∧ W6.heap.size = lo ∧ W7.heap.size = hi := ⟨_, _, HQ6.out.lt, hS, rfl, rfl⟩
  have HB7 := Lib.hid (Btrans HB6.out hk)
  have HQ7 := Lib.hid (HQ6.out.below hk)
  have HS7 := Lib.hid hS
  clear hS hk HB6 HQ6
  have cQ := HQ7.out.cells
  have lQ := HQ7.out.lt
  go_wp2_with fail
  have hl60 : l.length ≤ 60 := by
    have h := HGO0.out
    unfold greatO at h
    have h2 := (Bool.or_eq_false_iff.1 h.symm).1
    simpa using h2
  have HCN := Lib.hid (CI.new c k (by rw [← HNE.out]; exact hkN) hst.1)
  go_loopw [11, 12] (fun x i wr => ∃ (j : Nat) (nn : Int), j ≤ l.length ∧ x = .int .i64 nn ∧ i = .int .i64 j ∧ 0 ≤ nn ∧ nn ≤ j ∧ Below w.heap.size w wr ∧ Blk wr w.heap.size 25 #[.int .i64 c.P, .int .i64 c.H, .int .i64 c.C, .int .i64 c.Mn, .int .i64 c.Mx, .int .i64 c.Rho, .int .i64 c.Bd, .int .i64 c.Win, .int .i64 c.St, .slice sA sn scap, .slice RA rs.length rc] ∧ ∃ L M, SS w wr lo hi pb L M ∧ (∀ x ∈ L, x.ok N) ∧ (∀ x ∈ M, x.ok N) ∧ M.length = N ∧ L.length = rs.length ∧ CI c.St M k nn) (fun _ i _ => l.length - (intOf i).toNat)
  case atStart => exact ⟨0, 0, by omega, rfl, rfl, by omega, by omega, HB7.out, HQ7.out, _, _, HS7.out, HOL2.out, HOM2.out, HML.out, newL_len rs, HCN.out⟩
  case round =>
    clear cQ lQ HB7 HQ7 HS7 HCN
    obtain ⟨j, nn, hj, rfl, rfl, hn0, hnj, hb, hq, L, M, hS, hL, hM, hMl, hLl, hCI⟩ := hrel
    have HBr := Lib.hid hb
    have HQr := Lib.hid hq
    have HSr := Lib.hid hS
    have HLr := Lib.hid hL
    have HMr := Lib.hid hM
    have HMl := Lib.hid hMl
    have HLl := Lib.hid hLl
    have HCI := Lib.hid hCI
    clear hb hq hS hL hM hMl hLl hCI
    by_cases hlt : j < l.length
    · obtain ⟨o, ho⟩ : ∃ o, l[j]? = some o := ⟨_, List.getElem?_eq_getElem hlt⟩
      obtain ⟨oad, rfl, hoad, o0, o1, o2⟩ := rowO_at OXR.out ho
      have HOM_ := Lib.hid (List.mem_of_getElem? ho)
      have HOP := Lib.hid (show ∀ W, Below w.heap.size w W → W.cell? (oad.add (j * 3)) = some (.int .i64 o.R) ∧ W.cell? ⟨(oad.add (j * 3)).block, (oad.add (j * 3)).off + 1, none⟩ = some (.int .i64 o.C) ∧ W.cell? ⟨(oad.add (j * 3)).block, (oad.add (j * 3)).off + 2, none⟩ = some (.slice o.A o.cs.length o.cc) from fun W hb => ⟨by rw [hb.cell (by rw [block_add]; exact hoad)]; exact o0, by rw [hb.cell (by show (oad.add (j * 3)).block < _; rw [block_add]; exact hoad)]; exact o1, by rw [hb.cell (by show (oad.add (j * 3)).block < _; rw [block_add]; exact hoad)]; exact o2⟩)
      have HCR := Lib.hid (OXT.out o HOM_.out)
      have hjl : (j : Int) < (l.length : Int) := by omega
      clear o0 o1 o2 hoad ho
      obtain ⟨oc0, oc1, oc2⟩ := HOP.out _ HBr.out
      have cQ := HQr.out.cells
      have lQ := HQr.out.lt
      by_cases hcn : o.cs.length = N
      · have gn : decide ((o.cs.length : Int) ≠ (N : Int)) = false := decide_eq_false (by omega)
        have gn3 : ((o.cs.length : Int) != (N : Int)) = false := by simp; omega
        have gn5 : (o.cs.length != N) = false := by simp; omega
        have gn6 : ((o.cs.length : Int) == (N : Int)) = true := by simp; omega
        have gn7 : (o.cs.length == N) = true := by simp; omega
        have HCNE := Lib.hid hcn
        have hcl : o.cs.length ≤ N ∧ N ≤ o.cs.length := by omega
        clear hcn
        go_wp2_with fail
        refine (SS.ackC o.C HSr.out (by rw [HMl.out]; omega)).mono ?_
        rintro e W8 ⟨rfl, hs8, fr8⟩
        have HB8 := Lib.hid (fr8.below HBr.out (Nat.le_refl _) (Nat.le_of_lt hlo))
        have HQ8 := Lib.hid (HQr.out.fr fr8 (.inl hlo))
        have HS8 := Lib.hid hs8
        clear hs8 fr8 oc0 oc1 oc2 cQ lQ HBr HQr HSr
        obtain ⟨oc0, oc1, oc2⟩ := HOP.out _ HB8.out
        have cQ := HQ8.out.cells
        have lQ := HQ8.out.lt
        go_wp2_with fail
        refine (SS.tick o.A o.cc o.cs HS8.out (by rw [HCNE.out]; exact HLr.out) (by rw [HCNE.out]; exact ack_oks o.C HMr.out) (HCR.out.below HB8.out) (FrC.of HCR.out (by omega) (Nat.le_of_lt hlo)) (by rw [ackL_len, HMl.out]; exact HCNE.out) HB8.out (by rw [HLl.out]; omega) (by rw [ackL_len, HMl.out]; omega)).mono ?_
        rintro e W9 ⟨va, vb, rfl, ra, rb, hs9, fr9⟩
        rw [ackL_len, HMl.out] at rb
        obtain ⟨B, bc, rfl, hbc, hbm⟩ := rb.1.shape2
        have HB9 := Lib.hid (fr9.below HB8.out (Nat.le_refl _) (Nat.le_of_lt hlo))
        have HQ9 := Lib.hid (HQ8.out.fr fr9 (.inl hlo))
        have HS9 := Lib.hid hs9
        obtain ⟨HC1, on, now, HC2, HC3, HC4⟩ := (HCI.out.ack o.C).next o.cs hst.1 hn0
        obtain ⟨yad, rfl, y0, y1⟩ := rb.1.at2 k (on, now) HC2
        obtain ⟨x, hx⟩ : ∃ x, o.cs[k]? = some x := ⟨_, List.getElem?_eq_getElem (by omega)⟩
        obtain ⟨cad, hcA, hcad, e0, _, _⟩ := row3_at HCR.out hx
        have ec : W9.cell? (cad.add (k * 3)) = some (.int .i64 x.1) := by rw [HB9.out.cell (by rw [block_add]; exact hcad)]; exact e0
        have HSB := Lib.hid (show (x.1 == 1) = sampB o.cs k by unfold sampB; rw [List.getD_eq_getElem?_getD, hx]; by_cases h : x.1 = 1 <;> simp [h])
        rw [hcA] at HOP
        have HCI9 := Lib.hid HC1
        have HN3 := Lib.hid HC3
        have HN4 := Lib.hid HC4
        clear HC1 HC2 HC3 HC4 hs9 fr9 ra rb hx e0 oc0 oc1 oc2 cQ lQ HB8 HQ8 HS8 HCI
        obtain ⟨oc0, oc1, oc2⟩ := HOP.out _ HB9.out
        have cQ := HQ9.out.cells
        have lQ := HQ9.out.lt
        have hkc : (k : Int) < (o.cs.length : Int) := by omega
        have hkn : (k : Int) < (N : Int) := by omega
        have hL9 := next_oks o.cs HLr.out
        have hM9 := next_oks o.cs (ack_oks o.C HMr.out)
        have HL9 := Lib.hid hL9
        have HM9 := Lib.hid hM9
        have HMl9 := Lib.hid (show ((ackL o.C M).map (Wt.next o.cs)).length = N by rw [List.length_map, ackL_len, HMl.out])
        have HLl9 := Lib.hid (show (L.map (Wt.next o.cs)).length = rs.length by rw [List.length_map, HLl.out])
        have hxs := HSB.out
        clear hL9 hM9 HLr HMr
        obtain ⟨sb, HSE⟩ : ∃ sb, RowKit.Hid (sb = sampB o.cs k) := ⟨_, Lib.hid rfl⟩
        rw [← HSE.out] at hxs
        have HCIa := Lib.hid (show CI c.St ((ackL o.C M).map (Wt.next o.cs)) k (if sb then 0 else nn + 1) by rw [HSE.out]; exact HCI9.out)
        have HN3a := Lib.hid (show c.St ≤ (if sb then 0 else nn + 1) → on = true ∧ now = true by rw [HSE.out]; exact HN3.out)
        have HN4a := Lib.hid (show (if sb then 0 else nn + 1) < c.St → now = false by rw [HSE.out]; exact HN4.out)
        clear HCI9 HN3 HN4 HSB
        have gl : ((N : Int) != (N : Int)) = false := by simp
        cases sb with
        | true =>
          have hnow : now = false := HN4a.out (by show (0 : Int) < c.St; omega)
          subst hnow
          have g0 : decide ((0 : Int) ≥ c.St) = false := decide_eq_false (by omega)
          have g1 : decide ((0 : Int) < c.St) = true := decide_eq_true (by omega)
          go_wp2
          go_roundw
          case rel => exact ⟨j + 1, 0, by omega, rfl, by go_num, by omega, by omega, HB9.out, HQ9.out, _, _, HS9.out, HL9.out, HM9.out, HMl9.out, HLl9.out, HCIa.out⟩
          case measure => simp [intOf]; omega
        | false =>
          by_cases hge : c.St ≤ nn + 1
          · obtain ⟨rfl, rfl⟩ := HN3a.out hge
            have g0 : decide (nn + 1 ≥ c.St) = true := decide_eq_true hge
            have g1 : decide (nn + 1 < c.St) = false := decide_eq_false (by omega)
            go_wp2
            go_roundw
            case rel => exact ⟨j + 1, nn + 1, by omega, by go_num, by go_num, by omega, by omega, HB9.out, HQ9.out, _, _, HS9.out, HL9.out, HM9.out, HMl9.out, HLl9.out, HCIa.out⟩
            case measure => simp [intOf]; omega
          · have hnow : now = false := HN4a.out (by show nn + 1 < c.St; omega)
            subst hnow
            have g0 : decide (nn + 1 ≥ c.St) = false := decide_eq_false (by omega)
            have g1 : decide (nn + 1 < c.St) = true := decide_eq_true (by omega)
            go_wp2
            go_roundw
            case rel => exact ⟨j + 1, nn + 1, by omega, by go_num, by go_num, by omega, by omega, HB9.out, HQ9.out, _, _, HS9.out, HL9.out, HM9.out, HMl9.out, HLl9.out, HCIa.out⟩
            case measure => simp [intOf]; omega
      · have gn : decide ((o.cs.length : Int) ≠ (N : Int)) = true := decide_eq_true (by omega)
        have gn3 : ((o.cs.length : Int) != (N : Int)) = true := by simp; omega
        have gn5 : (o.cs.length != N) = true := by simp; omega
        have gn6 : ((o.cs.length : Int) == (N : Int)) = false := by simp; omega
        have gn7 : (o.cs.length == N) = false := by simp; omega
        go_wp2
        go_roundw
        case rel => exact ⟨j + 1, nn, by omega, rfl, by go_num, hn0, by omega, HBr.out, HQr.out, L, M, HSr.out, HLr.out, HMr.out, HMl.out, HLl.out, HCI.out⟩
        case measure => simp [intOf]; omega
    · obtain rfl : j = l.length := by omega
      have cQ := HQr.out.cells
      have lQ := HQr.out.lt
      go_wp2
      go_ret
      exact ⟨by first | rfl | simp, HBr.out⟩
theorem walk_AlarmStale (vc : Value) (z : Cf × List Rl) (vl : Value) (l : List Ol) (ch : Int) (w : World) (h0 : ConfV w vc z) (h1 : OpsV w vl l) (wch : (Lit.int .u8 ch).wf = true) :
    Calls Try.prog 6 #[vc, vl, .int .u8 ch] w fun e w' => e = .returned (.bool true) ∧ Below w.heap.size w w' := walkH_AlarmStale head_any vc z vl l ch w h0 h1 wch
end Go.Proofs.Ytcdmojimdiiepaa
