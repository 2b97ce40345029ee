/- Layer 21: what there is not alters nothing. -/
import Derived.Test.YtcdmojimdiiepaaAlarmL
import Derived.Test.YtcdmojimdiiepaaAlarmZ
import Derived.StillTailTactics
import Derived.Handy
namespace Go.Proofs.Ytcdmojimdiiepaa
open Go.ChangeShapes Go.WideShapes Go.ChangeAt Go.RowKit
set_option linter.unusedVariables false
set_option linter.unusedSimpArgs false

theorem ackL_no {n : Int} {L : List Wt} (h : ¬ (0 ≤ n ∧ n < (L.length : Int))) : ackL n L = L := if_neg h
set_option maxRecDepth 100000 in
set_option maxHeartbeats 16000000 in
theorem walkH_AlarmRefused (hd : Hd) (vc : Value) (z : Cf × List Rl) (vl : Value) (l : List Ol) (r ch : Int) (vo : Value) (od : List Cl) (w : World) (h0 : ConfV w vc z) (h1 : OpsV w vl l) (w2 : (Lit.int .i64 r).wf = true) (w3 : (Lit.int .i64 ch).wf = true) (h4 : CellsV w vo od) :
    Calls Try.prog 8 #[vc, vl, .int .i64 r, .int .i64 ch, vo] w fun e w' => e = .returned (.bool true) ∧ Below w.heap.size w w' := by
  obtain ⟨c, rs⟩ := z
  have hc0 : ConfR w vc c rs := h0
  obtain ⟨sA, sn, scap, RA, rc, rfl, hrc, _, _⟩ := hc0.shape
  have HC := Lib.hid hc0
  clear h0 hc0
  have OXV := Lib.hid h1
  obtain ⟨OXA, OXc, rfl, hOXr, hOXt⟩ := h1
  have OXR := Lib.hid hOXr
  have OXT := Lib.hid hOXt
  have hOXcap := hOXr.caps.1
  clear hOXr hOXt
  clear w2 w3
  obtain ⟨DA, dc, rfl, hod⟩ := h4
  have HOD := Lib.hid hod
  clear hod
  go_enter Try.func8, Try.ntmps8
  go_wp2_with fail
  refine calls_world (fun W => Below w.heap.size w W ∧ Blk W w.heap.size 25 #[.int .i64 c.P, .int .i64 c.H, .int .i64 c.C, .int .i64 c.Mn, .int .i64 c.Mx, .int .i64 c.Rho, .int .i64 c.Bd, .int .i64 c.Win, .int .i64 c.St, .slice sA sn scap, .slice RA rs.length rc]) ⟨by go_grown, Blk.new _ _ _ _ rfl⟩ fun W1 ⟨hb1, hq1⟩ => ?_
  have HB1 := Lib.hid hb1
  have HQ1 := Lib.hid hq1
  clear hb1 hq1
  refine (hd W1).mono ?_
  rintro e W2 ⟨rfl, hk⟩
  (try clear cQ); (try clear lQ)
  have HB2 := Lib.hid (Btrans HB1.out hk)
  have HQ2 := Lib.hid (HQ1.out.below hk)
  clear hk HB1 HQ1
  have cQ := HQ2.out.cells
  have lQ := HQ2.out.lt
  go_wp2_with fail
  refine (great21_any _ c rs _ (HC.out.below HB2.out)).mono ?_
  rintro e W3 ⟨rfl, hk⟩
  obtain ⟨ga, hga⟩ : ∃ b, b = greatA c rs := ⟨_, rfl⟩
  rw [← hga]
  (try clear cQ); (try clear lQ)
  have HB3 := Lib.hid (Btrans HB2.out hk)
  have HQ3 := Lib.hid (HQ2.out.below hk)
  clear hk HB2 HQ2
  have HGA := Lib.hid hga
  clear hga
  have cQ := HQ3.out.cells
  have lQ := HQ3.out.lt
  cases ga with
  | true =>
    go_wp2
    go_ret
    exact ⟨by first | rfl | simp, HB3.out⟩
  | false =>
  go_wp2_with fail
  refine (greatO_any _ l _ (OXV.out.below HB3.out)).mono ?_
  rintro e W4 ⟨rfl, hk⟩
  obtain ⟨go0, hgo0⟩ : ∃ b, b = greatO l := ⟨_, rfl⟩
  rw [← hgo0]
  (try clear cQ); (try clear lQ)
  have HB4 := Lib.hid (Btrans HB3.out hk)
  have HQ4 := Lib.hid (HQ3.out.below hk)
  clear hk HB3 HQ3
  have HGO0 := Lib.hid hgo0
  clear hgo0
  have cQ := HQ4.out.cells
  have lQ := HQ4.out.lt
  cases go0 with
  | true =>
    go_wp2
    go_ret
    exact ⟨by first | rfl | simp, HB4.out⟩
  | false =>
  go_wp2_with fail
  have HN25 := Lib.hid (great_n HGA.out.symm)
  refine (rright21_any _ c rs _ (HC.out.below HB4.out) (Nat.le_trans HN25.out (by decide))).mono ?_
  rintro e W5 ⟨rfl, hk⟩
  obtain ⟨ri, hri⟩ : ∃ b, b = rightA c rs := ⟨_, rfl⟩
  rw [← hri]
  (try clear cQ); (try clear lQ)
  have HB5 := Lib.hid (Btrans HB4.out hk)
  have HQ5 := Lib.hid (HQ4.out.below hk)
  clear hk HB4 HQ4
  have HRI := Lib.hid hri
  clear hri
  have cQ := HQ5.out.cells
  have lQ := HQ5.out.lt
  cases ri with
  | false =>
    go_wp2
    go_ret
    exact ⟨by first | rfl | simp, HB5.out⟩
  | true =>
  have HRN := Lib.hid (right_n HRI.out.symm)
  have HOL := Lib.hid (newL_ok HRI.out.symm)
  have HOM := Lib.hid (newM_ok HRI.out.symm)
  have hr8 : rs.length ≤ 8 := HRN.out.1
  have hn25 : (chansOf c.rows).length ≤ 2500 := HN25.out
  have hn0 : 0 < (chansOf c.rows).length := HRN.out.2.2.2.1
  have hst : 1 ≤ c.St ∧ c.St ≤ 1000 := ⟨HRN.out.2.1, HRN.out.2.2.1⟩
  obtain ⟨N, HNE⟩ : ∃ N, RowKit.Hid (N = (chansOf c.rows).length) := ⟨_, Lib.hid rfl⟩
  have HOL2 := Lib.hid (show ∀ x ∈ newL rs, x.ok N by rw [HNE.out]; exact HOL.out)
  have HOM2 := Lib.hid (show ∀ x ∈ newM c, x.ok N by rw [HNE.out]; exact HOM.out)
  have HML := Lib.hid (show (newM c).length = N by rw [newM_len, HNE.out])
  have hN25 : N ≤ 2500 := by rw [HNE.out]; exact hn25
  have hN0 : 0 < N := by rw [HNE.out]; exact hn0
  clear HOL HOM hn25 hn0
  by_cases hd40 : od.length > 40
  · have gd : decide ((od.length : Int) > 40) = true := decide_eq_true (by omega)
    go_wp2
    go_ret
    exact ⟨by first | rfl | simp, HB5.out⟩
  have gd : decide ((od.length : Int) > 40) = false := decide_eq_false (by omega)
  go_wp2_with fail
  refine (rmany_any _ c _ (HC.out.conf.below HB5.out) (Nat.le_trans HN25.out (by decide))).mono ?_
  rintro e W6 ⟨rfl, hk⟩
  (try clear cQ); (try clear lQ)
  have HB6 := Lib.hid (Btrans HB5.out hk)
  have HQ6 := Lib.hid (HQ5.out.below hk)
  clear hk HB5 HQ5
  have cQ := HQ6.out.cells
  have lQ := HQ6.out.lt
  rw [← HNE.out]
  go_wp2_with fail
  refine (SS.new w _ _ c rs HC.out HB6.out (Nat.le_trans HN25.out (by decide)) (by omega)).mono ?_
  rintro e W7 ⟨pb, rfl, hS, hk⟩
  (try clear cQ); (try clear lQ)
  obtain ⟨lo, hi, hlo, hS, hlh, hle⟩ : ∃ lo hi, w.heap.size < lo ∧ SS w W7 lo hi pb (newL rs) (newM c) ∧ W6.heap.size = lo ∧ W7.heap.size = hi := ⟨_, _, HQ6.out.lt, hS, rfl, rfl⟩
  have HB7 := Lib.hid (Btrans HB6.out hk)
  have HQ7 := Lib.hid (HQ6.out.below hk)
  have HS7 := Lib.hid hS
  clear hS hk HB6 HQ6
  have cQ := HQ7.out.cells
  have lQ := HQ7.out.lt
  go_wp2_with fail
  refine (SS.new w _ _ c rs HC.out HB7.out (Nat.le_trans HN25.out (by decide)) (by omega)).mono ?_
  rintro e W8 ⟨pb2, rfl, hS, hk⟩
  (try clear cQ); (try clear lQ)
  obtain ⟨lo2, hi2, hlo2, hS2, hlh2, hle2⟩ : ∃ lo hi, w.heap.size < lo ∧ SS w W8 lo hi pb2 (newL rs) (newM c) ∧ W7.heap.size = lo ∧ W8.heap.size = hi := ⟨_, _, HQ7.out.lt, hS, rfl, rfl⟩
  have HB8 := Lib.hid (Btrans HB7.out hk)
  have HQ8 := Lib.hid (HQ7.out.below hk)
  have HS8 := Lib.hid (HS7.out.below hk)
  have HS28 := Lib.hid hS2
  clear hS hS2 hk HB7 HQ7 HS7
  have cQ := HQ8.out.cells
  have lQ := HQ8.out.lt
  go_wp2_with fail
  have hdis : hi ≤ lo2 := by rw [← hlh2, ← hle]; exact Nat.le_refl _
  clear hlh hle hlh2 hle2
  have hl60 : l.length ≤ 60 := by
    have h := HGO0.out
    unfold greatO at h
    have h2 := (Bool.or_eq_false_iff.1 h.symm).1
    simpa using h2
  go_loopw [15] (fun i wr => ∃ j : Nat, j ≤ l.length ∧ i = .int .i64 j ∧ Below w.heap.size w wr ∧ Blk wr w.heap.size 25 #[.int .i64 c.P, .int .i64 c.H, .int .i64 c.C, .int .i64 c.Mn, .int .i64 c.Mx, .int .i64 c.Rho, .int .i64 c.Bd, .int .i64 c.Win, .int .i64 c.St, .slice sA sn scap, .slice RA rs.length rc] ∧ ∃ L M, SS w wr lo hi pb L M ∧ SS w wr lo2 hi2 pb2 L M ∧ (∀ x ∈ L, x.ok N) ∧ (∀ x ∈ M, x.ok N) ∧ M.length = N ∧ L.length = rs.length) (fun i _ => l.length - (intOf i).toNat)
  case atStart => exact ⟨0, by omega, rfl, HB8.out, HQ8.out, _, _, HS8.out, HS28.out, HOL2.out, HOM2.out, HML.out, newL_len rs⟩
  case round =>
    clear cQ lQ HB8 HQ8 HS8 HS28
    obtain ⟨j, hj, rfl, hb, hq, L, M, hS, hS2, hL, hM, hMl, hLl⟩ := hrel
    have HB20 := Lib.hid hb
    have HQ20 := Lib.hid hq
    have Sa20 := Lib.hid hS
    have Sb20 := Lib.hid hS2
    have HLr := Lib.hid hL
    have HMr := Lib.hid hM
    have HMl := Lib.hid hMl
    have HLl := Lib.hid hLl
    clear hb hq hS hS2 hL hM hMl hLl
    by_cases hlt : j < l.length
    · obtain ⟨o, ho⟩ : ∃ o, l[j]? = some o := ⟨_, List.getElem?_eq_getElem hlt⟩
      obtain ⟨oad, rfl, hoad, o0, o1, o2⟩ := rowO_at OXR.out ho
      have HOM_ := Lib.hid (List.mem_of_getElem? ho)
      have HOP := Lib.hid (show ∀ W, Below w.heap.size w W → W.cell? (oad.add (j * 3)) = some (.int .i64 o.R) ∧ W.cell? ⟨(oad.add (j * 3)).block, (oad.add (j * 3)).off + 1, none⟩ = some (.int .i64 o.C) ∧ W.cell? ⟨(oad.add (j * 3)).block, (oad.add (j * 3)).off + 2, none⟩ = some (.slice o.A o.cs.length o.cc) from fun W hb => ⟨by rw [hb.cell (by rw [block_add]; exact hoad)]; exact o0, by rw [hb.cell (by show (oad.add (j * 3)).block < _; rw [block_add]; exact hoad)]; exact o1, by rw [hb.cell (by show (oad.add (j * 3)).block < _; rw [block_add]; exact hoad)]; exact o2⟩)
      have HCR := Lib.hid (OXT.out o HOM_.out)
      have hjl : (j : Int) < (l.length : Int) := by omega
      clear o0 o1 o2 hoad ho
      obtain ⟨oc0, oc1, oc2⟩ := HOP.out _ HB20.out
      have cQ := HQ20.out.cells
      have lQ := HQ20.out.lt
      by_cases hcn : o.cs.length = N
      · have gn : decide ((o.cs.length : Int) ≠ (N : Int)) = false := decide_eq_false (by omega)
        have gn3 : ((o.cs.length : Int) != (N : Int)) = false := by simp; omega
        have gn5 : (o.cs.length != N) = false := by simp; omega
        have gn6 : ((o.cs.length : Int) == (N : Int)) = true := by simp; omega
        have gn7 : (o.cs.length == N) = true := by simp; omega
        have HCNE := Lib.hid hcn
        have hcl : o.cs.length ≤ N ∧ N ≤ o.cs.length := by omega
        clear hcn
        by_cases hr1 : r < 0
        · have gr1 : decide (r < 0) = true := decide_eq_true hr1
          have HAR := Lib.hid (show ackL r L = L from ackL_no (by rw [HLl.out]; omega))
          go_wp2_with fail
          refine (SS.ackR r Sa20.out (by rw [HLl.out]; omega)).mono ?_
          rintro e W21 ⟨rfl, hs, fr⟩
          (try clear cQ); (try clear lQ); (try clear oc0); (try clear oc1); (try clear oc2)
          have HB21 := Lib.hid (fr.below HB20.out (Nat.le_refl _) (Nat.le_of_lt hlo))
          have HQ21 := Lib.hid (HQ20.out.fr fr (.inl hlo))
          have Sb21 := Lib.hid (Sb20.out.fr fr (.inl hdis))
          clear HB20 HQ20 Sb20
          have Sa21 := Lib.hid hs
          clear hs fr Sa20
          obtain ⟨oc0, oc1, oc2⟩ := HOP.out _ HB21.out
          have cQ := HQ21.out.cells
          have lQ := HQ21.out.lt
          rw [show decide (0 ≤ r ∧ r < (L.length : Int)) = false from decide_eq_false (by rw [HLl.out]; omega)]
          have Sa21' := Lib.hid (show SS w W21 lo hi pb L M by have := Sa21.out; rw [HAR.out] at this; exact this)
          clear Sa21
          have Sa21 := Lib.hid Sa21'.out
          clear Sa21'
          by_cases hc1 : ch < 0
          · have gc1 : decide (ch < 0) = true := decide_eq_true hc1
            have HAC := Lib.hid (show ackL ch M = M from ackL_no (by omega))
            go_wp2_with fail
            refine (SS.ackC ch Sa21.out (by rw [HMl.out]; omega)).mono ?_
            rintro e W22 ⟨rfl, hs, fr⟩
            (try clear cQ); (try clear lQ); (try clear oc0); (try clear oc1); (try clear oc2)
            have HB22 := Lib.hid (fr.below HB21.out (Nat.le_refl _) (Nat.le_of_lt hlo))
            have HQ22 := Lib.hid (HQ21.out.fr fr (.inl hlo))
            have Sb22 := Lib.hid (Sb21.out.fr fr (.inl hdis))
            clear HB21 HQ21 Sb21
            have Sa22 := Lib.hid hs
            clear hs fr Sa21
            obtain ⟨oc0, oc1, oc2⟩ := HOP.out _ HB22.out
            have cQ := HQ22.out.cells
            have lQ := HQ22.out.lt
            rw [show decide (0 ≤ ch ∧ ch < (M.length : Int)) = false from decide_eq_false (by omega)]
            have Sa22' := Lib.hid (show SS w W22 lo hi pb L M by have := Sa22.out; rw [HAC.out] at this; exact this)
            clear Sa22
            have Sa22 := Lib.hid Sa22'.out
            clear Sa22'
            go_wp2_with fail
            refine (SS.ackR o.R Sa22.out (by rw [HLl.out]; omega)).mono ?_
            rintro e W23 ⟨rfl, hs, fr⟩
            (try clear cQ); (try clear lQ); (try clear oc0); (try clear oc1); (try clear oc2)
            have HB23 := Lib.hid (fr.below HB22.out (Nat.le_refl _) (Nat.le_of_lt hlo))
            have HQ23 := Lib.hid (HQ22.out.fr fr (.inl hlo))
            have Sb23 := Lib.hid (Sb22.out.fr fr (.inl hdis))
            clear HB22 HQ22 Sb22
            have Sa23 := Lib.hid hs
            clear hs fr Sa22
            obtain ⟨oc0, oc1, oc2⟩ := HOP.out _ HB23.out
            have cQ := HQ23.out.cells
            have lQ := HQ23.out.lt
            go_wp2_with fail
            refine (SS.ackR o.R Sb23.out (by rw [HLl.out]; omega)).mono ?_
            rintro e W24 ⟨rfl, hs, fr⟩
            (try clear cQ); (try clear lQ); (try clear oc0); (try clear oc1); (try clear oc2)
            have HB24 := Lib.hid (fr.below HB23.out (Nat.le_refl _) (Nat.le_of_lt hlo2))
            have HQ24 := Lib.hid (HQ23.out.fr fr (.inl hlo2))
            have Sa24 := Lib.hid (Sa23.out.fr fr (.inr hdis))
            clear HB23 HQ23 Sa23
            have Sb24 := Lib.hid hs
            clear hs fr Sb23
            obtain ⟨oc0, oc1, oc2⟩ := HOP.out _ HB24.out
            have cQ := HQ24.out.cells
            have lQ := HQ24.out.lt
            by_cases hod : od.length = N
            · have HODE := Lib.hid hod
              have gq3 : ((od.length : Int) != (N : Int)) = false := by simp; omega
              have gq5 : (od.length != N) = false := by simp; omega
              have gq6 : ((od.length : Int) == (N : Int)) = true := by simp; omega
              have gq7 : (od.length == N) = true := by simp; omega
              have gq8 : decide ((od.length : Int) ≠ (N : Int)) = false := decide_eq_false (by omega)
              clear hod
              go_wp2_with fail
              have hz24 := Sb24.out.top.1
              refine (SS.tick o.A o.cc o.cs Sa24.out (by rw [HCNE.out]; exact (ack_oks o.R HLr.out)) (by rw [HCNE.out]; exact HMr.out) (HCR.out.below HB24.out) (FrC.of HCR.out (by omega) (Nat.le_of_lt hlo)) (by rw [HMl.out]; exact HCNE.out) HB24.out (by rw [ackL_len, HLl.out]; omega) (by rw [HMl.out]; omega)).mono ?_
              rintro e W25 ⟨va, vb, rfl, ra, rb, hs, fr⟩
              (try clear cQ); (try clear lQ); (try clear oc0); (try clear oc1); (try clear oc2)
              have HB25 := Lib.hid (fr.below HB24.out (Nat.le_refl _) (Nat.le_of_lt hlo))
              have HQ25 := Lib.hid (HQ24.out.fr fr (.inl hlo))
              have Sb25 := Lib.hid (Sb24.out.fr fr (.inl hdis))
              clear HB24 HQ24 Sb24
              have Sa25 := Lib.hid hs
              clear hs fr Sa24
              have RA25 := Lib.hid ra
              have RB25 := Lib.hid rb
              clear ra rb
              obtain ⟨oc0, oc1, oc2⟩ := HOP.out _ HB25.out
              have cQ := HQ25.out.cells
              have lQ := HQ25.out.lt
              go_wp2_with fail
              refine (SS.tick o.A o.cc o.cs Sb25.out (by rw [HCNE.out]; exact (ack_oks o.R HLr.out)) (by rw [HCNE.out]; exact HMr.out) (HCR.out.below HB25.out) (FrC.of HCR.out (by omega) (Nat.le_of_lt hlo2)) (by rw [HMl.out]; exact HCNE.out) HB25.out (by rw [ackL_len, HLl.out]; omega) (by rw [HMl.out]; omega)).mono ?_
              rintro e W26 ⟨ua, ub, rfl, ra, rb, hs, fr⟩
              (try clear cQ); (try clear lQ); (try clear oc0); (try clear oc1); (try clear oc2)
              have HB26 := Lib.hid (fr.below HB25.out (Nat.le_refl _) (Nat.le_of_lt hlo2))
              have HQ26 := Lib.hid (HQ25.out.fr fr (.inl hlo2))
              have Sa26 := Lib.hid (Sa25.out.fr fr (.inr hdis))
              have RA26 := Lib.hid (RA25.out.fr fr hz24)
              have RB26 := Lib.hid (RB25.out.fr fr hz24)
              clear HB25 HQ25 Sa25 RA25 RB25
              have Sb26 := Lib.hid hs
              clear hs fr Sb25
              have UA26 := Lib.hid ra
              have UB26 := Lib.hid rb
              clear ra rb
              obtain ⟨oc0, oc1, oc2⟩ := HOP.out _ HB26.out
              have cQ := HQ26.out.cells
              have lQ := HQ26.out.lt
              go_wp2_with fail
              refine (same_any _ _ _ _ _ _ _ RA26.out.1 UA26.out.1).mono ?_
              rintro e W27 ⟨rfl, hk⟩
              (try clear cQ); (try clear lQ); (try clear oc0); (try clear oc1); (try clear oc2)
              have HB27 := Lib.hid (Btrans HB26.out hk)
              have HQ27 := Lib.hid (HQ26.out.below hk)
              have Sa27 := Lib.hid (Sa26.out.below hk)
              have Sb27 := Lib.hid (Sb26.out.below hk)
              have RA27 := Lib.hid (RA26.out.fr (Fr.of_below (lo := 0) (hi := 0) hk) (Nat.zero_le _))
              have RB27 := Lib.hid (RB26.out.fr (Fr.of_below (lo := 0) (hi := 0) hk) (Nat.zero_le _))
              have UA27 := Lib.hid (UA26.out.fr (Fr.of_below (lo := 0) (hi := 0) hk) (Nat.zero_le _))
              have UB27 := Lib.hid (UB26.out.fr (Fr.of_below (lo := 0) (hi := 0) hk) (Nat.zero_le _))
              clear HB26 HQ26 Sa26 Sb26 RA26 RB26 UA26 UB26
              clear hk
              rw [decide_eq_true rfl]
              obtain ⟨oc0, oc1, oc2⟩ := HOP.out _ HB27.out
              have cQ := HQ27.out.cells
              have lQ := HQ27.out.lt
              go_wp2_with fail
              refine (same_any _ _ _ _ _ _ _ RB27.out.1 UB27.out.1).mono ?_
              rintro e W28 ⟨rfl, hk⟩
              (try clear cQ); (try clear lQ); (try clear oc0); (try clear oc1); (try clear oc2)
              have HB28 := Lib.hid (Btrans HB27.out hk)
              have HQ28 := Lib.hid (HQ27.out.below hk)
              have Sa28 := Lib.hid (Sa27.out.below hk)
              have Sb28 := Lib.hid (Sb27.out.below hk)
              have RB28 := Lib.hid (RB27.out.fr (Fr.of_below (lo := 0) (hi := 0) hk) (Nat.zero_le _))
              have UB28 := Lib.hid (UB27.out.fr (Fr.of_below (lo := 0) (hi := 0) hk) (Nat.zero_le _))
              clear HB27 HQ27 Sa27 Sb27 RB27 UB27
              clear hk
              rw [decide_eq_true rfl]
              obtain ⟨oc0, oc1, oc2⟩ := HOP.out _ HB28.out
              have cQ := HQ28.out.cells
              have lQ := HQ28.out.lt
              go_wp2
              go_roundw
              case rel => exact ⟨j + 1, by omega, by go_num, HB28.out, HQ28.out, _, _, Sa28.out, Sb28.out, next_oks _ (ack_oks o.R HLr.out), next_oks _ HMr.out, by rw [List.length_map, HMl.out], by rw [List.length_map, ackL_len, HLl.out]⟩
              case measure => simp [intOf]; omega
            · have gq3 : ((od.length : Int) != (N : Int)) = true := by simp; omega
              have gq5 : (od.length != N) = true := by simp; omega
              have gq6 : ((od.length : Int) == (N : Int)) = false := by simp; omega
              have gq7 : (od.length == N) = false := by simp; omega
              have gq8 : decide ((od.length : Int) ≠ (N : Int)) = true := decide_eq_true (by omega)
              go_wp2_with fail
              refine (SS.tick_no DA dc od Sa24.out (by rw [HMl.out]; exact hod)).mono ?_
              rintro e W25 ⟨rfl, hk⟩
              (try clear cQ); (try clear lQ); (try clear oc0); (try clear oc1); (try clear oc2)
              have HB25 := Lib.hid (Btrans HB24.out hk)
              have HQ25 := Lib.hid (HQ24.out.below hk)
              have Sa25 := Lib.hid (Sa24.out.below hk)
              have Sb25 := Lib.hid (Sb24.out.below hk)
              clear HB24 HQ24 Sa24 Sb24
              clear hk
              obtain ⟨oc0, oc1, oc2⟩ := HOP.out _ HB25.out
              have cQ := HQ25.out.cells
              have lQ := HQ25.out.lt
              go_wp2_with fail
              have hz25 := Sb25.out.top.1
              refine (SS.tick o.A o.cc o.cs Sa25.out (by rw [HCNE.out]; exact (ack_oks o.R HLr.out)) (by rw [HCNE.out]; exact HMr.out) (HCR.out.below HB25.out) (FrC.of HCR.out (by omega) (Nat.le_of_lt hlo)) (by rw [HMl.out]; exact HCNE.out) HB25.out (by rw [ackL_len, HLl.out]; omega) (by rw [HMl.out]; omega)).mono ?_
              rintro e W26 ⟨va, vb, rfl, ra, rb, hs, fr⟩
              (try clear cQ); (try clear lQ); (try clear oc0); (try clear oc1); (try clear oc2)
              have HB26 := Lib.hid (fr.below HB25.out (Nat.le_refl _) (Nat.le_of_lt hlo))
              have HQ26 := Lib.hid (HQ25.out.fr fr (.inl hlo))
              have Sb26 := Lib.hid (Sb25.out.fr fr (.inl hdis))
              clear HB25 HQ25 Sb25
              have Sa26 := Lib.hid hs
              clear hs fr Sa25
              have RA26 := Lib.hid ra
              have RB26 := Lib.hid rb
              clear ra rb
              obtain ⟨oc0, oc1, oc2⟩ := HOP.out _ HB26.out
              have cQ := HQ26.out.cells
              have lQ := HQ26.out.lt
              go_wp2_with fail
              refine (SS.tick o.A o.cc o.cs Sb26.out (by rw [HCNE.out]; exact (ack_oks o.R HLr.out)) (by rw [HCNE.out]; exact HMr.out) (HCR.out.below HB26.out) (FrC.of HCR.out (by omega) (Nat.le_of_lt hlo2)) (by rw [HMl.out]; exact HCNE.out) HB26.out (by rw [ackL_len, HLl.out]; omega) (by rw [HMl.out]; omega)).mono ?_
              rintro e W27 ⟨ua, ub, rfl, ra, rb, hs, fr⟩
              (try clear cQ); (try clear lQ); (try clear oc0); (try clear oc1); (try clear oc2)
              have HB27 := Lib.hid (fr.below HB26.out (Nat.le_refl _) (Nat.le_of_lt hlo2))
              have HQ27 := Lib.hid (HQ26.out.fr fr (.inl hlo2))
              have Sa27 := Lib.hid (Sa26.out.fr fr (.inr hdis))
              have RA27 := Lib.hid (RA26.out.fr fr hz25)
              have RB27 := Lib.hid (RB26.out.fr fr hz25)
              clear HB26 HQ26 Sa26 RA26 RB26
              have Sb27 := Lib.hid hs
              clear hs fr Sb26
              have UA27 := Lib.hid ra
              have UB27 := Lib.hid rb
              clear ra rb
              obtain ⟨oc0, oc1, oc2⟩ := HOP.out _ HB27.out
              have cQ := HQ27.out.cells
              have lQ := HQ27.out.lt
              go_wp2_with fail
              refine (same_any _ _ _ _ _ _ _ RA27.out.1 UA27.out.1).mono ?_
              rintro e W28 ⟨rfl, hk⟩
              (try clear cQ); (try clear lQ); (try clear oc0); (try clear oc1); (try clear oc2)
              have HB28 := Lib.hid (Btrans HB27.out hk)
              have HQ28 := Lib.hid (HQ27.out.below hk)
              have Sa28 := Lib.hid (Sa27.out.below hk)
              have Sb28 := Lib.hid (Sb27.out.below hk)
              have RA28 := Lib.hid (RA27.out.fr (Fr.of_below (lo := 0) (hi := 0) hk) (Nat.zero_le _))
              have RB28 := Lib.hid (RB27.out.fr (Fr.of_below (lo := 0) (hi := 0) hk) (Nat.zero_le _))
              have UA28 := Lib.hid (UA27.out.fr (Fr.of_below (lo := 0) (hi := 0) hk) (Nat.zero_le _))
              have UB28 := Lib.hid (UB27.out.fr (Fr.of_below (lo := 0) (hi := 0) hk) (Nat.zero_le _))
              clear HB27 HQ27 Sa27 Sb27 RA27 RB27 UA27 UB27
              clear hk
              rw [decide_eq_true rfl]
              obtain ⟨oc0, oc1, oc2⟩ := HOP.out _ HB28.out
              have cQ := HQ28.out.cells
              have lQ := HQ28.out.lt
              go_wp2_with fail
              refine (same_any _ _ _ _ _ _ _ RB28.out.1 UB28.out.1).mono ?_
              rintro e W29 ⟨rfl, hk⟩
              (try clear cQ); (try clear lQ); (try clear oc0); (try clear oc1); (try clear oc2)
              have HB29 := Lib.hid (Btrans HB28.out hk)
              have HQ29 := Lib.hid (HQ28.out.below hk)
              have Sa29 := Lib.hid (Sa28.out.below hk)
              have Sb29 := Lib.hid (Sb28.out.below hk)
              have RB29 := Lib.hid (RB28.out.fr (Fr.of_below (lo := 0) (hi := 0) hk) (Nat.zero_le _))
              have UB29 := Lib.hid (UB28.out.fr (Fr.of_below (lo := 0) (hi := 0) hk) (Nat.zero_le _))
              clear HB28 HQ28 Sa28 Sb28 RB28 UB28
              clear hk
              rw [decide_eq_true rfl]
              obtain ⟨oc0, oc1, oc2⟩ := HOP.out _ HB29.out
              have cQ := HQ29.out.cells
              have lQ := HQ29.out.lt
              go_wp2
              go_roundw
              case rel => exact ⟨j + 1, by omega, by go_num, HB29.out, HQ29.out, _, _, Sa29.out, Sb29.out, next_oks _ (ack_oks o.R HLr.out), next_oks _ HMr.out, by rw [List.length_map, HMl.out], by rw [List.length_map, ackL_len, HLl.out]⟩
              case measure => simp [intOf]; omega
          have gc1 : decide (ch < 0) = false := decide_eq_false hc1
          by_cases hc2 : ch ≥ (N : Int)
          · have gc2 : decide (ch ≥ (N : Int)) = true := decide_eq_true hc2
            have HAC := Lib.hid (show ackL ch M = M from ackL_no (by rw [HMl.out]; omega))
            go_wp2_with fail
            refine (SS.ackC ch Sa21.out (by rw [HMl.out]; omega)).mono ?_
            rintro e W22 ⟨rfl, hs, fr⟩
            (try clear cQ); (try clear lQ); (try clear oc0); (try clear oc1); (try clear oc2)
            have HB22 := Lib.hid (fr.below HB21.out (Nat.le_refl _) (Nat.le_of_lt hlo))
            have HQ22 := Lib.hid (HQ21.out.fr fr (.inl hlo))
            have Sb22 := Lib.hid (Sb21.out.fr fr (.inl hdis))
            clear HB21 HQ21 Sb21
            have Sa22 := Lib.hid hs
            clear hs fr Sa21
            obtain ⟨oc0, oc1, oc2⟩ := HOP.out _ HB22.out
            have cQ := HQ22.out.cells
            have lQ := HQ22.out.lt
            rw [show decide (0 ≤ ch ∧ ch < (M.length : Int)) = false from decide_eq_false (by rw [HMl.out]; omega)]
            have Sa22' := Lib.hid (show SS w W22 lo hi pb L M by have := Sa22.out; rw [HAC.out] at this; exact this)
            clear Sa22
            have Sa22 := Lib.hid Sa22'.out
            clear Sa22'
            go_wp2_with fail
            refine (SS.ackR o.R Sa22.out (by rw [HLl.out]; omega)).mono ?_
            rintro e W23 ⟨rfl, hs, fr⟩
            (try clear cQ); (try clear lQ); (try clear oc0); (try clear oc1); (try clear oc2)
            have HB23 := Lib.hid (fr.below HB22.out (Nat.le_refl _) (Nat.le_of_lt hlo))
            have HQ23 := Lib.hid (HQ22.out.fr fr (.inl hlo))
            have Sb23 := Lib.hid (Sb22.out.fr fr (.inl hdis))
            clear HB22 HQ22 Sb22
            have Sa23 := Lib.hid hs
            clear hs fr Sa22
            obtain ⟨oc0, oc1, oc2⟩ := HOP.out _ HB23.out
            have cQ := HQ23.out.cells
            have lQ := HQ23.out.lt
            go_wp2_with fail
            refine (SS.ackR o.R Sb23.out (by rw [HLl.out]; omega)).mono ?_
            rintro e W24 ⟨rfl, hs, fr⟩
            (try clear cQ); (try clear lQ); (try clear oc0); (try clear oc1); (try clear oc2)
            have HB24 := Lib.hid (fr.below HB23.out (Nat.le_refl _) (Nat.le_of_lt hlo2))
            have HQ24 := Lib.hid (HQ23.out.fr fr (.inl hlo2))
            have Sa24 := Lib.hid (Sa23.out.fr fr (.inr hdis))
            clear HB23 HQ23 Sa23
            have Sb24 := Lib.hid hs
            clear hs fr Sb23
            obtain ⟨oc0, oc1, oc2⟩ := HOP.out _ HB24.out
            have cQ := HQ24.out.cells
            have lQ := HQ24.out.lt
            by_cases hod : od.length = N
            · have HODE := Lib.hid hod
              have gq3 : ((od.length : Int) != (N : Int)) = false := by simp; omega
              have gq5 : (od.length != N) = false := by simp; omega
              have gq6 : ((od.length : Int) == (N : Int)) = true := by simp; omega
              have gq7 : (od.length == N) = true := by simp; omega
              have gq8 : decide ((od.length : Int) ≠ (N : Int)) = false := decide_eq_false (by omega)
              clear hod
              go_wp2_with fail
              have hz24 := Sb24.out.top.1
              refine (SS.tick o.A o.cc o.cs Sa24.out (by rw [HCNE.out]; exact (ack_oks o.R HLr.out)) (by rw [HCNE.out]; exact HMr.out) (HCR.out.below HB24.out) (FrC.of HCR.out (by omega) (Nat.le_of_lt hlo)) (by rw [HMl.out]; exact HCNE.out) HB24.out (by rw [ackL_len, HLl.out]; omega) (by rw [HMl.out]; omega)).mono ?_
              rintro e W25 ⟨va, vb, rfl, ra, rb, hs, fr⟩
              (try clear cQ); (try clear lQ); (try clear oc0); (try clear oc1); (try clear oc2)
              have HB25 := Lib.hid (fr.below HB24.out (Nat.le_refl _) (Nat.le_of_lt hlo))
              have HQ25 := Lib.hid (HQ24.out.fr fr (.inl hlo))
              have Sb25 := Lib.hid (Sb24.out.fr fr (.inl hdis))
              clear HB24 HQ24 Sb24
              have Sa25 := Lib.hid hs
              clear hs fr Sa24
              have RA25 := Lib.hid ra
              have RB25 := Lib.hid rb
              clear ra rb
              obtain ⟨oc0, oc1, oc2⟩ := HOP.out _ HB25.out
              have cQ := HQ25.out.cells
              have lQ := HQ25.out.lt
              go_wp2_with fail
              refine (SS.tick o.A o.cc o.cs Sb25.out (by rw [HCNE.out]; exact (ack_oks o.R HLr.out)) (by rw [HCNE.out]; exact HMr.out) (HCR.out.below HB25.out) (FrC.of HCR.out (by omega) (Nat.le_of_lt hlo2)) (by rw [HMl.out]; exact HCNE.out) HB25.out (by rw [ackL_len, HLl.out]; omega) (by rw [HMl.out]; omega)).mono ?_
              rintro e W26 ⟨ua, ub, rfl, ra, rb, hs, fr⟩
              (try clear cQ); (try clear lQ); (try clear oc0); (try clear oc1); (try clear oc2)
              have HB26 := Lib.hid (fr.below HB25.out (Nat.le_refl _) (Nat.le_of_lt hlo2))
              have HQ26 := Lib.hid (HQ25.out.fr fr (.inl hlo2))
              have Sa26 := Lib.hid (Sa25.out.fr fr (.inr hdis))
              have RA26 := Lib.hid (RA25.out.fr fr hz24)
              have RB26 := Lib.hid (RB25.out.fr fr hz24)
              clear HB25 HQ25 Sa25 RA25 RB25
              have Sb26 := Lib.hid hs
              clear hs fr Sb25
              have UA26 := Lib.hid ra
              have UB26 := Lib.hid rb
              clear ra rb
              obtain ⟨oc0, oc1, oc2⟩ := HOP.out _ HB26.out
              have cQ := HQ26.out.cells
              have lQ := HQ26.out.lt
              go_wp2_with fail
              refine (same_any _ _ _ _ _ _ _ RA26.out.1 UA26.out.1).mono ?_
              rintro e W27 ⟨rfl, hk⟩
              (try clear cQ); (try clear lQ); (try clear oc0); (try clear oc1); (try clear oc2)
              have HB27 := Lib.hid (Btrans HB26.out hk)
              have HQ27 := Lib.hid (HQ26.out.below hk)
              have Sa27 := Lib.hid (Sa26.out.below hk)
              have Sb27 := Lib.hid (Sb26.out.below hk)
              have RA27 := Lib.hid (RA26.out.fr (Fr.of_below (lo := 0) (hi := 0) hk) (Nat.zero_le _))
              have RB27 := Lib.hid (RB26.out.fr (Fr.of_below (lo := 0) (hi := 0) hk) (Nat.zero_le _))
              have UA27 := Lib.hid (UA26.out.fr (Fr.of_below (lo := 0) (hi := 0) hk) (Nat.zero_le _))
              have UB27 := Lib.hid (UB26.out.fr (Fr.of_below (lo := 0) (hi := 0) hk) (Nat.zero_le _))
              clear HB26 HQ26 Sa26 Sb26 RA26 RB26 UA26 UB26
              clear hk
              rw [decide_eq_true rfl]
              obtain ⟨oc0, oc1, oc2⟩ := HOP.out _ HB27.out
              have cQ := HQ27.out.cells
              have lQ := HQ27.out.lt
              go_wp2_with fail
              refine (same_any _ _ _ _ _ _ _ RB27.out.1 UB27.out.1).mono ?_
              rintro e W28 ⟨rfl, hk⟩
              (try clear cQ); (try clear lQ); (try clear oc0); (try clear oc1); (try clear oc2)
              have HB28 := Lib.hid (Btrans HB27.out hk)
              have HQ28 := Lib.hid (HQ27.out.below hk)
              have Sa28 := Lib.hid (Sa27.out.below hk)
              have Sb28 := Lib.hid (Sb27.out.below hk)
              have RB28 := Lib.hid (RB27.out.fr (Fr.of_below (lo := 0) (hi := 0) hk) (Nat.zero_le _))
              have UB28 := Lib.hid (UB27.out.fr (Fr.of_below (lo := 0) (hi := 0) hk) (Nat.zero_le _))
              clear HB27 HQ27 Sa27 Sb27 RB27 UB27
              clear hk
              rw [decide_eq_true rfl]
              obtain ⟨oc0, oc1, oc2⟩ := HOP.out _ HB28.out
              have cQ := HQ28.out.cells
              have lQ := HQ28.out.lt
              go_wp2
              go_roundw
              case rel => exact ⟨j + 1, by omega, by go_num, HB28.out, HQ28.out, _, _, Sa28.out, Sb28.out, next_oks _ (ack_oks o.R HLr.out), next_oks _ HMr.out, by rw [List.length_map, HMl.out], by rw [List.length_map, ackL_len, HLl.out]⟩
              case measure => simp [intOf]; omega
            · have gq3 : ((od.length : Int) != (N : Int)) = true := by simp; omega
              have gq5 : (od.length != N) = true := by simp; omega
              have gq6 : ((od.length : Int) == (N : Int)) = false := by simp; omega
              have gq7 : (od.length == N) = false := by simp; omega
              have gq8 : decide ((od.length : Int) ≠ (N : Int)) = true := decide_eq_true (by omega)
              go_wp2_with fail
              refine (SS.tick_no DA dc od Sa24.out (by rw [HMl.out]; exact hod)).mono ?_
              rintro e W25 ⟨rfl, hk⟩
              (try clear cQ); (try clear lQ); (try clear oc0); (try clear oc1); (try clear oc2)
              have HB25 := Lib.hid (Btrans HB24.out hk)
              have HQ25 := Lib.hid (HQ24.out.below hk)
              have Sa25 := Lib.hid (Sa24.out.below hk)
              have Sb25 := Lib.hid (Sb24.out.below hk)
              clear HB24 HQ24 Sa24 Sb24
              clear hk
              obtain ⟨oc0, oc1, oc2⟩ := HOP.out _ HB25.out
              have cQ := HQ25.out.cells
              have lQ := HQ25.out.lt
              go_wp2_with fail
              have hz25 := Sb25.out.top.1
              refine (SS.tick o.A o.cc o.cs Sa25.out (by rw [HCNE.out]; exact (ack_oks o.R HLr.out)) (by rw [HCNE.out]; exact HMr.out) (HCR.out.below HB25.out) (FrC.of HCR.out (by omega) (Nat.le_of_lt hlo)) (by rw [HMl.out]; exact HCNE.out) HB25.out (by rw [ackL_len, HLl.out]; omega) (by rw [HMl.out]; omega)).mono ?_
              rintro e W26 ⟨va, vb, rfl, ra, rb, hs, fr⟩
              (try clear cQ); (try clear lQ); (try clear oc0); (try clear oc1); (try clear oc2)
              have HB26 := Lib.hid (fr.below HB25.out (Nat.le_refl _) (Nat.le_of_lt hlo))
              have HQ26 := Lib.hid (HQ25.out.fr fr (.inl hlo))
              have Sb26 := Lib.hid (Sb25.out.fr fr (.inl hdis))
              clear HB25 HQ25 Sb25
              have Sa26 := Lib.hid hs
              clear hs fr Sa25
              have RA26 := Lib.hid ra
              have RB26 := Lib.hid rb
              clear ra rb
              obtain ⟨oc0, oc1, oc2⟩ := HOP.out _ HB26.out
              have cQ := HQ26.out.cells
              have lQ := HQ26.out.lt
              go_wp2_with fail
              refine (SS.tick o.A o.cc o.cs Sb26.out (by rw [HCNE.out]; exact (ack_oks o.R HLr.out)) (by rw [HCNE.out]; exact HMr.out) (HCR.out.below HB26.out) (FrC.of HCR.out (by omega) (Nat.le_of_lt hlo2)) (by rw [HMl.out]; exact HCNE.out) HB26.out (by rw [ackL_len, HLl.out]; omega) (by rw [HMl.out]; omega)).mono ?_
              rintro e W27 ⟨ua, ub, rfl, ra, rb, hs, fr⟩
              (try clear cQ); (try clear lQ); (try clear oc0); (try clear oc1); (try clear oc2)
              have HB27 := Lib.hid (fr.below HB26.out (Nat.le_refl _) (Nat.le_of_lt hlo2))
              have HQ27 := Lib.hid (HQ26.out.fr fr (.inl hlo2))
              have Sa27 := Lib.hid (Sa26.out.fr fr (.inr hdis))
              have RA27 := Lib.hid (RA26.out.fr fr hz25)
              have RB27 := Lib.hid (RB26.out.fr fr hz25)
              clear HB26 HQ26 Sa26 RA26 RB26
              have Sb27 := Lib.hid hs
              clear hs fr Sb26
              have UA27 := Lib.hid ra
              have UB27 := Lib.hid rb
              clear ra rb
              obtain ⟨oc0, oc1, oc2⟩ := HOP.out _ HB27.out
              have cQ := HQ27.out.cells
              have lQ := HQ27.out.lt
              go_wp2_with fail
              refine (same_any _ _ _ _ _ _ _ RA27.out.1 UA27.out.1).mono ?_
              rintro e W28 ⟨rfl, hk⟩
              (try clear cQ); (try clear lQ); (try clear oc0); (try clear oc1); (try clear oc2)
              have HB28 := Lib.hid (Btrans HB27.out hk)
              have HQ28 := Lib.hid (HQ27.out.below hk)
              have Sa28 := Lib.hid (Sa27.out.below hk)
              have Sb28 := Lib.hid (Sb27.out.below hk)
              have RA28 := Lib.hid (RA27.out.fr (Fr.of_below (lo := 0) (hi := 0) hk) (Nat.zero_le _))
              have RB28 := Lib.hid (RB27.out.fr (Fr.of_below (lo := 0) (hi := 0) hk) (Nat.zero_le _))
              have UA28 := Lib.hid (UA27.out.fr (Fr.of_below (lo := 0) (hi := 0) hk) (Nat.zero_le _))
              have UB28 := Lib.hid (UB27.out.fr (Fr.of_below (lo := 0) (hi := 0) hk) (Nat.zero_le _))
              clear HB27 HQ27 Sa27 Sb27 RA27 RB27 UA27 UB27
              clear hk
              rw [decide_eq_true rfl]
              obtain ⟨oc0, oc1, oc2⟩ := HOP.out _ HB28.out
              have cQ := HQ28.out.cells
              have lQ := HQ28.out.lt
              go_wp2_with fail
              refine (same_any _ _ _ _ _ _ _ RB28.out.1 UB28.out.1).mono ?_
              rintro e W29 ⟨rfl, hk⟩
              (try clear cQ); (try clear lQ); (try clear oc0); (try clear oc1); (try clear oc2)
              have HB29 := Lib.hid (Btrans HB28.out hk)
              have HQ29 := Lib.hid (HQ28.out.below hk)
              have Sa29 := Lib.hid (Sa28.out.below hk)
              have Sb29 := Lib.hid (Sb28.out.below hk)
              have RB29 := Lib.hid (RB28.out.fr (Fr.of_below (lo := 0) (hi := 0) hk) (Nat.zero_le _))
              have UB29 := Lib.hid (UB28.out.fr (Fr.of_below (lo := 0) (hi := 0) hk) (Nat.zero_le _))
              clear HB28 HQ28 Sa28 Sb28 RB28 UB28
              clear hk
              rw [decide_eq_true rfl]
              obtain ⟨oc0, oc1, oc2⟩ := HOP.out _ HB29.out
              have cQ := HQ29.out.cells
              have lQ := HQ29.out.lt
              go_wp2
              go_roundw
              case rel => exact ⟨j + 1, by omega, by go_num, HB29.out, HQ29.out, _, _, Sa29.out, Sb29.out, next_oks _ (ack_oks o.R HLr.out), next_oks _ HMr.out, by rw [List.length_map, HMl.out], by rw [List.length_map, ackL_len, HLl.out]⟩
              case measure => simp [intOf]; omega
          have gc2 : decide (ch ≥ (N : Int)) = false := decide_eq_false hc2
          go_wp2_with fail
          refine (SS.ackR o.R Sa21.out (by rw [HLl.out]; omega)).mono ?_
          rintro e W22 ⟨rfl, hs, fr⟩
          (try clear cQ); (try clear lQ); (try clear oc0); (try clear oc1); (try clear oc2)
          have HB22 := Lib.hid (fr.below HB21.out (Nat.le_refl _) (Nat.le_of_lt hlo))
          have HQ22 := Lib.hid (HQ21.out.fr fr (.inl hlo))
          have Sb22 := Lib.hid (Sb21.out.fr fr (.inl hdis))
          clear HB21 HQ21 Sb21
          have Sa22 := Lib.hid hs
          clear hs fr Sa21
          obtain ⟨oc0, oc1, oc2⟩ := HOP.out _ HB22.out
          have cQ := HQ22.out.cells
          have lQ := HQ22.out.lt
          go_wp2_with fail
          refine (SS.ackR o.R Sb22.out (by rw [HLl.out]; omega)).mono ?_
          rintro e W23 ⟨rfl, hs, fr⟩
          (try clear cQ); (try clear lQ); (try clear oc0); (try clear oc1); (try clear oc2)
          have HB23 := Lib.hid (fr.below HB22.out (Nat.le_refl _) (Nat.le_of_lt hlo2))
          have HQ23 := Lib.hid (HQ22.out.fr fr (.inl hlo2))
          have Sa23 := Lib.hid (Sa22.out.fr fr (.inr hdis))
          clear HB22 HQ22 Sa22
          have Sb23 := Lib.hid hs
          clear hs fr Sb22
          obtain ⟨oc0, oc1, oc2⟩ := HOP.out _ HB23.out
          have cQ := HQ23.out.cells
          have lQ := HQ23.out.lt
          by_cases hod : od.length = N
          · have HODE := Lib.hid hod
            have gq3 : ((od.length : Int) != (N : Int)) = false := by simp; omega
            have gq5 : (od.length != N) = false := by simp; omega
            have gq6 : ((od.length : Int) == (N : Int)) = true := by simp; omega
            have gq7 : (od.length == N) = true := by simp; omega
            have gq8 : decide ((od.length : Int) ≠ (N : Int)) = false := decide_eq_false (by omega)
            clear hod
            go_wp2_with fail
            have hz23 := Sb23.out.top.1
            refine (SS.tick o.A o.cc o.cs Sa23.out (by rw [HCNE.out]; exact (ack_oks o.R HLr.out)) (by rw [HCNE.out]; exact HMr.out) (HCR.out.below HB23.out) (FrC.of HCR.out (by omega) (Nat.le_of_lt hlo)) (by rw [HMl.out]; exact HCNE.out) HB23.out (by rw [ackL_len, HLl.out]; omega) (by rw [HMl.out]; omega)).mono ?_
            rintro e W24 ⟨va, vb, rfl, ra, rb, hs, fr⟩
            (try clear cQ); (try clear lQ); (try clear oc0); (try clear oc1); (try clear oc2)
            have HB24 := Lib.hid (fr.below HB23.out (Nat.le_refl _) (Nat.le_of_lt hlo))
            have HQ24 := Lib.hid (HQ23.out.fr fr (.inl hlo))
            have Sb24 := Lib.hid (Sb23.out.fr fr (.inl hdis))
            clear HB23 HQ23 Sb23
            have Sa24 := Lib.hid hs
            clear hs fr Sa23
            have RA24 := Lib.hid ra
            have RB24 := Lib.hid rb
            clear ra rb
            obtain ⟨oc0, oc1, oc2⟩ := HOP.out _ HB24.out
            have cQ := HQ24.out.cells
            have lQ := HQ24.out.lt
            go_wp2_with fail
            refine (SS.tick o.A o.cc o.cs Sb24.out (by rw [HCNE.out]; exact (ack_oks o.R HLr.out)) (by rw [HCNE.out]; exact HMr.out) (HCR.out.below HB24.out) (FrC.of HCR.out (by omega) (Nat.le_of_lt hlo2)) (by rw [HMl.out]; exact HCNE.out) HB24.out (by rw [ackL_len, HLl.out]; omega) (by rw [HMl.out]; omega)).mono ?_
            rintro e W25 ⟨ua, ub, rfl, ra, rb, hs, fr⟩
            (try clear cQ); (try clear lQ); (try clear oc0); (try clear oc1); (try clear oc2)
            have HB25 := Lib.hid (fr.below HB24.out (Nat.le_refl _) (Nat.le_of_lt hlo2))
            have HQ25 := Lib.hid (HQ24.out.fr fr (.inl hlo2))
            have Sa25 := Lib.hid (Sa24.out.fr fr (.inr hdis))
            have RA25 := Lib.hid (RA24.out.fr fr hz23)
            have RB25 := Lib.hid (RB24.out.fr fr hz23)
            clear HB24 HQ24 Sa24 RA24 RB24
            have Sb25 := Lib.hid hs
            clear hs fr Sb24
            have UA25 := Lib.hid ra
            have UB25 := Lib.hid rb
            clear ra rb
            obtain ⟨oc0, oc1, oc2⟩ := HOP.out _ HB25.out
            have cQ := HQ25.out.cells
            have lQ := HQ25.out.lt
            go_wp2_with fail
            refine (same_any _ _ _ _ _ _ _ RA25.out.1 UA25.out.1).mono ?_
            rintro e W26 ⟨rfl, hk⟩
            (try clear cQ); (try clear lQ); (try clear oc0); (try clear oc1); (try clear oc2)
            have HB26 := Lib.hid (Btrans HB25.out hk)
            have HQ26 := Lib.hid (HQ25.out.below hk)
            have Sa26 := Lib.hid (Sa25.out.below hk)
            have Sb26 := Lib.hid (Sb25.out.below hk)
            have RA26 := Lib.hid (RA25.out.fr (Fr.of_below (lo := 0) (hi := 0) hk) (Nat.zero_le _))
            have RB26 := Lib.hid (RB25.out.fr (Fr.of_below (lo := 0) (hi := 0) hk) (Nat.zero_le _))
            have UA26 := Lib.hid (UA25.out.fr (Fr.of_below (lo := 0) (hi := 0) hk) (Nat.zero_le _))
            have UB26 := Lib.hid (UB25.out.fr (Fr.of_below (lo := 0) (hi := 0) hk) (Nat.zero_le _))
            clear HB25 HQ25 Sa25 Sb25 RA25 RB25 UA25 UB25
            clear hk
            rw [decide_eq_true rfl]
            obtain ⟨oc0, oc1, oc2⟩ := HOP.out _ HB26.out
            have cQ := HQ26.out.cells
            have lQ := HQ26.out.lt
            go_wp2_with fail
            refine (same_any _ _ _ _ _ _ _ RB26.out.1 UB26.out.1).mono ?_
            rintro e W27 ⟨rfl, hk⟩
            (try clear cQ); (try clear lQ); (try clear oc0); (try clear oc1); (try clear oc2)
            have HB27 := Lib.hid (Btrans HB26.out hk)
            have HQ27 := Lib.hid (HQ26.out.below hk)
            have Sa27 := Lib.hid (Sa26.out.below hk)
            have Sb27 := Lib.hid (Sb26.out.below hk)
            have RB27 := Lib.hid (RB26.out.fr (Fr.of_below (lo := 0) (hi := 0) hk) (Nat.zero_le _))
            have UB27 := Lib.hid (UB26.out.fr (Fr.of_below (lo := 0) (hi := 0) hk) (Nat.zero_le _))
            clear HB26 HQ26 Sa26 Sb26 RB26 UB26
            clear hk
            rw [decide_eq_true rfl]
            obtain ⟨oc0, oc1, oc2⟩ := HOP.out _ HB27.out
            have cQ := HQ27.out.cells
            have lQ := HQ27.out.lt
            go_wp2
            go_roundw
            case rel => exact ⟨j + 1, by omega, by go_num, HB27.out, HQ27.out, _, _, Sa27.out, Sb27.out, next_oks _ (ack_oks o.R HLr.out), next_oks _ HMr.out, by rw [List.length_map, HMl.out], by rw [List.length_map, ackL_len, HLl.out]⟩
            case measure => simp [intOf]; omega
          · have gq3 : ((od.length : Int) != (N : Int)) = true := by simp; omega
            have gq5 : (od.length != N) = true := by simp; omega
            have gq6 : ((od.length : Int) == (N : Int)) = false := by simp; omega
            have gq7 : (od.length == N) = false := by simp; omega
            have gq8 : decide ((od.length : Int) ≠ (N : Int)) = true := decide_eq_true (by omega)
            go_wp2_with fail
            refine (SS.tick_no DA dc od Sa23.out (by rw [HMl.out]; exact hod)).mono ?_
            rintro e W24 ⟨rfl, hk⟩
            (try clear cQ); (try clear lQ); (try clear oc0); (try clear oc1); (try clear oc2)
            have HB24 := Lib.hid (Btrans HB23.out hk)
            have HQ24 := Lib.hid (HQ23.out.below hk)
            have Sa24 := Lib.hid (Sa23.out.below hk)
            have Sb24 := Lib.hid (Sb23.out.below hk)
            clear HB23 HQ23 Sa23 Sb23
            clear hk
            obtain ⟨oc0, oc1, oc2⟩ := HOP.out _ HB24.out
            have cQ := HQ24.out.cells
            have lQ := HQ24.out.lt
            go_wp2_with fail
            have hz24 := Sb24.out.top.1
            refine (SS.tick o.A o.cc o.cs Sa24.out (by rw [HCNE.out]; exact (ack_oks o.R HLr.out)) (by rw [HCNE.out]; exact HMr.out) (HCR.out.below HB24.out) (FrC.of HCR.out (by omega) (Nat.le_of_lt hlo)) (by rw [HMl.out]; exact HCNE.out) HB24.out (by rw [ackL_len, HLl.out]; omega) (by rw [HMl.out]; omega)).mono ?_
            rintro e W25 ⟨va, vb, rfl, ra, rb, hs, fr⟩
            (try clear cQ); (try clear lQ); (try clear oc0); (try clear oc1); (try clear oc2)
            have HB25 := Lib.hid (fr.below HB24.out (Nat.le_refl _) (Nat.le_of_lt hlo))
            have HQ25 := Lib.hid (HQ24.out.fr fr (.inl hlo))
            have Sb25 := Lib.hid (Sb24.out.fr fr (.inl hdis))
            clear HB24 HQ24 Sb24
            have Sa25 := Lib.hid hs
            clear hs fr Sa24
            have RA25 := Lib.hid ra
            have RB25 := Lib.hid rb
            clear ra rb
            obtain ⟨oc0, oc1, oc2⟩ := HOP.out _ HB25.out
            have cQ := HQ25.out.cells
            have lQ := HQ25.out.lt
            go_wp2_with fail
            refine (SS.tick o.A o.cc o.cs Sb25.out (by rw [HCNE.out]; exact (ack_oks o.R HLr.out)) (by rw [HCNE.out]; exact HMr.out) (HCR.out.below HB25.out) (FrC.of HCR.out (by omega) (Nat.le_of_lt hlo2)) (by rw [HMl.out]; exact HCNE.out) HB25.out (by rw [ackL_len, HLl.out]; omega) (by rw [HMl.out]; omega)).mono ?_
            rintro e W26 ⟨ua, ub, rfl, ra, rb, hs, fr⟩
            (try clear cQ); (try clear lQ); (try clear oc0); (try clear oc1); (try clear oc2)
            have HB26 := Lib.hid (fr.below HB25.out (Nat.le_refl _) (Nat.le_of_lt hlo2))
            have HQ26 := Lib.hid (HQ25.out.fr fr (.inl hlo2))
            have Sa26 := Lib.hid (Sa25.out.fr fr (.inr hdis))
            have RA26 := Lib.hid (RA25.out.fr fr hz24)
            have RB26 := Lib.hid (RB25.out.fr fr hz24)
            clear HB25 HQ25 Sa25 RA25 RB25
            have Sb26 := Lib.hid hs
            clear hs fr Sb25
            have UA26 := Lib.hid ra
            have UB26 := Lib.hid rb
            clear ra rb
            obtain ⟨oc0, oc1, oc2⟩ := HOP.out _ HB26.out
            have cQ := HQ26.out.cells
            have lQ := HQ26.out.lt
            go_wp2_with fail
            refine (same_any _ _ _ _ _ _ _ RA26.out.1 UA26.out.1).mono ?_
            rintro e W27 ⟨rfl, hk⟩
            (try clear cQ); (try clear lQ); (try clear oc0); (try clear oc1); (try clear oc2)
            have HB27 := Lib.hid (Btrans HB26.out hk)
            have HQ27 := Lib.hid (HQ26.out.below hk)
            have Sa27 := Lib.hid (Sa26.out.below hk)
            have Sb27 := Lib.hid (Sb26.out.below hk)
            have RA27 := Lib.hid (RA26.out.fr (Fr.of_below (lo := 0) (hi := 0) hk) (Nat.zero_le _))
            have RB27 := Lib.hid (RB26.out.fr (Fr.of_below (lo := 0) (hi := 0) hk) (Nat.zero_le _))
            have UA27 := Lib.hid (UA26.out.fr (Fr.of_below (lo := 0) (hi := 0) hk) (Nat.zero_le _))
            have UB27 := Lib.hid (UB26.out.fr (Fr.of_below (lo := 0) (hi := 0) hk) (Nat.zero_le _))
            clear HB26 HQ26 Sa26 Sb26 RA26 RB26 UA26 UB26
            clear hk
            rw [decide_eq_true rfl]
            obtain ⟨oc0, oc1, oc2⟩ := HOP.out _ HB27.out
            have cQ := HQ27.out.cells
            have lQ := HQ27.out.lt
            go_wp2_with fail
            refine (same_any _ _ _ _ _ _ _ RB27.out.1 UB27.out.1).mono ?_
            rintro e W28 ⟨rfl, hk⟩
            (try clear cQ); (try clear lQ); (try clear oc0); (try clear oc1); (try clear oc2)
            have HB28 := Lib.hid (Btrans HB27.out hk)
            have HQ28 := Lib.hid (HQ27.out.below hk)
            have Sa28 := Lib.hid (Sa27.out.below hk)
            have Sb28 := Lib.hid (Sb27.out.below hk)
            have RB28 := Lib.hid (RB27.out.fr (Fr.of_below (lo := 0) (hi := 0) hk) (Nat.zero_le _))
            have UB28 := Lib.hid (UB27.out.fr (Fr.of_below (lo := 0) (hi := 0) hk) (Nat.zero_le _))
            clear HB27 HQ27 Sa27 Sb27 RB27 UB27
            clear hk
            rw [decide_eq_true rfl]
            obtain ⟨oc0, oc1, oc2⟩ := HOP.out _ HB28.out
            have cQ := HQ28.out.cells
            have lQ := HQ28.out.lt
            go_wp2
            go_roundw
            case rel => exact ⟨j + 1, by omega, by go_num, HB28.out, HQ28.out, _, _, Sa28.out, Sb28.out, next_oks _ (ack_oks o.R HLr.out), next_oks _ HMr.out, by rw [List.length_map, HMl.out], by rw [List.length_map, ackL_len, HLl.out]⟩
            case measure => simp [intOf]; omega
        have gr1 : decide (r < 0) = false := decide_eq_false hr1
        by_cases hr2 : r ≥ (rs.length : Int)
        · have gr2 : decide (r ≥ (rs.length : Int)) = true := decide_eq_true hr2
          have HAR := Lib.hid (show ackL r L = L from ackL_no (by rw [HLl.out]; omega))
          go_wp2_with fail
          refine (SS.ackR r Sa20.out (by rw [HLl.out]; omega)).mono ?_
          rintro e W21 ⟨rfl, hs, fr⟩
          (try clear cQ); (try clear lQ); (try clear oc0); (try clear oc1); (try clear oc2)
          have HB21 := Lib.hid (fr.below HB20.out (Nat.le_refl _) (Nat.le_of_lt hlo))
          have HQ21 := Lib.hid (HQ20.out.fr fr (.inl hlo))
          have Sb21 := Lib.hid (Sb20.out.fr fr (.inl hdis))
          clear HB20 HQ20 Sb20
          have Sa21 := Lib.hid hs
          clear hs fr Sa20
          obtain ⟨oc0, oc1, oc2⟩ := HOP.out _ HB21.out
          have cQ := HQ21.out.cells
          have lQ := HQ21.out.lt
          rw [show decide (0 ≤ r ∧ r < (L.length : Int)) = false from decide_eq_false (by rw [HLl.out]; omega)]
          have Sa21' := Lib.hid (show SS w W21 lo hi pb L M by have := Sa21.out; rw [HAR.out] at this; exact this)
          clear Sa21
          have Sa21 := Lib.hid Sa21'.out
          clear Sa21'
          by_cases hc1 : ch < 0
          · have gc1 : decide (ch < 0) = true := decide_eq_true hc1
            have HAC := Lib.hid (show ackL ch M = M from ackL_no (by omega))
            go_wp2_with fail
            refine (SS.ackC ch Sa21.out (by rw [HMl.out]; omega)).mono ?_
            rintro e W22 ⟨rfl, hs, fr⟩
            (try clear cQ); (try clear lQ); (try clear oc0); (try clear oc1); (try clear oc2)
            have HB22 := Lib.hid (fr.below HB21.out (Nat.le_refl _) (Nat.le_of_lt hlo))
            have HQ22 := Lib.hid (HQ21.out.fr fr (.inl hlo))
            have Sb22 := Lib.hid (Sb21.out.fr fr (.inl hdis))
            clear HB21 HQ21 Sb21
            have Sa22 := Lib.hid hs
            clear hs fr Sa21
            obtain ⟨oc0, oc1, oc2⟩ := HOP.out _ HB22.out
            have cQ := HQ22.out.cells
            have lQ := HQ22.out.lt
            rw [show decide (0 ≤ ch ∧ ch < (M.length : Int)) = false from decide_eq_false (by omega)]
            have Sa22' := Lib.hid (show SS w W22 lo hi pb L M by have := Sa22.out; rw [HAC.out] at this; exact this)
            clear Sa22
            have Sa22 := Lib.hid Sa22'.out
            clear Sa22'
            go_wp2_with fail
            refine (SS.ackR o.R Sa22.out (by rw [HLl.out]; omega)).mono ?_
            rintro e W23 ⟨rfl, hs, fr⟩
            (try clear cQ); (try clear lQ); (try clear oc0); (try clear oc1); (try clear oc2)
            have HB23 := Lib.hid (fr.below HB22.out (Nat.le_refl _) (Nat.le_of_lt hlo))
            have HQ23 := Lib.hid (HQ22.out.fr fr (.inl hlo))
            have Sb23 := Lib.hid (Sb22.out.fr fr (.inl hdis))
            clear HB22 HQ22 Sb22
            have Sa23 := Lib.hid hs
            clear hs fr Sa22
            obtain ⟨oc0, oc1, oc2⟩ := HOP.out _ HB23.out
            have cQ := HQ23.out.cells
            have lQ := HQ23.out.lt
            go_wp2_with fail
            refine (SS.ackR o.R Sb23.out (by rw [HLl.out]; omega)).mono ?_
            rintro e W24 ⟨rfl, hs, fr⟩
            (try clear cQ); (try clear lQ); (try clear oc0); (try clear oc1); (try clear oc2)
            have HB24 := Lib.hid (fr.below HB23.out (Nat.le_refl _) (Nat.le_of_lt hlo2))
            have HQ24 := Lib.hid (HQ23.out.fr fr (.inl hlo2))
            have Sa24 := Lib.hid (Sa23.out.fr fr (.inr hdis))
            clear HB23 HQ23 Sa23
            have Sb24 := Lib.hid hs
            clear hs fr Sb23
            obtain ⟨oc0, oc1, oc2⟩ := HOP.out _ HB24.out
            have cQ := HQ24.out.cells
            have lQ := HQ24.out.lt
            by_cases hod : od.length = N
            · have HODE := Lib.hid hod
              have gq3 : ((od.length : Int) != (N : Int)) = false := by simp; omega
              have gq5 : (od.length != N) = false := by simp; omega
              have gq6 : ((od.length : Int) == (N : Int)) = true := by simp; omega
              have gq7 : (od.length == N) = true := by simp; omega
              have gq8 : decide ((od.length : Int) ≠ (N : Int)) = false := decide_eq_false (by omega)
              clear hod
              go_wp2_with fail
              have hz24 := Sb24.out.top.1
              refine (SS.tick o.A o.cc o.cs Sa24.out (by rw [HCNE.out]; exact (ack_oks o.R HLr.out)) (by rw [HCNE.out]; exact HMr.out) (HCR.out.below HB24.out) (FrC.of HCR.out (by omega) (Nat.le_of_lt hlo)) (by rw [HMl.out]; exact HCNE.out) HB24.out (by rw [ackL_len, HLl.out]; omega) (by rw [HMl.out]; omega)).mono ?_
              rintro e W25 ⟨va, vb, rfl, ra, rb, hs, fr⟩
              (try clear cQ); (try clear lQ); (try clear oc0); (try clear oc1); (try clear oc2)
              have HB25 := Lib.hid (fr.below HB24.out (Nat.le_refl _) (Nat.le_of_lt hlo))
              have HQ25 := Lib.hid (HQ24.out.fr fr (.inl hlo))
              have Sb25 := Lib.hid (Sb24.out.fr fr (.inl hdis))
              clear HB24 HQ24 Sb24
              have Sa25 := Lib.hid hs
              clear hs fr Sa24
              have RA25 := Lib.hid ra
              have RB25 := Lib.hid rb
              clear ra rb
              obtain ⟨oc0, oc1, oc2⟩ := HOP.out _ HB25.out
              have cQ := HQ25.out.cells
              have lQ := HQ25.out.lt
              go_wp2_with fail
              refine (SS.tick o.A o.cc o.cs Sb25.out (by rw [HCNE.out]; exact (ack_oks o.R HLr.out)) (by rw [HCNE.out]; exact HMr.out) (HCR.out.below HB25.out) (FrC.of HCR.out (by omega) (Nat.le_of_lt hlo2)) (by rw [HMl.out]; exact HCNE.out) HB25.out (by rw [ackL_len, HLl.out]; omega) (by rw [HMl.out]; omega)).mono ?_
              rintro e W26 ⟨ua, ub, rfl, ra, rb, hs, fr⟩
              (try clear cQ); (try clear lQ); (try clear oc0); (try clear oc1); (try clear oc2)
              have HB26 := Lib.hid (fr.below HB25.out (Nat.le_refl _) (Nat.le_of_lt hlo2))
              have HQ26 := Lib.hid (HQ25.out.fr fr (.inl hlo2))
              have Sa26 := Lib.hid (Sa25.out.fr fr (.inr hdis))
              have RA26 := Lib.hid (RA25.out.fr fr hz24)
              have RB26 := Lib.hid (RB25.out.fr fr hz24)
              clear HB25 HQ25 Sa25 RA25 RB25
              have Sb26 := Lib.hid hs
              clear hs fr Sb25
              have UA26 := Lib.hid ra
              have UB26 := Lib.hid rb
              clear ra rb
              obtain ⟨oc0, oc1, oc2⟩ := HOP.out _ HB26.out
              have cQ := HQ26.out.cells
              have lQ := HQ26.out.lt
              go_wp2_with fail
              refine (same_any _ _ _ _ _ _ _ RA26.out.1 UA26.out.1).mono ?_
              rintro e W27 ⟨rfl, hk⟩
              (try clear cQ); (try clear lQ); (try clear oc0); (try clear oc1); (try clear oc2)
              have HB27 := Lib.hid (Btrans HB26.out hk)
              have HQ27 := Lib.hid (HQ26.out.below hk)
              have Sa27 := Lib.hid (Sa26.out.below hk)
              have Sb27 := Lib.hid (Sb26.out.below hk)
              have RA27 := Lib.hid (RA26.out.fr (Fr.of_below (lo := 0) (hi := 0) hk) (Nat.zero_le _))
              have RB27 := Lib.hid (RB26.out.fr (Fr.of_below (lo := 0) (hi := 0) hk) (Nat.zero_le _))
              have UA27 := Lib.hid (UA26.out.fr (Fr.of_below (lo := 0) (hi := 0) hk) (Nat.zero_le _))
              have UB27 := Lib.hid (UB26.out.fr (Fr.of_below (lo := 0) (hi := 0) hk) (Nat.zero_le _))
              clear HB26 HQ26 Sa26 Sb26 RA26 RB26 UA26 UB26
              clear hk
              rw [decide_eq_true rfl]
              obtain ⟨oc0, oc1, oc2⟩ := HOP.out _ HB27.out
              have cQ := HQ27.out.cells
              have lQ := HQ27.out.lt
              go_wp2_with fail
              refine (same_any _ _ _ _ _ _ _ RB27.out.1 UB27.out.1).mono ?_
              rintro e W28 ⟨rfl, hk⟩
              (try clear cQ); (try clear lQ); (try clear oc0); (try clear oc1); (try clear oc2)
              have HB28 := Lib.hid (Btrans HB27.out hk)
              have HQ28 := Lib.hid (HQ27.out.below hk)
              have Sa28 := Lib.hid (Sa27.out.below hk)
              have Sb28 := Lib.hid (Sb27.out.below hk)
              have RB28 := Lib.hid (RB27.out.fr (Fr.of_below (lo := 0) (hi := 0) hk) (Nat.zero_le _))
              have UB28 := Lib.hid (UB27.out.fr (Fr.of_below (lo := 0) (hi := 0) hk) (Nat.zero_le _))
              clear HB27 HQ27 Sa27 Sb27 RB27 UB27
              clear hk
              rw [decide_eq_true rfl]
              obtain ⟨oc0, oc1, oc2⟩ := HOP.out _ HB28.out
              have cQ := HQ28.out.cells
              have lQ := HQ28.out.lt
              go_wp2
              go_roundw
              case rel => exact ⟨j + 1, by omega, by go_num, HB28.out, HQ28.out, _, _, Sa28.out, Sb28.out, next_oks _ (ack_oks o.R HLr.out), next_oks _ HMr.out, by rw [List.length_map, HMl.out], by rw [List.length_map, ackL_len, HLl.out]⟩
              case measure => simp [intOf]; omega
            · have gq3 : ((od.length : Int) != (N : Int)) = true := by simp; omega
              have gq5 : (od.length != N) = true := by simp; omega
              have gq6 : ((od.length : Int) == (N : Int)) = false := by simp; omega
              have gq7 : (od.length == N) = false := by simp; omega
              have gq8 : decide ((od.length : Int) ≠ (N : Int)) = true := decide_eq_true (by omega)
              go_wp2_with fail
              refine (SS.tick_no DA dc od Sa24.out (by rw [HMl.out]; exact hod)).mono ?_
              rintro e W25 ⟨rfl, hk⟩
              (try clear cQ); (try clear lQ); (try clear oc0); (try clear oc1); (try clear oc2)
              have HB25 := Lib.hid (Btrans HB24.out hk)
              have HQ25 := Lib.hid (HQ24.out.below hk)
              have Sa25 := Lib.hid (Sa24.out.below hk)
              have Sb25 := Lib.hid (Sb24.out.below hk)
              clear HB24 HQ24 Sa24 Sb24
              clear hk
              obtain ⟨oc0, oc1, oc2⟩ := HOP.out _ HB25.out
              have cQ := HQ25.out.cells
              have lQ := HQ25.out.lt
              go_wp2_with fail
              have hz25 := Sb25.out.top.1
              refine (SS.tick o.A o.cc o.cs Sa25.out (by rw [HCNE.out]; exact (ack_oks o.R HLr.out)) (by rw [HCNE.out]; exact HMr.out) (HCR.out.below HB25.out) (FrC.of HCR.out (by omega) (Nat.le_of_lt hlo)) (by rw [HMl.out]; exact HCNE.out) HB25.out (by rw [ackL_len, HLl.out]; omega) (by rw [HMl.out]; omega)).mono ?_
              rintro e W26 ⟨va, vb, rfl, ra, rb, hs, fr⟩
              (try clear cQ); (try clear lQ); (try clear oc0); (try clear oc1); (try clear oc2)
              have HB26 := Lib.hid (fr.below HB25.out (Nat.le_refl _) (Nat.le_of_lt hlo))
              have HQ26 := Lib.hid (HQ25.out.fr fr (.inl hlo))
              have Sb26 := Lib.hid (Sb25.out.fr fr (.inl hdis))
              clear HB25 HQ25 Sb25
              have Sa26 := Lib.hid hs
              clear hs fr Sa25
              have RA26 := Lib.hid ra
              have RB26 := Lib.hid rb
              clear ra rb
              obtain ⟨oc0, oc1, oc2⟩ := HOP.out _ HB26.out
              have cQ := HQ26.out.cells
              have lQ := HQ26.out.lt
              go_wp2_with fail
              refine (SS.tick o.A o.cc o.cs Sb26.out (by rw [HCNE.out]; exact (ack_oks o.R HLr.out)) (by rw [HCNE.out]; exact HMr.out) (HCR.out.below HB26.out) (FrC.of HCR.out (by omega) (Nat.le_of_lt hlo2)) (by rw [HMl.out]; exact HCNE.out) HB26.out (by rw [ackL_len, HLl.out]; omega) (by rw [HMl.out]; omega)).mono ?_
              rintro e W27 ⟨ua, ub, rfl, ra, rb, hs, fr⟩
              (try clear cQ); (try clear lQ); (try clear oc0); (try clear oc1); (try clear oc2)
              have HB27 := Lib.hid (fr.below HB26.out (Nat.le_refl _) (Nat.le_of_lt hlo2))
              have HQ27 := Lib.hid (HQ26.out.fr fr (.inl hlo2))
              have Sa27 := Lib.hid (Sa26.out.fr fr (.inr hdis))
              have RA27 := Lib.hid (RA26.out.fr fr hz25)
              have RB27 := Lib.hid (RB26.out.fr fr hz25)
              clear HB26 HQ26 Sa26 RA26 RB26
              have Sb27 := Lib.hid hs
              clear hs fr Sb26
              have UA27 := Lib.hid ra
              have UB27 := Lib.hid rb
              clear ra rb
              obtain ⟨oc0, oc1, oc2⟩ := HOP.out _ HB27.out
              have cQ := HQ27.out.cells
              have lQ := HQ27.out.lt
              go_wp2_with fail
              refine (same_any _ _ _ _ _ _ _ RA27.out.1 UA27.out.1).mono ?_
              rintro e W28 ⟨rfl, hk⟩
              (try clear cQ); (try clear lQ); (try clear oc0); (try clear oc1); (try clear oc2)
              have HB28 := Lib.hid (Btrans HB27.out hk)
              have HQ28 := Lib.hid (HQ27.out.below hk)
              have Sa28 := Lib.hid (Sa27.out.below hk)
              have Sb28 := Lib.hid (Sb27.out.below hk)
              have RA28 := Lib.hid (RA27.out.fr (Fr.of_below (lo := 0) (hi := 0) hk) (Nat.zero_le _))
              have RB28 := Lib.hid (RB27.out.fr (Fr.of_below (lo := 0) (hi := 0) hk) (Nat.zero_le _))
              have UA28 := Lib.hid (UA27.out.fr (Fr.of_below (lo := 0) (hi := 0) hk) (Nat.zero_le _))
              have UB28 := Lib.hid (UB27.out.fr (Fr.of_below (lo := 0) (hi := 0) hk) (Nat.zero_le _))
              clear HB27 HQ27 Sa27 Sb27 RA27 RB27 UA27 UB27
              clear hk
              rw [decide_eq_true rfl]
              obtain ⟨oc0, oc1, oc2⟩ := HOP.out _ HB28.out
              have cQ := HQ28.out.cells
              have lQ := HQ28.out.lt
              go_wp2_with fail
              refine (same_any _ _ _ _ _ _ _ RB28.out.1 UB28.out.1).mono ?_
              rintro e W29 ⟨rfl, hk⟩
              (try clear cQ); (try clear lQ); (try clear oc0); (try clear oc1); (try clear oc2)
              have HB29 := Lib.hid (Btrans HB28.out hk)
              have HQ29 := Lib.hid (HQ28.out.below hk)
              have Sa29 := Lib.hid (Sa28.out.below hk)
              have Sb29 := Lib.hid (Sb28.out.below hk)
              have RB29 := Lib.hid (RB28.out.fr (Fr.of_below (lo := 0) (hi := 0) hk) (Nat.zero_le _))
              have UB29 := Lib.hid (UB28.out.fr (Fr.of_below (lo := 0) (hi := 0) hk) (Nat.zero_le _))
              clear HB28 HQ28 Sa28 Sb28 RB28 UB28
              clear hk
              rw [decide_eq_true rfl]
              obtain ⟨oc0, oc1, oc2⟩ := HOP.out _ HB29.out
              have cQ := HQ29.out.cells
              have lQ := HQ29.out.lt
              go_wp2
              go_roundw
              case rel => exact ⟨j + 1, by omega, by go_num, HB29.out, HQ29.out, _, _, Sa29.out, Sb29.out, next_oks _ (ack_oks o.R HLr.out), next_oks _ HMr.out, by rw [List.length_map, HMl.out], by rw [List.length_map, ackL_len, HLl.out]⟩
              case measure => simp [intOf]; omega
          have gc1 : decide (ch < 0) = false := decide_eq_false hc1
          by_cases hc2 : ch ≥ (N : Int)
          · have gc2 : decide (ch ≥ (N : Int)) = true := decide_eq_true hc2
            have HAC := Lib.hid (show ackL ch M = M from ackL_no (by rw [HMl.out]; omega))
            go_wp2_with fail
            refine (SS.ackC ch Sa21.out (by rw [HMl.out]; omega)).mono ?_
            rintro e W22 ⟨rfl, hs, fr⟩
            (try clear cQ); (try clear lQ); (try clear oc0); (try clear oc1); (try clear oc2)
            have HB22 := Lib.hid (fr.below HB21.out (Nat.le_refl _) (Nat.le_of_lt hlo))
            have HQ22 := Lib.hid (HQ21.out.fr fr (.inl hlo))
            have Sb22 := Lib.hid (Sb21.out.fr fr (.inl hdis))
            clear HB21 HQ21 Sb21
            have Sa22 := Lib.hid hs
            clear hs fr Sa21
            obtain ⟨oc0, oc1, oc2⟩ := HOP.out _ HB22.out
            have cQ := HQ22.out.cells
            have lQ := HQ22.out.lt
            rw [show decide (0 ≤ ch ∧ ch < (M.length : Int)) = false from decide_eq_false (by rw [HMl.out]; omega)]
            have Sa22' := Lib.hid (show SS w W22 lo hi pb L M by have := Sa22.out; rw [HAC.out] at this; exact this)
            clear Sa22
            have Sa22 := Lib.hid Sa22'.out
            clear Sa22'
            go_wp2_with fail
            refine (SS.ackR o.R Sa22.out (by rw [HLl.out]; omega)).mono ?_
            rintro e W23 ⟨rfl, hs, fr⟩
            (try clear cQ); (try clear lQ); (try clear oc0); (try clear oc1); (try clear oc2)
            have HB23 := Lib.hid (fr.below HB22.out (Nat.le_refl _) (Nat.le_of_lt hlo))
            have HQ23 := Lib.hid (HQ22.out.fr fr (.inl hlo))
            have Sb23 := Lib.hid (Sb22.out.fr fr (.inl hdis))
            clear HB22 HQ22 Sb22
            have Sa23 := Lib.hid hs
            clear hs fr Sa22
            obtain ⟨oc0, oc1, oc2⟩ := HOP.out _ HB23.out
            have cQ := HQ23.out.cells
            have lQ := HQ23.out.lt
            go_wp2_with fail
            refine (SS.ackR o.R Sb23.out (by rw [HLl.out]; omega)).mono ?_
            rintro e W24 ⟨rfl, hs, fr⟩
            (try clear cQ); (try clear lQ); (try clear oc0); (try clear oc1); (try clear oc2)
            have HB24 := Lib.hid (fr.below HB23.out (Nat.le_refl _) (Nat.le_of_lt hlo2))
            have HQ24 := Lib.hid (HQ23.out.fr fr (.inl hlo2))
            have Sa24 := Lib.hid (Sa23.out.fr fr (.inr hdis))
            clear HB23 HQ23 Sa23
            have Sb24 := Lib.hid hs
            clear hs fr Sb23
            obtain ⟨oc0, oc1, oc2⟩ := HOP.out _ HB24.out
            have cQ := HQ24.out.cells
            have lQ := HQ24.out.lt
            by_cases hod : od.length = N
            · have HODE := Lib.hid hod
              have gq3 : ((od.length : Int) != (N : Int)) = false := by simp; omega
              have gq5 : (od.length != N) = false := by simp; omega
              have gq6 : ((od.length : Int) == (N : Int)) = true := by simp; omega
              have gq7 : (od.length == N) = true := by simp; omega
              have gq8 : decide ((od.length : Int) ≠ (N : Int)) = false := decide_eq_false (by omega)
              clear hod
              go_wp2_with fail
              have hz24 := Sb24.out.top.1
              refine (SS.tick o.A o.cc o.cs Sa24.out (by rw [HCNE.out]; exact (ack_oks o.R HLr.out)) (by rw [HCNE.out]; exact HMr.out) (HCR.out.below HB24.out) (FrC.of HCR.out (by omega) (Nat.le_of_lt hlo)) (by rw [HMl.out]; exact HCNE.out) HB24.out (by rw [ackL_len, HLl.out]; omega) (by rw [HMl.out]; omega)).mono ?_
              rintro e W25 ⟨va, vb, rfl, ra, rb, hs, fr⟩
              (try clear cQ); (try clear lQ); (try clear oc0); (try clear oc1); (try clear oc2)
              have HB25 := Lib.hid (fr.below HB24.out (Nat.le_refl _) (Nat.le_of_lt hlo))
              have HQ25 := Lib.hid (HQ24.out.fr fr (.inl hlo))
              have Sb25 := Lib.hid (Sb24.out.fr fr (.inl hdis))
              clear HB24 HQ24 Sb24
              have Sa25 := Lib.hid hs
              clear hs fr Sa24
              have RA25 := Lib.hid ra
              have RB25 := Lib.hid rb
              clear ra rb
              obtain ⟨oc0, oc1, oc2⟩ := HOP.out _ HB25.out
              have cQ := HQ25.out.cells
              have lQ := HQ25.out.lt
              go_wp2_with fail
              refine (SS.tick o.A o.cc o.cs Sb25.out (by rw [HCNE.out]; exact (ack_oks o.R HLr.out)) (by rw [HCNE.out]; exact HMr.out) (HCR.out.below HB25.out) (FrC.of HCR.out (by omega) (Nat.le_of_lt hlo2)) (by rw [HMl.out]; exact HCNE.out) HB25.out (by rw [ackL_len, HLl.out]; omega) (by rw [HMl.out]; omega)).mono ?_
              rintro e W26 ⟨ua, ub, rfl, ra, rb, hs, fr⟩
              (try clear cQ); (try clear lQ); (try clear oc0); (try clear oc1); (try clear oc2)
              have HB26 := Lib.hid (fr.below HB25.out (Nat.le_refl _) (Nat.le_of_lt hlo2))
              have HQ26 := Lib.hid (HQ25.out.fr fr (.inl hlo2))
              have Sa26 := Lib.hid (Sa25.out.fr fr (.inr hdis))
              have RA26 := Lib.hid (RA25.out.fr fr hz24)
              have RB26 := Lib.hid (RB25.out.fr fr hz24)
              clear HB25 HQ25 Sa25 RA25 RB25
              have Sb26 := Lib.hid hs
              clear hs fr Sb25
              have UA26 := Lib.hid ra
              have UB26 := Lib.hid rb
              clear ra rb
              obtain ⟨oc0, oc1, oc2⟩ := HOP.out _ HB26.out
              have cQ := HQ26.out.cells
              have lQ := HQ26.out.lt
              go_wp2_with fail
              refine (same_any _ _ _ _ _ _ _ RA26.out.1 UA26.out.1).mono ?_
              rintro e W27 ⟨rfl, hk⟩
              (try clear cQ); (try clear lQ); (try clear oc0); (try clear oc1); (try clear oc2)
              have HB27 := Lib.hid (Btrans HB26.out hk)
              have HQ27 := Lib.hid (HQ26.out.below hk)
              have Sa27 := Lib.hid (Sa26.out.below hk)
              have Sb27 := Lib.hid (Sb26.out.below hk)
              have RA27 := Lib.hid (RA26.out.fr (Fr.of_below (lo := 0) (hi := 0) hk) (Nat.zero_le _))
              have RB27 := Lib.hid (RB26.out.fr (Fr.of_below (lo := 0) (hi := 0) hk) (Nat.zero_le _))
              have UA27 := Lib.hid (UA26.out.fr (Fr.of_below (lo := 0) (hi := 0) hk) (Nat.zero_le _))
              have UB27 := Lib.hid (UB26.out.fr (Fr.of_below (lo := 0) (hi := 0) hk) (Nat.zero_le _))
              clear HB26 HQ26 Sa26 Sb26 RA26 RB26 UA26 UB26
              clear hk
              rw [decide_eq_true rfl]
              obtain ⟨oc0, oc1, oc2⟩ := HOP.out _ HB27.out
              have cQ := HQ27.out.cells
              have lQ := HQ27.out.lt
              go_wp2_with fail
              refine (same_any _ _ _ _ _ _ _ RB27.out.1 UB27.out.1).mono ?_
              rintro e W28 ⟨rfl, hk⟩
              (try clear cQ); (try clear lQ); (try clear oc0); (try clear oc1); (try clear oc2)
              have HB28 := Lib.hid (Btrans HB27.out hk)
              have HQ28 := Lib.hid (HQ27.out.below hk)
              have Sa28 := Lib.hid (Sa27.out.below hk)
              have Sb28 := Lib.hid (Sb27.out.below hk)
              have RB28 := Lib.hid (RB27.out.fr (Fr.of_below (lo := 0) (hi := 0) hk) (Nat.zero_le _))
              have UB28 := Lib.hid (UB27.out.fr (Fr.of_below (lo := 0) (hi := 0) hk) (Nat.zero_le _))
              clear HB27 HQ27 Sa27 Sb27 RB27 UB27
              clear hk
              rw [decide_eq_true rfl]
              obtain ⟨oc0, oc1, oc2⟩ := HOP.out _ HB28.out
              have cQ := HQ28.out.cells
              have lQ := HQ28.out.lt
              go_wp2
              go_roundw
              case rel => exact ⟨j + 1, by omega, by go_num, HB28.out, HQ28.out, _, _, Sa28.out, Sb28.out, next_oks _ (ack_oks o.R HLr.out), next_oks _ HMr.out, by rw [List.length_map, HMl.out], by rw [List.length_map, ackL_len, HLl.out]⟩
              case measure => simp [intOf]; omega
            · have gq3 : ((od.length : Int) != (N : Int)) = true := by simp; omega
              have gq5 : (od.length != N) = true := by simp; omega
              have gq6 : ((od.length : Int) == (N : Int)) = false := by simp; omega
              have gq7 : (od.length == N) = false := by simp; omega
              have gq8 : decide ((od.length : Int) ≠ (N : Int)) = true := decide_eq_true (by omega)
              go_wp2_with fail
              refine (SS.tick_no DA dc od Sa24.out (by rw [HMl.out]; exact hod)).mono ?_
              rintro e W25 ⟨rfl, hk⟩
              (try clear cQ); (try clear lQ); (try clear oc0); (try clear oc1); (try clear oc2)
              have HB25 := Lib.hid (Btrans HB24.out hk)
              have HQ25 := Lib.hid (HQ24.out.below hk)
              have Sa25 := Lib.hid (Sa24.out.below hk)
              have Sb25 := Lib.hid (Sb24.out.below hk)
              clear HB24 HQ24 Sa24 Sb24
              clear hk
              obtain ⟨oc0, oc1, oc2⟩ := HOP.out _ HB25.out
              have cQ := HQ25.out.cells
              have lQ := HQ25.out.lt
              go_wp2_with fail
              have hz25 := Sb25.out.top.1
              refine (SS.tick o.A o.cc o.cs Sa25.out (by rw [HCNE.out]; exact (ack_oks o.R HLr.out)) (by rw [HCNE.out]; exact HMr.out) (HCR.out.below HB25.out) (FrC.of HCR.out (by omega) (Nat.le_of_lt hlo)) (by rw [HMl.out]; exact HCNE.out) HB25.out (by rw [ackL_len, HLl.out]; omega) (by rw [HMl.out]; omega)).mono ?_
              rintro e W26 ⟨va, vb, rfl, ra, rb, hs, fr⟩
              (try clear cQ); (try clear lQ); (try clear oc0); (try clear oc1); (try clear oc2)
              have HB26 := Lib.hid (fr.below HB25.out (Nat.le_refl _) (Nat.le_of_lt hlo))
              have HQ26 := Lib.hid (HQ25.out.fr fr (.inl hlo))
              have Sb26 := Lib.hid (Sb25.out.fr fr (.inl hdis))
              clear HB25 HQ25 Sb25
              have Sa26 := Lib.hid hs
              clear hs fr Sa25
              have RA26 := Lib.hid ra
              have RB26 := Lib.hid rb
              clear ra rb
              obtain ⟨oc0, oc1, oc2⟩ := HOP.out _ HB26.out
              have cQ := HQ26.out.cells
              have lQ := HQ26.out.lt
              go_wp2_with fail
              refine (SS.tick o.A o.cc o.cs Sb26.out (by rw [HCNE.out]; exact (ack_oks o.R HLr.out)) (by rw [HCNE.out]; exact HMr.out) (HCR.out.below HB26.out) (FrC.of HCR.out (by omega) (Nat.le_of_lt hlo2)) (by rw [HMl.out]; exact HCNE.out) HB26.out (by rw [ackL_len, HLl.out]; omega) (by rw [HMl.out]; omega)).mono ?_
              rintro e W27 ⟨ua, ub, rfl, ra, rb, hs, fr⟩
              (try clear cQ); (try clear lQ); (try clear oc0); (try clear oc1); (try clear oc2)
              have HB27 := Lib.hid (fr.below HB26.out (Nat.le_refl _) (Nat.le_of_lt hlo2))
              have HQ27 := Lib.hid (HQ26.out.fr fr (.inl hlo2))
              have Sa27 := Lib.hid (Sa26.out.fr fr (.inr hdis))
              have RA27 := Lib.hid (RA26.out.fr fr hz25)
              have RB27 := Lib.hid (RB26.out.fr fr hz25)
              clear HB26 HQ26 Sa26 RA26 RB26
              have Sb27 := Lib.hid hs
              clear hs fr Sb26
              have UA27 := Lib.hid ra
              have UB27 := Lib.hid rb
              clear ra rb
              obtain ⟨oc0, oc1, oc2⟩ := HOP.out _ HB27.out
              have cQ := HQ27.out.cells
              have lQ := HQ27.out.lt
              go_wp2_with fail
              refine (same_any _ _ _ _ _ _ _ RA27.out.1 UA27.out.1).mono ?_
              rintro e W28 ⟨rfl, hk⟩
              (try clear cQ); (try clear lQ); (try clear oc0); (try clear oc1); (try clear oc2)
              have HB28 := Lib.hid (Btrans HB27.out hk)
              have HQ28 := Lib.hid (HQ27.out.below hk)
              have Sa28 := Lib.hid (Sa27.out.below hk)
              have Sb28 := Lib.hid (Sb27.out.below hk)
              have RA28 := Lib.hid (RA27.out.fr (Fr.of_below (lo := 0) (hi := 0) hk) (Nat.zero_le _))
              have RB28 := Lib.hid (RB27.out.fr (Fr.of_below (lo := 0) (hi := 0) hk) (Nat.zero_le _))
              have UA28 := Lib.hid (UA27.out.fr (Fr.of_below (lo := 0) (hi := 0) hk) (Nat.zero_le _))
              have UB28 := Lib.hid (UB27.out.fr (Fr.of_below (lo := 0) (hi := 0) hk) (Nat.zero_le _))
              clear HB27 HQ27 Sa27 Sb27 RA27 RB27 UA27 UB27
              clear hk
              rw [decide_eq_true rfl]
              obtain ⟨oc0, oc1, oc2⟩ := HOP.out _ HB28.out
              have cQ := HQ28.out.cells
              have lQ := HQ28.out.lt
              go_wp2_with fail
              refine (same_any _ _ _ _ _ _ _ RB28.out.1 UB28.out.1).mono ?_
              rintro e W29 ⟨rfl, hk⟩
              (try clear cQ); (try clear lQ); (try clear oc0); (try clear oc1); (try clear oc2)
              have HB29 := Lib.hid (Btrans HB28.out hk)
              have HQ29 := Lib.hid (HQ28.out.below hk)
              have Sa29 := Lib.hid (Sa28.out.below hk)
              have Sb29 := Lib.hid (Sb28.out.below hk)
              have RB29 := Lib.hid (RB28.out.fr (Fr.of_below (lo := 0) (hi := 0) hk) (Nat.zero_le _))
              have UB29 := Lib.hid (UB28.out.fr (Fr.of_below (lo := 0) (hi := 0) hk) (Nat.zero_le _))
              clear HB28 HQ28 Sa28 Sb28 RB28 UB28
              clear hk
              rw [decide_eq_true rfl]
              obtain ⟨oc0, oc1, oc2⟩ := HOP.out _ HB29.out
              have cQ := HQ29.out.cells
              have lQ := HQ29.out.lt
              go_wp2
              go_roundw
              case rel => exact ⟨j + 1, by omega, by go_num, HB29.out, HQ29.out, _, _, Sa29.out, Sb29.out, next_oks _ (ack_oks o.R HLr.out), next_oks _ HMr.out, by rw [List.length_map, HMl.out], by rw [List.length_map, ackL_len, HLl.out]⟩
              case measure => simp [intOf]; omega
          have gc2 : decide (ch ≥ (N : Int)) = false := decide_eq_false hc2
          go_wp2_with fail
          refine (SS.ackR o.R Sa21.out (by rw [HLl.out]; omega)).mono ?_
          rintro e W22 ⟨rfl, hs, fr⟩
          (try clear cQ); (try clear lQ); (try clear oc0); (try clear oc1); (try clear oc2)
          have HB22 := Lib.hid (fr.below HB21.out (Nat.le_refl _) (Nat.le_of_lt hlo))
          have HQ22 := Lib.hid (HQ21.out.fr fr (.inl hlo))
          have Sb22 := Lib.hid (Sb21.out.fr fr (.inl hdis))
          clear HB21 HQ21 Sb21
          have Sa22 := Lib.hid hs
          clear hs fr Sa21
          obtain ⟨oc0, oc1, oc2⟩ := HOP.out _ HB22.out
          have cQ := HQ22.out.cells
          have lQ := HQ22.out.lt
          go_wp2_with fail
          refine (SS.ackR o.R Sb22.out (by rw [HLl.out]; omega)).mono ?_
          rintro e W23 ⟨rfl, hs, fr⟩
          (try clear cQ); (try clear lQ); (try clear oc0); (try clear oc1); (try clear oc2)
          have HB23 := Lib.hid (fr.below HB22.out (Nat.le_refl _) (Nat.le_of_lt hlo2))
          have HQ23 := Lib.hid (HQ22.out.fr fr (.inl hlo2))
          have Sa23 := Lib.hid (Sa22.out.fr fr (.inr hdis))
          clear HB22 HQ22 Sa22
          have Sb23 := Lib.hid hs
          clear hs fr Sb22
          obtain ⟨oc0, oc1, oc2⟩ := HOP.out _ HB23.out
          have cQ := HQ23.out.cells
          have lQ := HQ23.out.lt
          by_cases hod : od.length = N
          · have HODE := Lib.hid hod
            have gq3 : ((od.length : Int) != (N : Int)) = false := by simp; omega
            have gq5 : (od.length != N) = false := by simp; omega
            have gq6 : ((od.length : Int) == (N : Int)) = true := by simp; omega
            have gq7 : (od.length == N) = true := by simp; omega
            have gq8 : decide ((od.length : Int) ≠ (N : Int)) = false := decide_eq_false (by omega)
            clear hod
            go_wp2_with fail
            have hz23 := Sb23.out.top.1
            refine (SS.tick o.A o.cc o.cs Sa23.out (by rw [HCNE.out]; exact (ack_oks o.R HLr.out)) (by rw [HCNE.out]; exact HMr.out) (HCR.out.below HB23.out) (FrC.of HCR.out (by omega) (Nat.le_of_lt hlo)) (by rw [HMl.out]; exact HCNE.out) HB23.out (by rw [ackL_len, HLl.out]; omega) (by rw [HMl.out]; omega)).mono ?_
            rintro e W24 ⟨va, vb, rfl, ra, rb, hs, fr⟩
            (try clear cQ); (try clear lQ); (try clear oc0); (try clear oc1); (try clear oc2)
            have HB24 := Lib.hid (fr.below HB23.out (Nat.le_refl _) (Nat.le_of_lt hlo))
            have HQ24 := Lib.hid (HQ23.out.fr fr (.inl hlo))
            have Sb24 := Lib.hid (Sb23.out.fr fr (.inl hdis))
            clear HB23 HQ23 Sb23
            have Sa24 := Lib.hid hs
            clear hs fr Sa23
            have RA24 := Lib.hid ra
            have RB24 := Lib.hid rb
            clear ra rb
            obtain ⟨oc0, oc1, oc2⟩ := HOP.out _ HB24.out
            have cQ := HQ24.out.cells
            have lQ := HQ24.out.lt
            go_wp2_with fail
            refine (SS.tick o.A o.cc o.cs Sb24.out (by rw [HCNE.out]; exact (ack_oks o.R HLr.out)) (by rw [HCNE.out]; exact HMr.out) (HCR.out.below HB24.out) (FrC.of HCR.out (by omega) (Nat.le_of_lt hlo2)) (by rw [HMl.out]; exact HCNE.out) HB24.out (by rw [ackL_len, HLl.out]; omega) (by rw [HMl.out]; omega)).mono ?_
            rintro e W25 ⟨ua, ub, rfl, ra, rb, hs, fr⟩
            (try clear cQ); (try clear lQ); (try clear oc0); (try clear oc1); (try clear oc2)
            have HB25 := Lib.hid (fr.below HB24.out (Nat.le_refl _) (Nat.le_of_lt hlo2))
            have HQ25 := Lib.hid (HQ24.out.fr fr (.inl hlo2))
            have Sa25 := Lib.hid (Sa24.out.fr fr (.inr hdis))
            have RA25 := Lib.hid (RA24.out.fr fr hz23)
            have RB25 := Lib.hid (RB24.out.fr fr hz23)
            clear HB24 HQ24 Sa24 RA24 RB24
            have Sb25 := Lib.hid hs
            clear hs fr Sb24
            have UA25 := Lib.hid ra
            have UB25 := Lib.hid rb
            clear ra rb
            obtain ⟨oc0, oc1, oc2⟩ := HOP.out _ HB25.out
            have cQ := HQ25.out.cells
            have lQ := HQ25.out.lt
            go_wp2_with fail
            refine (same_any _ _ _ _ _ _ _ RA25.out.1 UA25.out.1).mono ?_
            rintro e W26 ⟨rfl, hk⟩
            (try clear cQ); (try clear lQ); (try clear oc0); (try clear oc1); (try clear oc2)
            have HB26 := Lib.hid (Btrans HB25.out hk)
            have HQ26 := Lib.hid (HQ25.out.below hk)
            have Sa26 := Lib.hid (Sa25.out.below hk)
            have Sb26 := Lib.hid (Sb25.out.below hk)
            have RA26 := Lib.hid (RA25.out.fr (Fr.of_below (lo := 0) (hi := 0) hk) (Nat.zero_le _))
            have RB26 := Lib.hid (RB25.out.fr (Fr.of_below (lo := 0) (hi := 0) hk) (Nat.zero_le _))
            have UA26 := Lib.hid (UA25.out.fr (Fr.of_below (lo := 0) (hi := 0) hk) (Nat.zero_le _))
            have UB26 := Lib.hid (UB25.out.fr (Fr.of_below (lo := 0) (hi := 0) hk) (Nat.zero_le _))
            clear HB25 HQ25 Sa25 Sb25 RA25 RB25 UA25 UB25
            clear hk
            rw [decide_eq_true rfl]
            obtain ⟨oc0, oc1, oc2⟩ := HOP.out _ HB26.out
            have cQ := HQ26.out.cells
            have lQ := HQ26.out.lt
            go_wp2_with fail
            refine (same_any _ _ _ _ _ _ _ RB26.out.1 UB26.out.1).mono ?_
            rintro e W27 ⟨rfl, hk⟩
            (try clear cQ); (try clear lQ); (try clear oc0); (try clear oc1); (try clear oc2)
            have HB27 := Lib.hid (Btrans HB26.out hk)
            have HQ27 := Lib.hid (HQ26.out.below hk)
            have Sa27 := Lib.hid (Sa26.out.below hk)
            have Sb27 := Lib.hid (Sb26.out.below hk)
            have RB27 := Lib.hid (RB26.out.fr (Fr.of_below (lo := 0) (hi := 0) hk) (Nat.zero_le _))
            have UB27 := Lib.hid (UB26.out.fr (Fr.of_below (lo := 0) (hi := 0) hk) (Nat.zero_le _))
            clear HB26 HQ26 Sa26 Sb26 RB26 UB26
            clear hk
            rw [decide_eq_true rfl]
            obtain ⟨oc0, oc1, oc2⟩ := HOP.out _ HB27.out
            have cQ := HQ27.out.cells
            have lQ := HQ27.out.lt
            go_wp2
            go_roundw
            case rel => exact ⟨j + 1, by omega, by go_num, HB27.out, HQ27.out, _, _, Sa27.out, Sb27.out, next_oks _ (ack_oks o.R HLr.out), next_oks _ HMr.out, by rw [List.length_map, HMl.out], by rw [List.length_map, ackL_len, HLl.out]⟩
            case measure => simp [intOf]; omega
          · have gq3 : ((od.length : Int) != (N : Int)) = true := by simp; omega
            have gq5 : (od.length != N) = true := by simp; omega
            have gq6 : ((od.length : Int) == (N : Int)) = false := by simp; omega
            have gq7 : (od.length == N) = false := by simp; omega
            have gq8 : decide ((od.length : Int) ≠ (N : Int)) = true := decide_eq_true (by omega)
            go_wp2_with fail
            refine (SS.tick_no DA dc od Sa23.out (by rw [HMl.out]; exact hod)).mono ?_
            rintro e W24 ⟨rfl, hk⟩
            (try clear cQ); (try clear lQ); (try clear oc0); (try clear oc1); (try clear oc2)
            have HB24 := Lib.hid (Btrans HB23.out hk)
            have HQ24 := Lib.hid (HQ23.out.below hk)
            have Sa24 := Lib.hid (Sa23.out.below hk)
            have Sb24 := Lib.hid (Sb23.out.below hk)
            clear HB23 HQ23 Sa23 Sb23
            clear hk
            obtain ⟨oc0, oc1, oc2⟩ := HOP.out _ HB24.out
            have cQ := HQ24.out.cells
            have lQ := HQ24.out.lt
            go_wp2_with fail
            have hz24 := Sb24.out.top.1
            refine (SS.tick o.A o.cc o.cs Sa24.out (by rw [HCNE.out]; exact (ack_oks o.R HLr.out)) (by rw [HCNE.out]; exact HMr.out) (HCR.out.below HB24.out) (FrC.of HCR.out (by omega) (Nat.le_of_lt hlo)) (by rw [HMl.out]; exact HCNE.out) HB24.out (by rw [ackL_len, HLl.out]; omega) (by rw [HMl.out]; omega)).mono ?_
            rintro e W25 ⟨va, vb, rfl, ra, rb, hs, fr⟩
            (try clear cQ); (try clear lQ); (try clear oc0); (try clear oc1); (try clear oc2)
            have HB25 := Lib.hid (fr.below HB24.out (Nat.le_refl _) (Nat.le_of_lt hlo))
            have HQ25 := Lib.hid (HQ24.out.fr fr (.inl hlo))
            have Sb25 := Lib.hid (Sb24.out.fr fr (.inl hdis))
            clear HB24 HQ24 Sb24
            have Sa25 := Lib.hid hs
            clear hs fr Sa24
            have RA25 := Lib.hid ra
            have RB25 := Lib.hid rb
            clear ra rb
            obtain ⟨oc0, oc1, oc2⟩ := HOP.out _ HB25.out
            have cQ := HQ25.out.cells
            have lQ := HQ25.out.lt
            go_wp2_with fail
            refine (SS.tick o.A o.cc o.cs Sb25.out (by rw [HCNE.out]; exact (ack_oks o.R HLr.out)) (by rw [HCNE.out]; exact HMr.out) (HCR.out.below HB25.out) (FrC.of HCR.out (by omega) (Nat.le_of_lt hlo2)) (by rw [HMl.out]; exact HCNE.out) HB25.out (by rw [ackL_len, HLl.out]; omega) (by rw [HMl.out]; omega)).mono ?_
            rintro e W26 ⟨ua, ub, rfl, ra, rb, hs, fr⟩
            (try clear cQ); (try clear lQ); (try clear oc0); (try clear oc1); (try clear oc2)
            have HB26 := Lib.hid (fr.below HB25.out (Nat.le_refl _) (Nat.le_of_lt hlo2))
            have HQ26 := Lib.hid (HQ25.out.fr fr (.inl hlo2))
            have Sa26 := Lib.hid (Sa25.out.fr fr (.inr hdis))
            have RA26 := Lib.hid (RA25.out.fr fr hz24)
            have RB26 := Lib.hid (RB25.out.fr fr hz24)
            clear HB25 HQ25 Sa25 RA25 RB25
            have Sb26 := Lib.hid hs
            clear hs fr Sb25
            have UA26 := Lib.hid ra
            have UB26 := Lib.hid rb
            clear ra rb
            obtain ⟨oc0, oc1, oc2⟩ := HOP.out _ HB26.out
            have cQ := HQ26.out.cells
            have lQ := HQ26.out.lt
            go_wp2_with fail
            refine (same_any _ _ _ _ _ _ _ RA26.out.1 UA26.out.1).mono ?_
            rintro e W27 ⟨rfl, hk⟩
            (try clear cQ); (try clear lQ); (try clear oc0); (try clear oc1); (try clear oc2)
            have HB27 := Lib.hid (Btrans HB26.out hk)
            have HQ27 := Lib.hid (HQ26.out.below hk)
            have Sa27 := Lib.hid (Sa26.out.below hk)
            have Sb27 := Lib.hid (Sb26.out.below hk)
            have RA27 := Lib.hid (RA26.out.fr (Fr.of_below (lo := 0) (hi := 0) hk) (Nat.zero_le _))
            have RB27 := Lib.hid (RB26.out.fr (Fr.of_below (lo := 0) (hi := 0) hk) (Nat.zero_le _))
            have UA27 := Lib.hid (UA26.out.fr (Fr.of_below (lo := 0) (hi := 0) hk) (Nat.zero_le _))
            have UB27 := Lib.hid (UB26.out.fr (Fr.of_below (lo := 0) (hi := 0) hk) (Nat.zero_le _))
            clear HB26 HQ26 Sa26 Sb26 RA26 RB26 UA26 UB26
            clear hk
            rw [decide_eq_true rfl]
            obtain ⟨oc0, oc1, oc2⟩ := HOP.out _ HB27.out
            have cQ := HQ27.out.cells
            have lQ := HQ27.out.lt
            go_wp2_with fail
            refine (same_any _ _ _ _ _ _ _ RB27.out.1 UB27.out.1).mono ?_
            rintro e W28 ⟨rfl, hk⟩
            (try clear cQ); (try clear lQ); (try clear oc0); (try clear oc1); (try clear oc2)
            have HB28 := Lib.hid (Btrans HB27.out hk)
            have HQ28 := Lib.hid (HQ27.out.below hk)
            have Sa28 := Lib.hid (Sa27.out.below hk)
            have Sb28 := Lib.hid (Sb27.out.below hk)
            have RB28 := Lib.hid (RB27.out.fr (Fr.of_below (lo := 0) (hi := 0) hk) (Nat.zero_le _))
            have UB28 := Lib.hid (UB27.out.fr (Fr.of_below (lo := 0) (hi := 0) hk) (Nat.zero_le _))
            clear HB27 HQ27 Sa27 Sb27 RB27 UB27
            clear hk
            rw [decide_eq_true rfl]
            obtain ⟨oc0, oc1, oc2⟩ := HOP.out _ HB28.out
            have cQ := HQ28.out.cells
            have lQ := HQ28.out.lt
            go_wp2
            go_roundw
            case rel => exact ⟨j + 1, by omega, by go_num, HB28.out, HQ28.out, _, _, Sa28.out, Sb28.out, next_oks _ (ack_oks o.R HLr.out), next_oks _ HMr.out, by rw [List.length_map, HMl.out], by rw [List.length_map, ackL_len, HLl.out]⟩
            case measure => simp [intOf]; omega
        have gr2 : decide (r ≥ (rs.length : Int)) = false := decide_eq_false hr2
        by_cases hc1 : ch < 0
        · have gc1 : decide (ch < 0) = true := decide_eq_true hc1
          have HAC := Lib.hid (show ackL ch M = M from ackL_no (by omega))
          go_wp2_with fail
          refine (SS.ackC ch Sa20.out (by rw [HMl.out]; omega)).mono ?_
          rintro e W21 ⟨rfl, hs, fr⟩
          (try clear cQ); (try clear lQ); (try clear oc0); (try clear oc1); (try clear oc2)
          have HB21 := Lib.hid (fr.below HB20.out (Nat.le_refl _) (Nat.le_of_lt hlo))
          have HQ21 := Lib.hid (HQ20.out.fr fr (.inl hlo))
          have Sb21 := Lib.hid (Sb20.out.fr fr (.inl hdis))
          clear HB20 HQ20 Sb20
          have Sa21 := Lib.hid hs
          clear hs fr Sa20
          obtain ⟨oc0, oc1, oc2⟩ := HOP.out _ HB21.out
          have cQ := HQ21.out.cells
          have lQ := HQ21.out.lt
          rw [show decide (0 ≤ ch ∧ ch < (M.length : Int)) = false from decide_eq_false (by omega)]
          have Sa21' := Lib.hid (show SS w W21 lo hi pb L M by have := Sa21.out; rw [HAC.out] at this; exact this)
          clear Sa21
          have Sa21 := Lib.hid Sa21'.out
          clear Sa21'
          go_wp2_with fail
          refine (SS.ackR o.R Sa21.out (by rw [HLl.out]; omega)).mono ?_
          rintro e W22 ⟨rfl, hs, fr⟩
          (try clear cQ); (try clear lQ); (try clear oc0); (try clear oc1); (try clear oc2)
          have HB22 := Lib.hid (fr.below HB21.out (Nat.le_refl _) (Nat.le_of_lt hlo))
          have HQ22 := Lib.hid (HQ21.out.fr fr (.inl hlo))
          have Sb22 := Lib.hid (Sb21.out.fr fr (.inl hdis))
          clear HB21 HQ21 Sb21
          have Sa22 := Lib.hid hs
          clear hs fr Sa21
          obtain ⟨oc0, oc1, oc2⟩ := HOP.out _ HB22.out
          have cQ := HQ22.out.cells
          have lQ := HQ22.out.lt
          go_wp2_with fail
          refine (SS.ackR o.R Sb22.out (by rw [HLl.out]; omega)).mono ?_
          rintro e W23 ⟨rfl, hs, fr⟩
          (try clear cQ); (try clear lQ); (try clear oc0); (try clear oc1); (try clear oc2)
          have HB23 := Lib.hid (fr.below HB22.out (Nat.le_refl _) (Nat.le_of_lt hlo2))
          have HQ23 := Lib.hid (HQ22.out.fr fr (.inl hlo2))
          have Sa23 := Lib.hid (Sa22.out.fr fr (.inr hdis))
          clear HB22 HQ22 Sa22
          have Sb23 := Lib.hid hs
          clear hs fr Sb22
          obtain ⟨oc0, oc1, oc2⟩ := HOP.out _ HB23.out
          have cQ := HQ23.out.cells
          have lQ := HQ23.out.lt
          by_cases hod : od.length = N
          · have HODE := Lib.hid hod
            have gq3 : ((od.length : Int) != (N : Int)) = false := by simp; omega
            have gq5 : (od.length != N) = false := by simp; omega
            have gq6 : ((od.length : Int) == (N : Int)) = true := by simp; omega
            have gq7 : (od.length == N) = true := by simp; omega
            have gq8 : decide ((od.length : Int) ≠ (N : Int)) = false := decide_eq_false (by omega)
            clear hod
            go_wp2_with fail
            have hz23 := Sb23.out.top.1
            refine (SS.tick o.A o.cc o.cs Sa23.out (by rw [HCNE.out]; exact (ack_oks o.R HLr.out)) (by rw [HCNE.out]; exact HMr.out) (HCR.out.below HB23.out) (FrC.of HCR.out (by omega) (Nat.le_of_lt hlo)) (by rw [HMl.out]; exact HCNE.out) HB23.out (by rw [ackL_len, HLl.out]; omega) (by rw [HMl.out]; omega)).mono ?_
            rintro e W24 ⟨va, vb, rfl, ra, rb, hs, fr⟩
            (try clear cQ); (try clear lQ); (try clear oc0); (try clear oc1); (try clear oc2)
            have HB24 := Lib.hid (fr.below HB23.out (Nat.le_refl _) (Nat.le_of_lt hlo))
            have HQ24 := Lib.hid (HQ23.out.fr fr (.inl hlo))
            have Sb24 := Lib.hid (Sb23.out.fr fr (.inl hdis))
            clear HB23 HQ23 Sb23
            have Sa24 := Lib.hid hs
            clear hs fr Sa23
            have RA24 := Lib.hid ra
            have RB24 := Lib.hid rb
            clear ra rb
            obtain ⟨oc0, oc1, oc2⟩ := HOP.out _ HB24.out
            have cQ := HQ24.out.cells
            have lQ := HQ24.out.lt
            go_wp2_with fail
            refine (SS.tick o.A o.cc o.cs Sb24.out (by rw [HCNE.out]; exact (ack_oks o.R HLr.out)) (by rw [HCNE.out]; exact HMr.out) (HCR.out.below HB24.out) (FrC.of HCR.out (by omega) (Nat.le_of_lt hlo2)) (by rw [HMl.out]; exact HCNE.out) HB24.out (by rw [ackL_len, HLl.out]; omega) (by rw [HMl.out]; omega)).mono ?_
            rintro e W25 ⟨ua, ub, rfl, ra, rb, hs, fr⟩
            (try clear cQ); (try clear lQ); (try clear oc0); (try clear oc1); (try clear oc2)
            have HB25 := Lib.hid (fr.below HB24.out (Nat.le_refl _) (Nat.le_of_lt hlo2))
            have HQ25 := Lib.hid (HQ24.out.fr fr (.inl hlo2))
            have Sa25 := Lib.hid (Sa24.out.fr fr (.inr hdis))
            have RA25 := Lib.hid (RA24.out.fr fr hz23)
            have RB25 := Lib.hid (RB24.out.fr fr hz23)
            clear HB24 HQ24 Sa24 RA24 RB24
            have Sb25 := Lib.hid hs
            clear hs fr Sb24
            have UA25 := Lib.hid ra
            have UB25 := Lib.hid rb
            clear ra rb
            obtain ⟨oc0, oc1, oc2⟩ := HOP.out _ HB25.out
            have cQ := HQ25.out.cells
            have lQ := HQ25.out.lt
            go_wp2_with fail
            refine (same_any _ _ _ _ _ _ _ RA25.out.1 UA25.out.1).mono ?_
            rintro e W26 ⟨rfl, hk⟩
            (try clear cQ); (try clear lQ); (try clear oc0); (try clear oc1); (try clear oc2)
            have HB26 := Lib.hid (Btrans HB25.out hk)
            have HQ26 := Lib.hid (HQ25.out.below hk)
            have Sa26 := Lib.hid (Sa25.out.below hk)
            have Sb26 := Lib.hid (Sb25.out.below hk)
            have RA26 := Lib.hid (RA25.out.fr (Fr.of_below (lo := 0) (hi := 0) hk) (Nat.zero_le _))
            have RB26 := Lib.hid (RB25.out.fr (Fr.of_below (lo := 0) (hi := 0) hk) (Nat.zero_le _))
            have UA26 := Lib.hid (UA25.out.fr (Fr.of_below (lo := 0) (hi := 0) hk) (Nat.zero_le _))
            have UB26 := Lib.hid (UB25.out.fr (Fr.of_below (lo := 0) (hi := 0) hk) (Nat.zero_le _))
            clear HB25 HQ25 Sa25 Sb25 RA25 RB25 UA25 UB25
            clear hk
            rw [decide_eq_true rfl]
            obtain ⟨oc0, oc1, oc2⟩ := HOP.out _ HB26.out
            have cQ := HQ26.out.cells
            have lQ := HQ26.out.lt
            go_wp2_with fail
            refine (same_any _ _ _ _ _ _ _ RB26.out.1 UB26.out.1).mono ?_
            rintro e W27 ⟨rfl, hk⟩
            (try clear cQ); (try clear lQ); (try clear oc0); (try clear oc1); (try clear oc2)
            have HB27 := Lib.hid (Btrans HB26.out hk)
            have HQ27 := Lib.hid (HQ26.out.below hk)
            have Sa27 := Lib.hid (Sa26.out.below hk)
            have Sb27 := Lib.hid (Sb26.out.below hk)
            have RB27 := Lib.hid (RB26.out.fr (Fr.of_below (lo := 0) (hi := 0) hk) (Nat.zero_le _))
            have UB27 := Lib.hid (UB26.out.fr (Fr.of_below (lo := 0) (hi := 0) hk) (Nat.zero_le _))
            clear HB26 HQ26 Sa26 Sb26 RB26 UB26
            clear hk
            rw [decide_eq_true rfl]
            obtain ⟨oc0, oc1, oc2⟩ := HOP.out _ HB27.out
            have cQ := HQ27.out.cells
            have lQ := HQ27.out.lt
            go_wp2
            go_roundw
            case rel => exact ⟨j + 1, by omega, by go_num, HB27.out, HQ27.out, _, _, Sa27.out, Sb27.out, next_oks _ (ack_oks o.R HLr.out), next_oks _ HMr.out, by rw [List.length_map, HMl.out], by rw [List.length_map, ackL_len, HLl.out]⟩
            case measure => simp [intOf]; omega
          · have gq3 : ((od.length : Int) != (N : Int)) = true := by simp; omega
            have gq5 : (od.length != N) = true := by simp; omega
            have gq6 : ((od.length : Int) == (N : Int)) = false := by simp; omega
            have gq7 : (od.length == N) = false := by simp; omega
            have gq8 : decide ((od.length : Int) ≠ (N : Int)) = true := decide_eq_true (by omega)
            go_wp2_with fail
            refine (SS.tick_no DA dc od Sa23.out (by rw [HMl.out]; exact hod)).mono ?_
            rintro e W24 ⟨rfl, hk⟩
            (try clear cQ); (try clear lQ); (try clear oc0); (try clear oc1); (try clear oc2)
            have HB24 := Lib.hid (Btrans HB23.out hk)
            have HQ24 := Lib.hid (HQ23.out.below hk)
            have Sa24 := Lib.hid (Sa23.out.below hk)
            have Sb24 := Lib.hid (Sb23.out.below hk)
            clear HB23 HQ23 Sa23 Sb23
            clear hk
            obtain ⟨oc0, oc1, oc2⟩ := HOP.out _ HB24.out
            have cQ := HQ24.out.cells
            have lQ := HQ24.out.lt
            go_wp2_with fail
            have hz24 := Sb24.out.top.1
            refine (SS.tick o.A o.cc o.cs Sa24.out (by rw [HCNE.out]; exact (ack_oks o.R HLr.out)) (by rw [HCNE.out]; exact HMr.out) (HCR.out.below HB24.out) (FrC.of HCR.out (by omega) (Nat.le_of_lt hlo)) (by rw [HMl.out]; exact HCNE.out) HB24.out (by rw [ackL_len, HLl.out]; omega) (by rw [HMl.out]; omega)).mono ?_
            rintro e W25 ⟨va, vb, rfl, ra, rb, hs, fr⟩
            (try clear cQ); (try clear lQ); (try clear oc0); (try clear oc1); (try clear oc2)
            have HB25 := Lib.hid (fr.below HB24.out (Nat.le_refl _) (Nat.le_of_lt hlo))
            have HQ25 := Lib.hid (HQ24.out.fr fr (.inl hlo))
            have Sb25 := Lib.hid (Sb24.out.fr fr (.inl hdis))
            clear HB24 HQ24 Sb24
            have Sa25 := Lib.hid hs
            clear hs fr Sa24
            have RA25 := Lib.hid ra
            have RB25 := Lib.hid rb
            clear ra rb
            obtain ⟨oc0, oc1, oc2⟩ := HOP.out _ HB25.out
            have cQ := HQ25.out.cells
            have lQ := HQ25.out.lt
            go_wp2_with fail
            refine (SS.tick o.A o.cc o.cs Sb25.out (by rw [HCNE.out]; exact (ack_oks o.R HLr.out)) (by rw [HCNE.out]; exact HMr.out) (HCR.out.below HB25.out) (FrC.of HCR.out (by omega) (Nat.le_of_lt hlo2)) (by rw [HMl.out]; exact HCNE.out) HB25.out (by rw [ackL_len, HLl.out]; omega) (by rw [HMl.out]; omega)).mono ?_
            rintro e W26 ⟨ua, ub, rfl, ra, rb, hs, fr⟩
            (try clear cQ); (try clear lQ); (try clear oc0); (try clear oc1); (try clear oc2)
            have HB26 := Lib.hid (fr.below HB25.out (Nat.le_refl _) (Nat.le_of_lt hlo2))
            have HQ26 := Lib.hid (HQ25.out.fr fr (.inl hlo2))
            have Sa26 := Lib.hid (Sa25.out.fr fr (.inr hdis))
            have RA26 := Lib.hid (RA25.out.fr fr hz24)
            have RB26 := Lib.hid (RB25.out.fr fr hz24)
            clear HB25 HQ25 Sa25 RA25 RB25
            have Sb26 := Lib.hid hs
            clear hs fr Sb25
            have UA26 := Lib.hid ra
            have UB26 := Lib.hid rb
            clear ra rb
            obtain ⟨oc0, oc1, oc2⟩ := HOP.out _ HB26.out
            have cQ := HQ26.out.cells
            have lQ := HQ26.out.lt
            go_wp2_with fail
            refine (same_any _ _ _ _ _ _ _ RA26.out.1 UA26.out.1).mono ?_
            rintro e W27 ⟨rfl, hk⟩
            (try clear cQ); (try clear lQ); (try clear oc0); (try clear oc1); (try clear oc2)
            have HB27 := Lib.hid (Btrans HB26.out hk)
            have HQ27 := Lib.hid (HQ26.out.below hk)
            have Sa27 := Lib.hid (Sa26.out.below hk)
            have Sb27 := Lib.hid (Sb26.out.below hk)
            have RA27 := Lib.hid (RA26.out.fr (Fr.of_below (lo := 0) (hi := 0) hk) (Nat.zero_le _))
            have RB27 := Lib.hid (RB26.out.fr (Fr.of_below (lo := 0) (hi := 0) hk) (Nat.zero_le _))
            have UA27 := Lib.hid (UA26.out.fr (Fr.of_below (lo := 0) (hi := 0) hk) (Nat.zero_le _))
            have UB27 := Lib.hid (UB26.out.fr (Fr.of_below (lo := 0) (hi := 0) hk) (Nat.zero_le _))
            clear HB26 HQ26 Sa26 Sb26 RA26 RB26 UA26 UB26
            clear hk
            rw [decide_eq_true rfl]
            obtain ⟨oc0, oc1, oc2⟩ := HOP.out _ HB27.out
            have cQ := HQ27.out.cells
            have lQ := HQ27.out.lt
            go_wp2_with fail
            refine (same_any _ _ _ _ _ _ _ RB27.out.1 UB27.out.1).mono ?_
            rintro e W28 ⟨rfl, hk⟩
            (try clear cQ); (try clear lQ); (try clear oc0); (try clear oc1); (try clear oc2)
            have HB28 := Lib.hid (Btrans HB27.out hk)
            have HQ28 := Lib.hid (HQ27.out.below hk)
            have Sa28 := Lib.hid (Sa27.out.below hk)
            have Sb28 := Lib.hid (Sb27.out.below hk)
            have RB28 := Lib.hid (RB27.out.fr (Fr.of_below (lo := 0) (hi := 0) hk) (Nat.zero_le _))
            have UB28 := Lib.hid (UB27.out.fr (Fr.of_below (lo := 0) (hi := 0) hk) (Nat.zero_le _))
            clear HB27 HQ27 Sa27 Sb27 RB27 UB27
            clear hk
            rw [decide_eq_true rfl]
            obtain ⟨oc0, oc1, oc2⟩ := HOP.out _ HB28.out
            have cQ := HQ28.out.cells
            have lQ := HQ28.out.lt
            go_wp2
            go_roundw
            case rel => exact ⟨j + 1, by omega, by go_num, HB28.out, HQ28.out, _, _, Sa28.out, Sb28.out, next_oks _ (ack_oks o.R HLr.out), next_oks _ HMr.out, by rw [List.length_map, HMl.out], by rw [List.length_map, ackL_len, HLl.out]⟩
            case measure => simp [intOf]; omega
        have gc1 : decide (ch < 0) = false := decide_eq_false hc1
        by_cases hc2 : ch ≥ (N : Int)
        · have gc2 : decide (ch ≥ (N : Int)) = true := decide_eq_true hc2
          have HAC := Lib.hid (show ackL ch M = M from ackL_no (by rw [HMl.out]; omega))
          go_wp2_with fail
          refine (SS.ackC ch Sa20.out (by rw [HMl.out]; omega)).mono ?_
          rintro e W21 ⟨rfl, hs, fr⟩
          (try clear cQ); (try clear lQ); (try clear oc0); (try clear oc1); (try clear oc2)
          have HB21 := Lib.hid (fr.below HB20.out (Nat.le_refl _) (Nat.le_of_lt hlo))
          have HQ21 := Lib.hid (HQ20.out.fr fr (.inl hlo))
          have Sb21 := Lib.hid (Sb20.out.fr fr (.inl hdis))
          clear HB20 HQ20 Sb20
          have Sa21 := Lib.hid hs
          clear hs fr Sa20
          obtain ⟨oc0, oc1, oc2⟩ := HOP.out _ HB21.out
          have cQ := HQ21.out.cells
          have lQ := HQ21.out.lt
          rw [show decide (0 ≤ ch ∧ ch < (M.length : Int)) = false from decide_eq_false (by rw [HMl.out]; omega)]
          have Sa21' := Lib.hid (show SS w W21 lo hi pb L M by have := Sa21.out; rw [HAC.out] at this; exact this)
          clear Sa21
          have Sa21 := Lib.hid Sa21'.out
          clear Sa21'
          go_wp2_with fail
          refine (SS.ackR o.R Sa21.out (by rw [HLl.out]; omega)).mono ?_
          rintro e W22 ⟨rfl, hs, fr⟩
          (try clear cQ); (try clear lQ); (try clear oc0); (try clear oc1); (try clear oc2)
          have HB22 := Lib.hid (fr.below HB21.out (Nat.le_refl _) (Nat.le_of_lt hlo))
          have HQ22 := Lib.hid (HQ21.out.fr fr (.inl hlo))
          have Sb22 := Lib.hid (Sb21.out.fr fr (.inl hdis))
          clear HB21 HQ21 Sb21
          have Sa22 := Lib.hid hs
          clear hs fr Sa21
          obtain ⟨oc0, oc1, oc2⟩ := HOP.out _ HB22.out
          have cQ := HQ22.out.cells
          have lQ := HQ22.out.lt
          go_wp2_with fail
          refine (SS.ackR o.R Sb22.out (by rw [HLl.out]; omega)).mono ?_
          rintro e W23 ⟨rfl, hs, fr⟩
          (try clear cQ); (try clear lQ); (try clear oc0); (try clear oc1); (try clear oc2)
          have HB23 := Lib.hid (fr.below HB22.out (Nat.le_refl _) (Nat.le_of_lt hlo2))
          have HQ23 := Lib.hid (HQ22.out.fr fr (.inl hlo2))
          have Sa23 := Lib.hid (Sa22.out.fr fr (.inr hdis))
          clear HB22 HQ22 Sa22
          have Sb23 := Lib.hid hs
          clear hs fr Sb22
          obtain ⟨oc0, oc1, oc2⟩ := HOP.out _ HB23.out
          have cQ := HQ23.out.cells
          have lQ := HQ23.out.lt
          by_cases hod : od.length = N
          · have HODE := Lib.hid hod
            have gq3 : ((od.length : Int) != (N : Int)) = false := by simp; omega
            have gq5 : (od.length != N) = false := by simp; omega
            have gq6 : ((od.length : Int) == (N : Int)) = true := by simp; omega
            have gq7 : (od.length == N) = true := by simp; omega
            have gq8 : decide ((od.length : Int) ≠ (N : Int)) = false := decide_eq_false (by omega)
            clear hod
            go_wp2_with fail
            have hz23 := Sb23.out.top.1
            refine (SS.tick o.A o.cc o.cs Sa23.out (by rw [HCNE.out]; exact (ack_oks o.R HLr.out)) (by rw [HCNE.out]; exact HMr.out) (HCR.out.below HB23.out) (FrC.of HCR.out (by omega) (Nat.le_of_lt hlo)) (by rw [HMl.out]; exact HCNE.out) HB23.out (by rw [ackL_len, HLl.out]; omega) (by rw [HMl.out]; omega)).mono ?_
            rintro e W24 ⟨va, vb, rfl, ra, rb, hs, fr⟩
            (try clear cQ); (try clear lQ); (try clear oc0); (try clear oc1); (try clear oc2)
            have HB24 := Lib.hid (fr.below HB23.out (Nat.le_refl _) (Nat.le_of_lt hlo))
            have HQ24 := Lib.hid (HQ23.out.fr fr (.inl hlo))
            have Sb24 := Lib.hid (Sb23.out.fr fr (.inl hdis))
            clear HB23 HQ23 Sb23
            have Sa24 := Lib.hid hs
            clear hs fr Sa23
            have RA24 := Lib.hid ra
            have RB24 := Lib.hid rb
            clear ra rb
            obtain ⟨oc0, oc1, oc2⟩ := HOP.out _ HB24.out
            have cQ := HQ24.out.cells
            have lQ := HQ24.out.lt
            go_wp2_with fail
            refine (SS.tick o.A o.cc o.cs Sb24.out (by rw [HCNE.out]; exact (ack_oks o.R HLr.out)) (by rw [HCNE.out]; exact HMr.out) (HCR.out.below HB24.out) (FrC.of HCR.out (by omega) (Nat.le_of_lt hlo2)) (by rw [HMl.out]; exact HCNE.out) HB24.out (by rw [ackL_len, HLl.out]; omega) (by rw [HMl.out]; omega)).mono ?_
            rintro e W25 ⟨ua, ub, rfl, ra, rb, hs, fr⟩
            (try clear cQ); (try clear lQ); (try clear oc0); (try clear oc1); (try clear oc2)
            have HB25 := Lib.hid (fr.below HB24.out (Nat.le_refl _) (Nat.le_of_lt hlo2))
            have HQ25 := Lib.hid (HQ24.out.fr fr (.inl hlo2))
            have Sa25 := Lib.hid (Sa24.out.fr fr (.inr hdis))
            have RA25 := Lib.hid (RA24.out.fr fr hz23)
            have RB25 := Lib.hid (RB24.out.fr fr hz23)
            clear HB24 HQ24 Sa24 RA24 RB24
            have Sb25 := Lib.hid hs
            clear hs fr Sb24
            have UA25 := Lib.hid ra
            have UB25 := Lib.hid rb
            clear ra rb
            obtain ⟨oc0, oc1, oc2⟩ := HOP.out _ HB25.out
            have cQ := HQ25.out.cells
            have lQ := HQ25.out.lt
            go_wp2_with fail
            refine (same_any _ _ _ _ _ _ _ RA25.out.1 UA25.out.1).mono ?_
            rintro e W26 ⟨rfl, hk⟩
            (try clear cQ); (try clear lQ); (try clear oc0); (try clear oc1); (try clear oc2)
            have HB26 := Lib.hid (Btrans HB25.out hk)
            have HQ26 := Lib.hid (HQ25.out.below hk)
            have Sa26 := Lib.hid (Sa25.out.below hk)
            have Sb26 := Lib.hid (Sb25.out.below hk)
            have RA26 := Lib.hid (RA25.out.fr (Fr.of_below (lo := 0) (hi := 0) hk) (Nat.zero_le _))
            have RB26 := Lib.hid (RB25.out.fr (Fr.of_below (lo := 0) (hi := 0) hk) (Nat.zero_le _))
            have UA26 := Lib.hid (UA25.out.fr (Fr.of_below (lo := 0) (hi := 0) hk) (Nat.zero_le _))
            have UB26 := Lib.hid (UB25.out.fr (Fr.of_below (lo := 0) (hi := 0) hk) (Nat.zero_le _))
            clear HB25 HQ25 Sa25 Sb25 RA25 RB25 UA25 UB25
            clear hk
            rw [decide_eq_true rfl]
            obtain ⟨oc0, oc1, oc2⟩ := HOP.out _ HB26.out
            have cQ := HQ26.out.cells
            have lQ := HQ26.out.lt
            go_wp2_with fail
            refine (same_any _ _ _ _ _ _ _ RB26.out.1 UB26.out.1).mono ?_
            rintro e W27 ⟨rfl, hk⟩
            (try clear cQ); (try clear lQ); (try clear oc0); (try clear oc1); (try clear oc2)
            have HB27 := Lib.hid (Btrans HB26.out hk)
            have HQ27 := Lib.hid (HQ26.out.below hk)
            have Sa27 := Lib.hid (Sa26.out.below hk)
            have Sb27 := Lib.hid (Sb26.out.below hk)
            have RB27 := Lib.hid (RB26.out.fr (Fr.of_below (lo := 0) (hi := 0) hk) (Nat.zero_le _))
            have UB27 := Lib.hid (UB26.out.fr (Fr.of_below (lo := 0) (hi := 0) hk) (Nat.zero_le _))
            clear HB26 HQ26 Sa26 Sb26 RB26 UB26
            clear hk
            rw [decide_eq_true rfl]
            obtain ⟨oc0, oc1, oc2⟩ := HOP.out _ HB27.out
            have cQ := HQ27.out.cells
            have lQ := HQ27.out.lt
            go_wp2
            go_roundw
            case rel => exact ⟨j + 1, by omega, by go_num, HB27.out, HQ27.out, _, _, Sa27.out, Sb27.out, next_oks _ (ack_oks o.R HLr.out), next_oks _ HMr.out, by rw [List.length_map, HMl.out], by rw [List.length_map, ackL_len, HLl.out]⟩
            case measure => simp [intOf]; omega
          · have gq3 : ((od.length : Int) != (N : Int)) = true := by simp; omega
            have gq5 : (od.length != N) = true := by simp; omega
            have gq6 : ((od.length : Int) == (N : Int)) = false := by simp; omega
            have gq7 : (od.length == N) = false := by simp; omega
            have gq8 : decide ((od.length : Int) ≠ (N : Int)) = true := decide_eq_true (by omega)
            go_wp2_with fail
            refine (SS.tick_no DA dc od Sa23.out (by rw [HMl.out]; exact hod)).mono ?_
            rintro e W24 ⟨rfl, hk⟩
            (try clear cQ); (try clear lQ); (try clear oc0); (try clear oc1); (try clear oc2)
            have HB24 := Lib.hid (Btrans HB23.out hk)
            have HQ24 := Lib.hid (HQ23.out.below hk)
            have Sa24 := Lib.hid (Sa23.out.below hk)
            have Sb24 := Lib.hid (Sb23.out.below hk)
            clear HB23 HQ23 Sa23 Sb23
            clear hk
            obtain ⟨oc0, oc1, oc2⟩ := HOP.out _ HB24.out
            have cQ := HQ24.out.cells
            have lQ := HQ24.out.lt
            go_wp2_with fail
            have hz24 := Sb24.out.top.1
            refine (SS.tick o.A o.cc o.cs Sa24.out (by rw [HCNE.out]; exact (ack_oks o.R HLr.out)) (by rw [HCNE.out]; exact HMr.out) (HCR.out.below HB24.out) (FrC.of HCR.out (by omega) (Nat.le_of_lt hlo)) (by rw [HMl.out]; exact HCNE.out) HB24.out (by rw [ackL_len, HLl.out]; omega) (by rw [HMl.out]; omega)).mono ?_
            rintro e W25 ⟨va, vb, rfl, ra, rb, hs, fr⟩
            (try clear cQ); (try clear lQ); (try clear oc0); (try clear oc1); (try clear oc2)
            have HB25 := Lib.hid (fr.below HB24.out (Nat.le_refl _) (Nat.le_of_lt hlo))
            have HQ25 := Lib.hid (HQ24.out.fr fr (.inl hlo))
            have Sb25 := Lib.hid (Sb24.out.fr fr (.inl hdis))
            clear HB24 HQ24 Sb24
            have Sa25 := Lib.hid hs
            clear hs fr Sa24
            have RA25 := Lib.hid ra
            have RB25 := Lib.hid rb
            clear ra rb
            obtain ⟨oc0, oc1, oc2⟩ := HOP.out _ HB25.out
            have cQ := HQ25.out.cells
            have lQ := HQ25.out.lt
            go_wp2_with fail
            refine (SS.tick o.A o.cc o.cs Sb25.out (by rw [HCNE.out]; exact (ack_oks o.R HLr.out)) (by rw [HCNE.out]; exact HMr.out) (HCR.out.below HB25.out) (FrC.of HCR.out (by omega) (Nat.le_of_lt hlo2)) (by rw [HMl.out]; exact HCNE.out) HB25.out (by rw [ackL_len, HLl.out]; omega) (by rw [HMl.out]; omega)).mono ?_
            rintro e W26 ⟨ua, ub, rfl, ra, rb, hs, fr⟩
            (try clear cQ); (try clear lQ); (try clear oc0); (try clear oc1); (try clear oc2)
            have HB26 := Lib.hid (fr.below HB25.out (Nat.le_refl _) (Nat.le_of_lt hlo2))
            have HQ26 := Lib.hid (HQ25.out.fr fr (.inl hlo2))
            have Sa26 := Lib.hid (Sa25.out.fr fr (.inr hdis))
            have RA26 := Lib.hid (RA25.out.fr fr hz24)
            have RB26 := Lib.hid (RB25.out.fr fr hz24)
            clear HB25 HQ25 Sa25 RA25 RB25
            have Sb26 := Lib.hid hs
            clear hs fr Sb25
            have UA26 := Lib.hid ra
            have UB26 := Lib.hid rb
            clear ra rb
            obtain ⟨oc0, oc1, oc2⟩ := HOP.out _ HB26.out
            have cQ := HQ26.out.cells
            have lQ := HQ26.out.lt
            go_wp2_with fail
            refine (same_any _ _ _ _ _ _ _ RA26.out.1 UA26.out.1).mono ?_
            rintro e W27 ⟨rfl, hk⟩
            (try clear cQ); (try clear lQ); (try clear oc0); (try clear oc1); (try clear oc2)
            have HB27 := Lib.hid (Btrans HB26.out hk)
            have HQ27 := Lib.hid (HQ26.out.below hk)
            have Sa27 := Lib.hid (Sa26.out.below hk)
            have Sb27 := Lib.hid (Sb26.out.below hk)
            have RA27 := Lib.hid (RA26.out.fr (Fr.of_below (lo := 0) (hi := 0) hk) (Nat.zero_le _))
            have RB27 := Lib.hid (RB26.out.fr (Fr.of_below (lo := 0) (hi := 0) hk) (Nat.zero_le _))
            have UA27 := Lib.hid (UA26.out.fr (Fr.of_below (lo := 0) (hi := 0) hk) (Nat.zero_le _))
            have UB27 := Lib.hid (UB26.out.fr (Fr.of_below (lo := 0) (hi := 0) hk) (Nat.zero_le _))
            clear HB26 HQ26 Sa26 Sb26 RA26 RB26 UA26 UB26
            clear hk
            rw [decide_eq_true rfl]
            obtain ⟨oc0, oc1, oc2⟩ := HOP.out _ HB27.out
            have cQ := HQ27.out.cells
            have lQ := HQ27.out.lt
            go_wp2_with fail
            refine (same_any _ _ _ _ _ _ _ RB27.out.1 UB27.out.1).mono ?_
            rintro e W28 ⟨rfl, hk⟩
            (try clear cQ); (try clear lQ); (try clear oc0); (try clear oc1); (try clear oc2)
            have HB28 := Lib.hid (Btrans HB27.out hk)
            have HQ28 := Lib.hid (HQ27.out.below hk)
            have Sa28 := Lib.hid (Sa27.out.below hk)
            have Sb28 := Lib.hid (Sb27.out.below hk)
            have RB28 := Lib.hid (RB27.out.fr (Fr.of_below (lo := 0) (hi := 0) hk) (Nat.zero_le _))
            have UB28 := Lib.hid (UB27.out.fr (Fr.of_below (lo := 0) (hi := 0) hk) (Nat.zero_le _))
            clear HB27 HQ27 Sa27 Sb27 RB27 UB27
            clear hk
            rw [decide_eq_true rfl]
            obtain ⟨oc0, oc1, oc2⟩ := HOP.out _ HB28.out
            have cQ := HQ28.out.cells
            have lQ := HQ28.out.lt
            go_wp2
            go_roundw
            case rel => exact ⟨j + 1, by omega, by go_num, HB28.out, HQ28.out, _, _, Sa28.out, Sb28.out, next_oks _ (ack_oks o.R HLr.out), next_oks _ HMr.out, by rw [List.length_map, HMl.out], by rw [List.length_map, ackL_len, HLl.out]⟩
            case measure => simp [intOf]; omega
        have gc2 : decide (ch ≥ (N : Int)) = false := decide_eq_false hc2
        go_wp2_with fail
        refine (SS.ackR o.R Sa20.out (by rw [HLl.out]; omega)).mono ?_
        rintro e W21 ⟨rfl, hs, fr⟩
        (try clear cQ); (try clear lQ); (try clear oc0); (try clear oc1); (try clear oc2)
        have HB21 := Lib.hid (fr.below HB20.out (Nat.le_refl _) (Nat.le_of_lt hlo))
        have HQ21 := Lib.hid (HQ20.out.fr fr (.inl hlo))
        have Sb21 := Lib.hid (Sb20.out.fr fr (.inl hdis))
        clear HB20 HQ20 Sb20
        have Sa21 := Lib.hid hs
        clear hs fr Sa20
        obtain ⟨oc0, oc1, oc2⟩ := HOP.out _ HB21.out
        have cQ := HQ21.out.cells
        have lQ := HQ21.out.lt
        go_wp2_with fail
        refine (SS.ackR o.R Sb21.out (by rw [HLl.out]; omega)).mono ?_
        rintro e W22 ⟨rfl, hs, fr⟩
        (try clear cQ); (try clear lQ); (try clear oc0); (try clear oc1); (try clear oc2)
        have HB22 := Lib.hid (fr.below HB21.out (Nat.le_refl _) (Nat.le_of_lt hlo2))
        have HQ22 := Lib.hid (HQ21.out.fr fr (.inl hlo2))
        have Sa22 := Lib.hid (Sa21.out.fr fr (.inr hdis))
        clear HB21 HQ21 Sa21
        have Sb22 := Lib.hid hs
        clear hs fr Sb21
        obtain ⟨oc0, oc1, oc2⟩ := HOP.out _ HB22.out
        have cQ := HQ22.out.cells
        have lQ := HQ22.out.lt
        by_cases hod : od.length = N
        · have HODE := Lib.hid hod
          have gq3 : ((od.length : Int) != (N : Int)) = false := by simp; omega
          have gq5 : (od.length != N) = false := by simp; omega
          have gq6 : ((od.length : Int) == (N : Int)) = true := by simp; omega
          have gq7 : (od.length == N) = true := by simp; omega
          have gq8 : decide ((od.length : Int) ≠ (N : Int)) = false := decide_eq_false (by omega)
          clear hod
          go_wp2_with fail
          have hz22 := Sb22.out.top.1
          refine (SS.tick o.A o.cc o.cs Sa22.out (by rw [HCNE.out]; exact (ack_oks o.R HLr.out)) (by rw [HCNE.out]; exact HMr.out) (HCR.out.below HB22.out) (FrC.of HCR.out (by omega) (Nat.le_of_lt hlo)) (by rw [HMl.out]; exact HCNE.out) HB22.out (by rw [ackL_len, HLl.out]; omega) (by rw [HMl.out]; omega)).mono ?_
          rintro e W23 ⟨va, vb, rfl, ra, rb, hs, fr⟩
          (try clear cQ); (try clear lQ); (try clear oc0); (try clear oc1); (try clear oc2)
          have HB23 := Lib.hid (fr.below HB22.out (Nat.le_refl _) (Nat.le_of_lt hlo))
          have HQ23 := Lib.hid (HQ22.out.fr fr (.inl hlo))
          have Sb23 := Lib.hid (Sb22.out.fr fr (.inl hdis))
          clear HB22 HQ22 Sb22
          have Sa23 := Lib.hid hs
          clear hs fr Sa22
          have RA23 := Lib.hid ra
          have RB23 := Lib.hid rb
          clear ra rb
          obtain ⟨oc0, oc1, oc2⟩ := HOP.out _ HB23.out
          have cQ := HQ23.out.cells
          have lQ := HQ23.out.lt
          go_wp2_with fail
          refine (SS.tick o.A o.cc o.cs Sb23.out (by rw [HCNE.out]; exact (ack_oks o.R HLr.out)) (by rw [HCNE.out]; exact HMr.out) (HCR.out.below HB23.out) (FrC.of HCR.out (by omega) (Nat.le_of_lt hlo2)) (by rw [HMl.out]; exact HCNE.out) HB23.out (by rw [ackL_len, HLl.out]; omega) (by rw [HMl.out]; omega)).mono ?_
          rintro e W24 ⟨ua, ub, rfl, ra, rb, hs, fr⟩
          (try clear cQ); (try clear lQ); (try clear oc0); (try clear oc1); (try clear oc2)
          have HB24 := Lib.hid (fr.below HB23.out (Nat.le_refl _) (Nat.le_of_lt hlo2))
          have HQ24 := Lib.hid (HQ23.out.fr fr (.inl hlo2))
          have Sa24 := Lib.hid (Sa23.out.fr fr (.inr hdis))
          have RA24 := Lib.hid (RA23.out.fr fr hz22)
          have RB24 := Lib.hid (RB23.out.fr fr hz22)
          clear HB23 HQ23 Sa23 RA23 RB23
          have Sb24 := Lib.hid hs
          clear hs fr Sb23
          have UA24 := Lib.hid ra
          have UB24 := Lib.hid rb
          clear ra rb
          obtain ⟨oc0, oc1, oc2⟩ := HOP.out _ HB24.out
          have cQ := HQ24.out.cells
          have lQ := HQ24.out.lt
          go_wp2_with fail
          refine (same_any _ _ _ _ _ _ _ RA24.out.1 UA24.out.1).mono ?_
          rintro e W25 ⟨rfl, hk⟩
          (try clear cQ); (try clear lQ); (try clear oc0); (try clear oc1); (try clear oc2)
          have HB25 := Lib.hid (Btrans HB24.out hk)
          have HQ25 := Lib.hid (HQ24.out.below hk)
          have Sa25 := Lib.hid (Sa24.out.below hk)
          have Sb25 := Lib.hid (Sb24.out.below hk)
          have RA25 := Lib.hid (RA24.out.fr (Fr.of_below (lo := 0) (hi := 0) hk) (Nat.zero_le _))
          have RB25 := Lib.hid (RB24.out.fr (Fr.of_below (lo := 0) (hi := 0) hk) (Nat.zero_le _))
          have UA25 := Lib.hid (UA24.out.fr (Fr.of_below (lo := 0) (hi := 0) hk) (Nat.zero_le _))
          have UB25 := Lib.hid (UB24.out.fr (Fr.of_below (lo := 0) (hi := 0) hk) (Nat.zero_le _))
          clear HB24 HQ24 Sa24 Sb24 RA24 RB24 UA24 UB24
          clear hk
          rw [decide_eq_true rfl]
          obtain ⟨oc0, oc1, oc2⟩ := HOP.out _ HB25.out
          have cQ := HQ25.out.cells
          have lQ := HQ25.out.lt
          go_wp2_with fail
          refine (same_any _ _ _ _ _ _ _ RB25.out.1 UB25.out.1).mono ?_
          rintro e W26 ⟨rfl, hk⟩
          (try clear cQ); (try clear lQ); (try clear oc0); (try clear oc1); (try clear oc2)
          have HB26 := Lib.hid (Btrans HB25.out hk)
          have HQ26 := Lib.hid (HQ25.out.below hk)
          have Sa26 := Lib.hid (Sa25.out.below hk)
          have Sb26 := Lib.hid (Sb25.out.below hk)
          have RB26 := Lib.hid (RB25.out.fr (Fr.of_below (lo := 0) (hi := 0) hk) (Nat.zero_le _))
          have UB26 := Lib.hid (UB25.out.fr (Fr.of_below (lo := 0) (hi := 0) hk) (Nat.zero_le _))
          clear HB25 HQ25 Sa25 Sb25 RB25 UB25
          clear hk
          rw [decide_eq_true rfl]
          obtain ⟨oc0, oc1, oc2⟩ := HOP.out _ HB26.out
          have cQ := HQ26.out.cells
          have lQ := HQ26.out.lt
          go_wp2
          go_roundw
          case rel => exact ⟨j + 1, by omega, by go_num, HB26.out, HQ26.out, _, _, Sa26.out, Sb26.out, next_oks _ (ack_oks o.R HLr.out), next_oks _ HMr.out, by rw [List.length_map, HMl.out], by rw [List.length_map, ackL_len, HLl.out]⟩
          case measure => simp [intOf]; omega
        · have gq3 : ((od.length : Int) != (N : Int)) = true := by simp; omega
          have gq5 : (od.length != N) = true := by simp; omega
          have gq6 : ((od.length : Int) == (N : Int)) = false := by simp; omega
          have gq7 : (od.length == N) = false := by simp; omega
          have gq8 : decide ((od.length : Int) ≠ (N : Int)) = true := decide_eq_true (by omega)
          go_wp2_with fail
          refine (SS.tick_no DA dc od Sa22.out (by rw [HMl.out]; exact hod)).mono ?_
          rintro e W23 ⟨rfl, hk⟩
          (try clear cQ); (try clear lQ); (try clear oc0); (try clear oc1); (try clear oc2)
          have HB23 := Lib.hid (Btrans HB22.out hk)
          have HQ23 := Lib.hid (HQ22.out.below hk)
          have Sa23 := Lib.hid (Sa22.out.below hk)
          have Sb23 := Lib.hid (Sb22.out.below hk)
          clear HB22 HQ22 Sa22 Sb22
          clear hk
          obtain ⟨oc0, oc1, oc2⟩ := HOP.out _ HB23.out
          have cQ := HQ23.out.cells
          have lQ := HQ23.out.lt
          go_wp2_with fail
          have hz23 := Sb23.out.top.1
          refine (SS.tick o.A o.cc o.cs Sa23.out (by rw [HCNE.out]; exact (ack_oks o.R HLr.out)) (by rw [HCNE.out]; exact HMr.out) (HCR.out.below HB23.out) (FrC.of HCR.out (by omega) (Nat.le_of_lt hlo)) (by rw [HMl.out]; exact HCNE.out) HB23.out (by rw [ackL_len, HLl.out]; omega) (by rw [HMl.out]; omega)).mono ?_
          rintro e W24 ⟨va, vb, rfl, ra, rb, hs, fr⟩
          (try clear cQ); (try clear lQ); (try clear oc0); (try clear oc1); (try clear oc2)
          have HB24 := Lib.hid (fr.below HB23.out (Nat.le_refl _) (Nat.le_of_lt hlo))
          have HQ24 := Lib.hid (HQ23.out.fr fr (.inl hlo))
          have Sb24 := Lib.hid (Sb23.out.fr fr (.inl hdis))
          clear HB23 HQ23 Sb23
          have Sa24 := Lib.hid hs
          clear hs fr Sa23
          have RA24 := Lib.hid ra
          have RB24 := Lib.hid rb
          clear ra rb
          obtain ⟨oc0, oc1, oc2⟩ := HOP.out _ HB24.out
          have cQ := HQ24.out.cells
          have lQ := HQ24.out.lt
          go_wp2_with fail
          refine (SS.tick o.A o.cc o.cs Sb24.out (by rw [HCNE.out]; exact (ack_oks o.R HLr.out)) (by rw [HCNE.out]; exact HMr.out) (HCR.out.below HB24.out) (FrC.of HCR.out (by omega) (Nat.le_of_lt hlo2)) (by rw [HMl.out]; exact HCNE.out) HB24.out (by rw [ackL_len, HLl.out]; omega) (by rw [HMl.out]; omega)).mono ?_
          rintro e W25 ⟨ua, ub, rfl, ra, rb, hs, fr⟩
          (try clear cQ); (try clear lQ); (try clear oc0); (try clear oc1); (try clear oc2)
          have HB25 := Lib.hid (fr.below HB24.out (Nat.le_refl _) (Nat.le_of_lt hlo2))
          have HQ25 := Lib.hid (HQ24.out.fr fr (.inl hlo2))
          have Sa25 := Lib.hid (Sa24.out.fr fr (.inr hdis))
          have RA25 := Lib.hid (RA24.out.fr fr hz23)
          have RB25 := Lib.hid (RB24.out.fr fr hz23)
          clear HB24 HQ24 Sa24 RA24 RB24
          have Sb25 := Lib.hid hs
          clear hs fr Sb24
          have UA25 := Lib.hid ra
          have UB25 := Lib.hid rb
          clear ra rb
          obtain ⟨oc0, oc1, oc2⟩ := HOP.out _ HB25.out
          have cQ := HQ25.out.cells
          have lQ := HQ25.out.lt
          go_wp2_with fail
          refine (same_any _ _ _ _ _ _ _ RA25.out.1 UA25.out.1).mono ?_
          rintro e W26 ⟨rfl, hk⟩
          (try clear cQ); (try clear lQ); (try clear oc0); (try clear oc1); (try clear oc2)
          have HB26 := Lib.hid (Btrans HB25.out hk)
          have HQ26 := Lib.hid (HQ25.out.below hk)
          have Sa26 := Lib.hid (Sa25.out.below hk)
          have Sb26 := Lib.hid (Sb25.out.below hk)
          have RA26 := Lib.hid (RA25.out.fr (Fr.of_below (lo := 0) (hi := 0) hk) (Nat.zero_le _))
          have RB26 := Lib.hid (RB25.out.fr (Fr.of_below (lo := 0) (hi := 0) hk) (Nat.zero_le _))
          have UA26 := Lib.hid (UA25.out.fr (Fr.of_below (lo := 0) (hi := 0) hk) (Nat.zero_le _))
          have UB26 := Lib.hid (UB25.out.fr (Fr.of_below (lo := 0) (hi := 0) hk) (Nat.zero_le _))
          clear HB25 HQ25 Sa25 Sb25 RA25 RB25 UA25 UB25
          clear hk
          rw [decide_eq_true rfl]
          obtain ⟨oc0, oc1, oc2⟩ := HOP.out _ HB26.out
          have cQ := HQ26.out.cells
          have lQ := HQ26.out.lt
          go_wp2_with fail
          refine (same_any _ _ _ _ _ _ _ RB26.out.1 UB26.out.1).mono ?_
          rintro e W27 ⟨rfl, hk⟩
          (try clear cQ); (try clear lQ); (try clear oc0); (try clear oc1); (try clear oc2)
          have HB27 := Lib.hid (Btrans HB26.out hk)
          have HQ27 := Lib.hid (HQ26.out.below hk)
          have Sa27 := Lib.hid (Sa26.out.below hk)
          have Sb27 := Lib.hid (Sb26.out.below hk)
          have RB27 := Lib.hid (RB26.out.fr (Fr.of_below (lo := 0) (hi := 0) hk) (Nat.zero_le _))
          have UB27 := Lib.hid (UB26.out.fr (Fr.of_below (lo := 0) (hi := 0) hk) (Nat.zero_le _))
          clear HB26 HQ26 Sa26 Sb26 RB26 UB26
          clear hk
          rw [decide_eq_true rfl]
          obtain ⟨oc0, oc1, oc2⟩ := HOP.out _ HB27.out
          have cQ := HQ27.out.cells
          have lQ := HQ27.out.lt
          go_wp2
          go_roundw
          case rel => exact ⟨j + 1, by omega, by go_num, HB27.out, HQ27.out, _, _, Sa27.out, Sb27.out, next_oks _ (ack_oks o.R HLr.out), next_oks _ HMr.out, by rw [List.length_map, HMl.out], by rw [List.length_map, ackL_len, HLl.out]⟩
          case measure => simp [intOf]; omega
      · have gn : decide ((o.cs.length : Int) ≠ (N : Int)) = true := decide_eq_true (by omega)
        have gn3 : ((o.cs.length : Int) != (N : Int)) = true := by simp; omega
        have gn5 : (o.cs.length != N) = true := by simp; omega
        have gn6 : ((o.cs.length : Int) == (N : Int)) = false := by simp; omega
        have gn7 : (o.cs.length == N) = false := by simp; omega
        go_wp2
        go_roundw
        case rel => exact ⟨j + 1, by omega, by go_num, HB20.out, HQ20.out, L, M, Sa20.out, Sb20.out, HLr.out, HMr.out, HMl.out, HLl.out⟩
        case measure => simp [intOf]; omega
    · obtain rfl : j = l.length := by omega
      have cQ := HQ20.out.cells
      have lQ := HQ20.out.lt
      go_wp2
      go_ret
      exact ⟨by first | rfl | simp, HB20.out⟩
theorem walk_AlarmRefused (vc : Value) (z : Cf × List Rl) (vl : Value) (l : List Ol) (r ch : Int) (vo : Value) (od : List Cl) (w : World) (h0 : ConfV w vc z) (h1 : OpsV w vl l) (w2 : (Lit.int .i64 r).wf = true) (w3 : (Lit.int .i64 ch).wf = true) (h4 : CellsV w vo od) :
    Calls Try.prog 8 #[vc, vl, .int .i64 r, .int .i64 ch, vo] w fun e w' => e = .returned (.bool true) ∧ Below w.heap.size w w' := walkH_AlarmRefused head_any vc z vl l r ch vo od w h0 h1 w2 w3 h4
end Go.Proofs.Ytcdmojimdiiepaa
