/- Layer 21: each alarm is what its own steps tell. -/
import Derived.Test.YtcdmojimdiiepaaFold
import Derived.Test.YtcdmojimdiiepaaAlarmZ
import Derived.StillTailTactics
import Derived.Handy
namespace Go.Proofs.Ytcdmojimdiiepaa
open Go.ChangeShapes Go.WideShapes Go.ChangeAt Go.RowKit
set_option linter.unusedVariables false
set_option linter.unusedSimpArgs false

theorem beq_dec (a b : Int) : (a == b) = decide (a = b) := Bool.eq_iff_iff.2 (by simp)
set_option maxRecDepth 100000 in
theorem wp_oneI {a : Act} {w : World} {next : Act → World → Prop} {Q : Exit → Act → World → Prop} {r : Nat} {d : Option Nat} {ty : TypeId} {pos : String} {af : Array Edge} {gd : Option (Nat × Bool)} {z : Int} (hv : a.eval (.tmp r) = .int .i64 z)
    (hn : next (a.put d (.slice (some ⟨w.heap.size, 0, none⟩) 1 1)) (w.alloc (.cells #[.int .i64 z] 3))) :
    Oper.wp Try.prog ⟨d, .buildSlice 46 1 #[(0, .tmp r)], ty, pos, af, gd⟩ a w next Q := by
  unfold Oper.wp
  have h : (execOp a.eval ⟨d, .buildSlice 46 1 #[(0, .tmp r)], ty, pos, af, gd⟩).run Try.prog w = .ok (.value (.slice (some ⟨w.heap.size, 0, none⟩) 1 1)) (w.alloc (.cells #[.int .i64 z] 3)) := by
    generalize a.eval = ev at hv
    simp only [execOp]
    show (Instr.buildSlice _ _ _ >>= _ : Sem Next).run _ _ = _
    simp [hv, go_sem]
  rw [h]
  exact hn
set_option maxRecDepth 100000 in
theorem wp_oneB {a : Act} {w : World} {next : Act → World → Prop} {Q : Exit → Act → World → Prop} {r : Nat} {d : Option Nat} {ty : TypeId} {pos : String} {af : Array Edge} {gd : Option (Nat × Bool)} {b : Bool} (hv : a.eval (.tmp r) = .bool b)
    (hn : next (a.put d (.slice (some ⟨w.heap.size, 0, none⟩) 1 1)) (w.alloc (.cells #[.bool b] 4))) :
    Oper.wp Try.prog ⟨d, .buildSlice 51 1 #[(0, .tmp r)], ty, pos, af, gd⟩ a w next Q := by
  unfold Oper.wp
  have h : (execOp a.eval ⟨d, .buildSlice 51 1 #[(0, .tmp r)], ty, pos, af, gd⟩).run Try.prog w = .ok (.value (.slice (some ⟨w.heap.size, 0, none⟩) 1 1)) (w.alloc (.cells #[.bool b] 4)) := by
    generalize a.eval = ev at hv
    simp only [execOp]
    show (Instr.buildSlice _ _ _ >>= _ : Sem Next).run _ _ = _
    simp [hv, go_sem]
  rw [h]
  exact hn
set_option maxRecDepth 100000 in
theorem wp_oneA {a : Act} {w : World} {next : Act → World → Prop} {Q : Exit → Act → World → Prop} {r : Nat} {d : Option Nat} {ty : TypeId} {pos : String} {af : Array Edge} {gd : Option (Nat × Bool)} {b1 b2 : Bool} (hv : a.eval (.tmp r) = .agg #[.bool b1, .bool b2])
    (hn : next (a.put d (.slice (some ⟨w.heap.size, 0, none⟩) 1 1)) (w.alloc (.cells #[.bool b1, .bool b2] 53))) :
    Oper.wp Try.prog ⟨d, .buildSlice 38 1 #[(0, .tmp r)], ty, pos, af, gd⟩ a w next Q := by
  unfold Oper.wp
  have h : (execOp a.eval ⟨d, .buildSlice 38 1 #[(0, .tmp r)], ty, pos, af, gd⟩).run Try.prog w = .ok (.value (.slice (some ⟨w.heap.size, 0, none⟩) 1 1)) (w.alloc (.cells #[.bool b1, .bool b2] 53)) := by
    generalize a.eval = ev at hv
    simp only [execOp]
    show (Instr.buildSlice _ _ _ >>= _ : Sem Next).run _ _ = _
    simp [hv, go_sem]
  rw [h]
  exact hn
set_option maxRecDepth 100000 in
set_option maxHeartbeats 32000000 in
theorem walkH_AlarmFolds (hd : Hd) (vc : Value) (z : Cf × List Rl) (vl : Value) (l : List Ol) (w : World) (h0 : ConfV w vc z) (h1 : OpsV w vl l) :
    Calls Try.prog 4 #[vc, vl] w fun e w' => e = .returned (.bool true) ∧ Below w.heap.size w w' := by
  obtain ⟨c, rs⟩ := z
  have hc0 : ConfR w vc c rs := h0
  obtain ⟨sA, sn, scap, RA, rc, rfl, hrc, hrr, hts⟩ := hc0.shape
  have HRR := Lib.hid hrr
  have HTS := Lib.hid hts
  clear hrr hts
  have HC := Lib.hid hc0
  clear h0 hc0
  have OXV := Lib.hid h1
  obtain ⟨OXA, OXc, rfl, hOXr, hOXt⟩ := h1
  have OXR := Lib.hid hOXr
  have OXT := Lib.hid hOXt
  have hOXcap := hOXr.caps.1
  clear hOXr hOXt
  go_enter Try.func4, Try.ntmps4
  go_wp2_with fail
  refine calls_world (fun W => Below w.heap.size w W ∧ Blk W w.heap.size 25 #[.int .i64 c.P, .int .i64 c.H, .int .i64 c.C, .int .i64 c.Mn, .int .i64 c.Mx, .int .i64 c.Rho, .int .i64 c.Bd, .int .i64 c.Win, .int .i64 c.St, .slice sA sn scap, .slice RA rs.length rc]) ⟨by go_grown, Blk.new _ _ _ _ rfl⟩ fun W1 ⟨hb1, hq1⟩ => ?_
  have HB1 := Lib.hid hb1
  have HQ1 := Lib.hid hq1
  clear hb1 hq1
  refine (hd W1).mono ?_
  rintro e W2 ⟨rfl, hk⟩
  (try clear cQ); (try clear lQ)
  have HB2 := Lib.hid (Btrans HB1.out hk)
  have HQ2 := Lib.hid (HQ1.out.below hk)
  clear hk HB1 HQ1
  have cQ := HQ2.out.cells
  have lQ := HQ2.out.lt
  go_wp2_with fail
  refine (great21_any _ c rs _ (HC.out.below HB2.out)).mono ?_
  rintro e W3 ⟨rfl, hk⟩
  obtain ⟨ga, hga⟩ : ∃ b, b = greatA c rs := ⟨_, rfl⟩
  rw [← hga]
  (try clear cQ); (try clear lQ)
  have HB3 := Lib.hid (Btrans HB2.out hk)
  have HQ3 := Lib.hid (HQ2.out.below hk)
  clear hk HB2 HQ2
  have HGA := Lib.hid hga
  clear hga
  have cQ := HQ3.out.cells
  have lQ := HQ3.out.lt
  cases ga with
  | true =>
    go_wp2
    go_ret
    exact ⟨by first | rfl | simp, HB3.out⟩
  | false =>
  go_wp2_with fail
  refine (greatO_any _ l _ (OXV.out.below HB3.out)).mono ?_
  rintro e W4 ⟨rfl, hk⟩
  obtain ⟨go0, hgo0⟩ : ∃ b, b = greatO l := ⟨_, rfl⟩
  rw [← hgo0]
  (try clear cQ); (try clear lQ)
  have HB4 := Lib.hid (Btrans HB3.out hk)
  have HQ4 := Lib.hid (HQ3.out.below hk)
  clear hk HB3 HQ3
  have HGO0 := Lib.hid hgo0
  clear hgo0
  have cQ := HQ4.out.cells
  have lQ := HQ4.out.lt
  cases go0 with
  | true =>
    go_wp2
    go_ret
    exact ⟨by first | rfl | simp, HB4.out⟩
  | false =>
  go_wp2_with fail
  have HN25 := Lib.hid (great_n HGA.out.symm)
  refine (rright21_any _ c rs _ (HC.out.below HB4.out) (Nat.le_trans HN25.out (by decide))).mono ?_
  rintro e W5 ⟨rfl, hk⟩
  obtain ⟨ri, hri⟩ : ∃ b, b = rightA c rs := ⟨_, rfl⟩
  rw [← hri]
  (try clear cQ); (try clear lQ)
  have HB5 := Lib.hid (Btrans HB4.out hk)
  have HQ5 := Lib.hid (HQ4.out.below hk)
  clear hk HB4 HQ4
  have HRI := Lib.hid hri
  clear hri
  have cQ := HQ5.out.cells
  have lQ := HQ5.out.lt
  cases ri with
  | false =>
    go_wp2
    go_ret
    exact ⟨by first | rfl | simp, HB5.out⟩
  | true =>
  have HRN := Lib.hid (right_n HRI.out.symm)
  have HOL := Lib.hid (newL_ok HRI.out.symm)
  have HOM := Lib.hid (newM_ok HRI.out.symm)
  have hr8 : rs.length ≤ 8 := HRN.out.1
  have hn25 : (chansOf c.rows).length ≤ 2500 := HN25.out
  have hn0 : 0 < (chansOf c.rows).length := HRN.out.2.2.2.1
  have hst : 1 ≤ c.St ∧ c.St ≤ 1000 := ⟨HRN.out.2.1, HRN.out.2.2.1⟩
  obtain ⟨N, HNE⟩ : ∃ N, RowKit.Hid (N = (chansOf c.rows).length) := ⟨_, Lib.hid rfl⟩
  have HOL2 := Lib.hid (show ∀ x ∈ newL rs, x.ok N by rw [HNE.out]; exact HOL.out)
  have HOM2 := Lib.hid (show ∀ x ∈ newM c, x.ok N by rw [HNE.out]; exact HOM.out)
  have HML := Lib.hid (show (newM c).length = N by rw [newM_len, HNE.out])
  have hN25 : N ≤ 2500 := by rw [HNE.out]; exact hn25
  have hN0 : 0 < N := by rw [HNE.out]; exact hn0
  clear HOL HOM hn25 hn0
  go_wp2_with fail
  refine (rmany_any _ c _ (HC.out.conf.below HB5.out) (Nat.le_trans HN25.out (by decide))).mono ?_
  rintro e W6 ⟨rfl, hk⟩
  (try clear cQ); (try clear lQ)
  have HB6 := Lib.hid (Btrans HB5.out hk)
  have HQ6 := Lib.hid (HQ5.out.below hk)
  clear hk HB5 HQ5
  have cQ := HQ6.out.cells
  have lQ := HQ6.out.lt
  rw [← HNE.out]
  go_wp2_with fail
  refine (SS.new w _ _ c rs HC.out HB6.out (Nat.le_trans HN25.out (by decide)) (by omega)).mono ?_
  rintro e W7 ⟨pb, rfl, hS, hk⟩
  (try clear cQ); (try clear lQ)
  obtain ⟨lo, hi, hlo, hS, hlh, hle⟩ : ∃ lo hi, w.heap.size < lo ∧ SS w W7 lo hi pb (newL rs) (newM c) ∧ W6.heap.size = lo ∧ W7.heap.size = hi := ⟨_, _, HQ6.out.lt, hS, rfl, rfl⟩
  have HB7 := Lib.hid (Btrans HB6.out hk)
  have HQ7 := Lib.hid (HQ6.out.below hk)
  have HS7 := Lib.hid hS
  clear hS hk HB6 HQ6
  have cQ := HQ7.out.cells
  have lQ := HQ7.out.lt
  have hiT : hi ≤ W7.heap.size := HS7.out.top.1
  clear hlh hle
  have hwr : IntKind.i64.wrap ((rs.length : Int) + (N : Int)) = (rs.length : Int) + (N : Int) := IntWalk.i64_in _ (by omega)
  have m0 := mkTI rs.length (by omega)
  have m1 := mkTB rs.length (by omega)
  have m2 := mkTB N (by omega)
  have m4 : ∀ w, (Instr.makeSlice 45 (.int .i64 ((rs.length : Int) + (N : Int))) (.int .i64 ((rs.length : Int) + (N : Int)))).run Try.prog w = .ok (.slice (some ⟨w.heap.size, 0, none⟩) (rs.length + N) (rs.length + N)) (w.alloc (.cells (Array.replicate (rs.length + N) (.slice none 0 0)) 38)) := by
    have h := mkTA (rs.length + N) (by omega)
    intro w
    have := h w
    rw [Int.natCast_add] at this
    exact this
  have lq1 : w.heap.size < W7.heap.size + 1 := by omega
  have lq2 : w.heap.size < W7.heap.size + 1 + 1 := by omega
  have lq3 : w.heap.size < W7.heap.size + 1 + 1 + 1 := by omega
  have lq4 : w.heap.size < W7.heap.size + 1 + 1 + 1 + 1 := by omega
  go_wp2_with fail
  refine wp_world (fun W => Below W7.heap.size W7 W ∧ Blk W W7.heap.size 46 (Array.replicate rs.length (Value.slice none 0 0)) ∧ Blk W (W7.heap.size + 1) 51 (Array.replicate rs.length (Value.slice none 0 0)) ∧ Blk W (W7.heap.size + 2) 51 (Array.replicate N (Value.slice none 0 0)) ∧ Blk W (W7.heap.size + 3) 51 (Array.replicate N (Value.slice none 0 0)) ∧ Blk W (W7.heap.size + 4) 38 (Array.replicate (rs.length + N) (Value.slice none 0 0))) ⟨by go_grown, ((((Blk.new _ _ _ _ rfl).al _).al _).al _).al _, (((Blk.new _ _ _ _ (by simp)).al _).al _).al _, ((Blk.new _ _ _ _ (by simp)).al _).al _, (Blk.new _ _ _ _ (by simp)).al _, Blk.new _ _ _ _ (by simp)⟩ fun W0 ⟨hbw, h0, h1, h2, h3, h4⟩ => ?_
  obtain ⟨t4, HT4⟩ : ∃ x, RowKit.Hid (x = W7.heap.size + 1 + 1 + 1 + 1) := ⟨_, Lib.hid rfl⟩
  rw [← HT4.out]
  obtain ⟨t3, HT3⟩ : ∃ x, RowKit.Hid (x = W7.heap.size + 1 + 1 + 1) := ⟨_, Lib.hid rfl⟩
  rw [← HT3.out]
  obtain ⟨t2, HT2⟩ : ∃ x, RowKit.Hid (x = W7.heap.size + 1 + 1) := ⟨_, Lib.hid rfl⟩
  rw [← HT2.out]
  obtain ⟨t1, HT1⟩ : ∃ x, RowKit.Hid (x = W7.heap.size + 1) := ⟨_, Lib.hid rfl⟩
  rw [← HT1.out]
  obtain ⟨T, hT⟩ : ∃ x, x = W7.heap.size := ⟨_, rfl⟩
  rw [← hT] at HT1 HT2 HT3 HT4 h0 h1 h2 h3 h4 hiT
  rw [← hT]
  have HJ0 := Lib.hid (Jar.new rs c.St h0 h1 h2 h3 h4)
  have HB0 := Lib.hid (Btrans HB7.out hbw)
  have HQ0 := Lib.hid (HQ7.out.below hbw)
  have HS0 := Lib.hid (HS7.out.below hbw)
  have HF0 := Lib.hid (show Fd (newL rs) (newM c) rs c.St [] N by rw [HNE.out]; exact Fd.new c rs)
  have hlow : lo < hi := HS7.out.top.2.1
  clear lq1 lq2 lq3 lq4 h0 h1 h2 h3 h4 hbw hT HB7 HQ7 HS7 m0 m1 m2 m4 hwr cQ lQ
  have hl60 : l.length ≤ 60 := by
    have h := HGO0.out
    unfold greatO at h
    have h2 := (Bool.or_eq_false_iff.1 h.symm).1
    simpa using h2
  go_loopw [13] (fun i wr => ∃ (j : Nat) (os : List Ol) (L M : List Wt) (own : Own), j ≤ l.length ∧ i = .int .i64 j ∧ Below w.heap.size w wr ∧ Blk wr w.heap.size 25 #[.int .i64 c.P, .int .i64 c.H, .int .i64 c.C, .int .i64 c.Mn, .int .i64 c.Mx, .int .i64 c.Rho, .int .i64 c.Bd, .int .i64 c.Win, .int .i64 c.St, .slice sA sn scap, .slice RA rs.length rc] ∧ SS w wr lo hi pb L M ∧ Jar wr (T + 5) own (spec T rs.length N) (tabs rs c.St os) ∧ Fd L M rs c.St os N ∧ (∀ x ∈ L, x.ok N) ∧ (∀ x ∈ M, x.ok N) ∧ M.length = N ∧ L.length = rs.length ∧ os.length ≤ j) (fun i _ => l.length - (intOf i).toNat)
  case atStart => exact ⟨0, [], _, _, _, by omega, rfl, HB0.out, HQ0.out, HS0.out, HJ0.out, HF0.out, HOL2.out, HOM2.out, HML.out, newL_len rs, Nat.le_refl _⟩
  case round =>
    clear HB0 HQ0 HS0 HJ0 HF0
    obtain ⟨j, os, L, M, own, hj, rfl, hb, hq, hS, hJ, hF, hL, hM, hMl, hLl, hos⟩ := hrel
    have HBc := Lib.hid hb
    have HQc := Lib.hid hq
    have HSc := Lib.hid hS
    have HJc := Lib.hid hJ
    have HFd := Lib.hid hF
    have HLr := Lib.hid hL
    have HMr := Lib.hid hM
    have HMl := Lib.hid hMl
    have HLl := Lib.hid hLl
    clear hb hq hS hJ hF hL hM hMl hLl
    by_cases hlt : j < l.length
    · obtain ⟨o, ho⟩ : ∃ o, l[j]? = some o := ⟨_, List.getElem?_eq_getElem hlt⟩
      obtain ⟨oad, rfl, hoad, o0, o1, o2⟩ := rowO_at OXR.out ho
      have HOM_ := Lib.hid (List.mem_of_getElem? ho)
      have HOP := Lib.hid (show ∀ W, Below w.heap.size w W → W.cell? (oad.add (j * 3)) = some (.int .i64 o.R) ∧ W.cell? ⟨(oad.add (j * 3)).block, (oad.add (j * 3)).off + 1, none⟩ = some (.int .i64 o.C) ∧ W.cell? ⟨(oad.add (j * 3)).block, (oad.add (j * 3)).off + 2, none⟩ = some (.slice o.A o.cs.length o.cc) from fun W hb => ⟨by rw [hb.cell (by rw [block_add]; exact hoad)]; exact o0, by rw [hb.cell (by show (oad.add (j * 3)).block < _; rw [block_add]; exact hoad)]; exact o1, by rw [hb.cell (by show (oad.add (j * 3)).block < _; rw [block_add]; exact hoad)]; exact o2⟩)
      have HCR := Lib.hid (OXT.out o HOM_.out)
      have hjl : (j : Int) < (l.length : Int) := by omega
      have lo1 : (oad.add (j * 3)).block < w.heap.size := by rw [block_add]; exact hoad
      clear o0 o1 o2 hoad ho
      obtain ⟨oc0, oc1, oc2⟩ := HOP.out _ HBc.out
      have cQ := HQc.out.cells
      have lQ := HQc.out.lt
      by_cases hcn : o.cs.length = N
      · have gn : decide ((o.cs.length : Int) ≠ (N : Int)) = false := decide_eq_false (by omega)
        have gn3 : ((o.cs.length : Int) != (N : Int)) = false := by simp; omega
        have gn5 : (o.cs.length != N) = false := by simp; omega
        have gn6 : ((o.cs.length : Int) == (N : Int)) = true := by simp; omega
        have gn7 : (o.cs.length == N) = true := by simp; omega
        have HCNE := Lib.hid hcn
        have hcl : o.cs.length ≤ N ∧ N ≤ o.cs.length := by omega
        clear hcn
        go_wp2_with fail
        refine (SS.ackR o.R HSc.out (by rw [HLl.out]; omega)).mono ?_
        rintro e W3 ⟨rfl, hs2, fr⟩
        clear oc0 oc1 oc2 cQ lQ
        have hb2 := fr.below HBc.out (Nat.le_refl _) (Nat.le_of_lt hlo)
        have hq2 := HQc.out.fr fr (.inl hlo)
        have hj2 := HJc.out.fr fr (fun q _ => by show hi ≤ T + q; omega)
        clear HBc HQc HSc HJc
        have HBc := Lib.hid hb2
        have HQc := Lib.hid hq2
        have HSc := Lib.hid hs2
        have HJc := Lib.hid hj2
        clear hb2 hq2 hs2 hj2 fr
        obtain ⟨oc0, oc1, oc2⟩ := HOP.out _ HBc.out
        have cQ := HQc.out.cells
        have lQ := HQc.out.lt
        go_wp2_with fail
        refine (SS.ackC o.C HSc.out (by rw [HMl.out]; omega)).mono ?_
        rintro e W4 ⟨rfl, hs2, fr⟩
        clear oc0 oc1 oc2 cQ lQ
        have hb2 := fr.below HBc.out (Nat.le_refl _) (Nat.le_of_lt hlo)
        have hq2 := HQc.out.fr fr (.inl hlo)
        have hj2 := HJc.out.fr fr (fun q _ => by show hi ≤ T + q; omega)
        clear HBc HQc HSc HJc
        have HBc := Lib.hid hb2
        have HQc := Lib.hid hq2
        have HSc := Lib.hid hs2
        have HJc := Lib.hid hj2
        clear hb2 hq2 hs2 hj2 fr
        obtain ⟨oc0, oc1, oc2⟩ := HOP.out _ HBc.out
        have cQ := HQc.out.cells
        have lQ := HQc.out.lt
        have HL2 := Lib.hid (ack_oks o.R HLr.out)
        have HM2 := Lib.hid (ack_oks o.C HMr.out)
        go_wp2_with fail
        refine (SS.tick o.A o.cc o.cs HSc.out (by rw [HCNE.out]; exact HL2.out) (by rw [HCNE.out]; exact HM2.out) (HCR.out.below HBc.out) (FrC.of HCR.out (by omega) (Nat.le_of_lt hlo)) (by rw [ackL_len, HMl.out]; exact HCNE.out) HBc.out (by rw [ackL_len, HLl.out]; omega) (by rw [ackL_len, HMl.out]; omega)).mono ?_
        rintro e W5 ⟨va, vb, rfl, ra, rb, hs2, fr⟩
        clear oc0 oc1 oc2 cQ lQ
        rw [ackL_len, HLl.out] at ra
        rw [ackL_len, HMl.out] at rb
        obtain ⟨XA, xc, rfl, hxc, hxm⟩ := ra.1.shape2
        obtain ⟨YA, yc, rfl, hyc, hym⟩ := rb.1.shape2
        have hb2 := fr.below HBc.out (Nat.le_refl _) (Nat.le_of_lt hlo)
        have hq2 := HQc.out.fr fr (.inl hlo)
        have hj2 := (HJc.out.mono (own2 := fun b => if b < W4.heap.size then own b else (9, 0)) (fun g hg => if_pos hg)).fr fr (fun q _ => by show hi ≤ T + q; omega)
        have hbs := HJc.out.base
        obtain ⟨own1, HJ1, HX1, HY1⟩ : ∃ own1, RowKit.Hid (Jar W5 (T + 5) own1 (spec T rs.length N) (tabs rs c.St os)) ∧ RowKit.Hid (RowO W5 (T + 5) own1 (.slice XA rs.length xc) rs.length _) ∧ RowKit.Hid (RowO W5 (T + 5) own1 (.slice YA N yc) N _) :=
          ⟨_, Lib.hid hj2, Lib.hid ⟨ra.1, fun _ ad n' c e => ⟨Nat.le_trans hbs (ra.2 ad n' c e), if_neg (by have := ra.2 ad n' c e; omega)⟩⟩, Lib.hid ⟨rb.1, fun _ ad n' c e => ⟨Nat.le_trans hbs (rb.2 ad n' c e), if_neg (by have := rb.2 ad n' c e; omega)⟩⟩⟩
        obtain ⟨xl, HXL, HX2⟩ : ∃ xl, RowKit.Hid (∀ (i : Nat) (r : Rl), rs[i]? = some r → xl[i]? = some (outR r i os o)) ∧ RowKit.Hid (RowO W5 (T + 5) own1 (.slice XA rs.length xc) rs.length (al2 xl)) := ⟨_, Lib.hid fun i r hr => HFd.out.alR o hr, HX1⟩
        obtain ⟨yl, HYL, HY2⟩ : ∃ yl, RowKit.Hid (∀ i : Nat, i < N → yl[i]? = some (outC c.St i os o)) ∧ RowKit.Hid (RowO W5 (T + 5) own1 (.slice YA N yc) N (al2 yl)) := ⟨_, Lib.hid fun i hi => HFd.out.alC o hi, HY1⟩
        obtain ⟨L2, M2, HS2, HF2, HLk, HMk, HMl2, HLl2⟩ : ∃ L2 M2, RowKit.Hid (SS w W5 lo hi pb L2 M2) ∧ RowKit.Hid (Fd L2 M2 rs c.St (os ++ [o]) N) ∧ RowKit.Hid (∀ x ∈ L2, x.ok N) ∧ RowKit.Hid (∀ x ∈ M2, x.ok N) ∧ RowKit.Hid (M2.length = N) ∧ RowKit.Hid (L2.length = rs.length) :=
          ⟨_, _, Lib.hid hs2, Lib.hid (HFd.out.next o), Lib.hid (next_oks _ HL2.out), Lib.hid (next_oks _ HM2.out), Lib.hid (by rw [List.length_map, ackL_len, HMl.out]), Lib.hid (by rw [List.length_map, ackL_len, HLl.out])⟩
        clear HBc HQc HSc HJc HX1 HY1 HFd HLr HMr HMl HLl HL2 HM2
        have HBc := Lib.hid hb2
        have HQc := Lib.hid hq2
        clear hb2 hq2 hs2 hj2 fr ra rb hbs
        obtain ⟨oc0, oc1, oc2⟩ := HOP.out _ HBc.out
        have cQ := HQc.out.cells
        have lQ := HQc.out.lt
        go_wp2_with fail
        clear oc0 oc1 oc2 cQ lQ
        go_loopw [16] (fun i wk => ∃ (k : Nat) (ow : Own), k ≤ rs.length ∧ i = .int .i64 k ∧ Below w.heap.size w wk ∧ Blk wk w.heap.size 25 #[.int .i64 c.P, .int .i64 c.H, .int .i64 c.C, .int .i64 c.Mn, .int .i64 c.Mx, .int .i64 c.Rho, .int .i64 c.Bd, .int .i64 c.Win, .int .i64 c.St, .slice sA sn scap, .slice RA rs.length rc] ∧ SS w wk lo hi pb L2 M2 ∧ Jar wk (T + 5) ow (spec T rs.length N) (mix rs c.St os o (D1 k 0)) ∧ RowO wk (T + 5) ow (.slice XA rs.length xc) rs.length (al2 xl) ∧ RowO wk (T + 5) ow (.slice YA N yc) N (al2 yl)) (fun i _ => rs.length - (intOf i).toNat)
        case atStart => exact ⟨0, own1, Nat.zero_le _, rfl, HBc.out, HQc.out, HS2.out, mix_none HJ1.out (D1_start T rs.length N), HX2.out, HY2.out⟩
        case round =>
          clear HBc HQc HS2 HJ1 HX2 HY2
          obtain ⟨k, ow, hk, rfl, hb, hq, hS, hJ, hX, hY⟩ := hrel
          have HBc := Lib.hid hb
          have HQc := Lib.hid hq
          have HSc := Lib.hid hS
          have HJc := Lib.hid hJ
          have HXc := Lib.hid hX
          have HYc := Lib.hid hY
          clear hb hq hS hJ hX hY
          by_cases hkr : k < rs.length
          · as_aux_lemma =>
            obtain ⟨r, hr⟩ : ∃ r, rs[k]? = some r := ⟨_, List.getElem?_eq_getElem hkr⟩
            obtain ⟨ad1, rfl, hb1, e0, e1, e2⟩ := rowR_at HRR.out hr
            have lc1 : (ad1.add (k * 3)).block < w.heap.size := by rw [block_add]; exact hb1
            have HR0 := Lib.hid e0
            have HR1 := Lib.hid e1
            have HR2 := Lib.hid e2
            have HRK := Lib.hid hr
            have HGD := Lib.hid (show rs.getD k default = r by simp only [List.getD_eq_getElem?_getD, hr, Option.getD_some])
            have HRU := Lib.hid (rule_h (HRN.out.2.2.2.2 r (List.mem_of_getElem? hr)))
            have HTM := Lib.hid (HTS.out r (List.mem_of_getElem? hr))
            have hl16 : r.l.length ≤ 16 := HRU.out.2.2.1
            obtain ⟨tr, HTR⟩ : ∃ t, RowKit.Hid (t = saysR r.l o.cs) := ⟨_, Lib.hid rfl⟩
            obtain ⟨⟨x1, x2⟩, HXO⟩ : ∃ x, RowKit.Hid (x = outR r k os o) := ⟨_, Lib.hid rfl⟩
            have gk1 : (k : Int) < (rs.length : Int) := by omega
            have gk2 : (k : Int) < ((rs.length + N : Nat) : Int) := by omega
            have gk3 : (k : Int) < (rs.length : Int) + (N : Int) := by omega
            have lQ := HQc.out.lt
            have cQ := HQc.out.cells
            clear e0 e1 e2 hr
            go_wp2_with fail
            clear cQ lQ
            have HNW := Lib.hid (show news rs c.St os o 0 k = [.int .i64 tr] by show [_] = _; rw [HGD.out, HTR.out])
            obtain ⟨A0, m0, c0, hs0, hf0, hl0, ho0, hw0⟩ := (HJc.out.tbl 0 (by decide)).slot (i := k) (show k < rs.length by omega)
            have hD0 := (D1_step T rs.length N k 0 0 (.inl ⟨rfl, rfl⟩))
            rw [mix_at hD0.1] at ho0
            obtain rfl : m0 = os.length := by have := ho0.1; rw [tabs_len] at this; simp only [spec] at this; omega
            have HO0 := Lib.hid (show World.ownsRow wr (T + 5) 3 1 (.slice A0 os.length c0) os.length (tabs rs c.St os 0 (k)) from ho0)
            have hs1 : wr.cell? ⟨T, k, none⟩ = some (.slice A0 os.length c0) := by exact hs0
            have hf1 : wr.frozen? ⟨T, k, none⟩ = false := by exact hf0
            have hl1 : T < wr.heap.size := by exact hl0
            obtain ⟨vb, HVB⟩ : ∃ x, RowKit.Hid (x = (Value.slice A0 os.length c0).ownBlock) := ⟨_, Lib.hid rfl⟩
            have HVW := Lib.hid (show ∀ g, vb = some g → ow g = (0, k) ∧ T + 5 ≤ g ∧ g < wr.heap.size by rw [HVB.out]; exact hw0)
            have HDD := Lib.hid hD0.2
            have HD1 := Lib.hid hD0.1
            have HTT := Lib.hid (show T ≤ T by omega)
            have hkp : ∀ W, Kp wr T vb W → ∀ p : Addr, p.block < wr.heap.size → p.block < T → W.cell? p = wr.cell? p := fun W h p h1 h2 => h.low HTT.out (fun g hg => by have := (HVW.out g hg).2.1; omega) h1 h2
            have lQ := HQc.out.lt
            have dB : ∀ W, Kp wr T vb W → ∀ i, W.cell? ⟨w.heap.size, i, none⟩ = (#[.int .i64 c.P, .int .i64 c.H, .int .i64 c.C, .int .i64 c.Mn, .int .i64 c.Mx, .int .i64 c.Rho, .int .i64 c.Bd, .int .i64 c.Win, .int .i64 c.St, .slice sA sn scap, .slice (some ad1) rs.length rc] : Array Value)[i]? := fun W h i => (hkp W h ⟨w.heap.size, i, none⟩ lQ (show w.heap.size < T by omega)).trans (HQc.out.cells i)
            have dO0 : ∀ W, Kp wr T vb W → W.cell? (oad.add (j * 3)) = some (.int .i64 o.R) := fun W h => (hkp W h _ (Nat.lt_of_lt_of_le lo1 HBc.out.size) (by omega)).trans (HOP.out _ HBc.out).1
            have dO1 : ∀ W, Kp wr T vb W → W.cell? ⟨(oad.add (j * 3)).block, (oad.add (j * 3)).off + 1, none⟩ = some (.int .i64 o.C) := fun W h => (hkp W h ⟨(oad.add (j * 3)).block, (oad.add (j * 3)).off + 1, none⟩ (Nat.lt_of_lt_of_le lo1 HBc.out.size) (Nat.lt_of_lt_of_le lo1 (by omega))).trans (HOP.out _ HBc.out).2.1
            have dO2 : ∀ W, Kp wr T vb W → W.cell? ⟨(oad.add (j * 3)).block, (oad.add (j * 3)).off + 2, none⟩ = some (.slice o.A o.cs.length o.cc) := fun W h => (hkp W h ⟨(oad.add (j * 3)).block, (oad.add (j * 3)).off + 2, none⟩ (Nat.lt_of_lt_of_le lo1 HBc.out.size) (Nat.lt_of_lt_of_le lo1 (by omega))).trans (HOP.out _ HBc.out).2.2
            have d0 : ∀ W, Kp wr T vb W → W.cell? (ad1.add (k * 3)) = some (.slice r.A r.l.length r.rc) := fun W h => ((hkp W h _ (Nat.lt_of_lt_of_le lc1 HBc.out.size) (by omega)).trans (HBc.out.cell lc1)).trans HR0.out
            have d1 : ∀ W, Kp wr T vb W → W.cell? ⟨(ad1.add (k * 3)).block, (ad1.add (k * 3)).off + 1, none⟩ = some (.int .i64 r.hold) := fun W h => ((hkp W h ⟨(ad1.add (k * 3)).block, (ad1.add (k * 3)).off + 1, none⟩ (Nat.lt_of_lt_of_le lc1 HBc.out.size) (Nat.lt_of_lt_of_le lc1 (by omega))).trans (HBc.out.cell (p := ⟨(ad1.add (k * 3)).block, (ad1.add (k * 3)).off + 1, none⟩) lc1)).trans HR1.out
            have d2 : ∀ W, Kp wr T vb W → W.cell? ⟨(ad1.add (k * 3)).block, (ad1.add (k * 3)).off + 2, none⟩ = some (.bool r.latch) := fun W h => ((hkp W h ⟨(ad1.add (k * 3)).block, (ad1.add (k * 3)).off + 2, none⟩ (Nat.lt_of_lt_of_le lc1 HBc.out.size) (Nat.lt_of_lt_of_le lc1 (by omega))).trans (HBc.out.cell (p := ⟨(ad1.add (k * 3)).block, (ad1.add (k * 3)).off + 2, none⟩) lc1)).trans HR2.out
            clear hs0 hf0 hl0 ho0 hw0 hD0 hkp lQ
            apply cut5 (A := fun NA nc xb W => Below w.heap.size w W ∧ Blk W w.heap.size 25 #[.int .i64 c.P, .int .i64 c.H, .int .i64 c.C, .int .i64 c.Mn, .int .i64 c.Mx, .int .i64 c.Rho, .int .i64 c.Bd, .int .i64 c.Win, .int .i64 c.St, .slice sA sn scap, .slice (some ad1) rs.length rc] ∧ SS w W lo hi pb L2 M2 ∧ ∃ ow', Jar W (T + 5) ow' (spec T rs.length N) (mix rs c.St os o (D1 k 1)) ∧ RowO W (T + 5) ow' (.slice XA rs.length xc) rs.length (al2 xl) ∧ RowO W (T + 5) ow' (.slice YA N yc) N (al2 yl))
            case t =>
              intro REST
              have hbW := (Below.refl wr.heap.size wr).drew
              refine wp_region_held_drew (S := fun W => Kp wr T vb W) (by kernel_rfl) ((Kp.refl wr T vb).drew 1) (fun hHeld => ?_)
              refine takeD 0 (some 112) (v := ?_) rfl rfl (by kernel_rfl) (by kernel_rfl) (by kernel_rfl) (fun _ _ _ h => h) (by rfl) ?_ (by assumption) ?_
              rotate_left
              · intro w hSw
                (try dsimp only at hSw)
                go_simp
                try with_reducible rfl
              try simp only [Act.put, List.setIfInBounds_toArray, List.set_cons_zero, List.set_cons_succ]
              refine takeD 1 (some 113) (v := ?_) rfl rfl (by kernel_rfl) (by kernel_rfl) (by kernel_rfl) (fun _ _ _ h => h) (by rfl) ?_ (by assumption) ?_
              rotate_left
              · intro w hSw
                (try dsimp only at hSw)
                go_simp
                try with_reducible rfl
              try simp only [Act.put, List.setIfInBounds_toArray, List.set_cons_zero, List.set_cons_succ]
              refine takeD 2 (some 114) (v := ?_) rfl rfl (by kernel_rfl) (by kernel_rfl) (by kernel_rfl) (fun _ _ _ h => h) (by rfl) ?_ (by assumption) ?_
              rotate_left
              · intro w hSw
                (try dsimp only at hSw)
                go_simp
                try with_reducible rfl
              try simp only [Act.put, List.setIfInBounds_toArray, List.set_cons_zero, List.set_cons_succ]
              refine takeD 3 (some 115) (v := ?_) rfl rfl (by kernel_rfl) (by kernel_rfl) (by kernel_rfl) (fun _ _ _ h => h) (by rfl) ?_ (by assumption) ?_
              rotate_left
              · intro w hSw
                (try dsimp only at hSw)
                go_simp
                try with_reducible rfl
              try simp only [Act.put, List.setIfInBounds_toArray, List.set_cons_zero, List.set_cons_succ]
              refine takeD 4 (some 116) (v := ?_) rfl rfl (by kernel_rfl) (by kernel_rfl) (by kernel_rfl) (fun _ _ _ h => h) (by rfl) ?_ (by assumption) ?_
              rotate_left
              · intro w hSw
                (try dsimp only at hSw)
                go_simp
                try with_reducible rfl
              try simp only [Act.put, List.setIfInBounds_toArray, List.set_cons_zero, List.set_cons_succ]
              refine takeD 6 (some 118) (v := ?_) rfl rfl (by kernel_rfl) (by kernel_rfl) (by kernel_rfl) (fun _ _ _ h => h) (by rfl) ?_ (by assumption) ?_
              rotate_left
              · intro w hSw
                (try dsimp only at hSw)
                go_simp
                try with_reducible rfl
              try simp only [Act.put, List.setIfInBounds_toArray, List.set_cons_zero, List.set_cons_succ]
              refine takeD 7 (some 119) (v := ?_) rfl rfl (by kernel_rfl) (by kernel_rfl) (by kernel_rfl) (fun _ _ _ h => h) (by rfl) ?_ (by assumption) ?_
              rotate_left
              · intro w hSw
                (try dsimp only at hSw)
                go_simp
                try with_reducible rfl
              try simp only [Act.put, List.setIfInBounds_toArray, List.set_cons_zero, List.set_cons_succ]
              refine takeD 8 (some 120) (v := ?_) rfl rfl (by kernel_rfl) (by kernel_rfl) (by kernel_rfl) (fun _ _ _ h => h) (by rfl) ?_ (by assumption) ?_
              rotate_left
              · intro w hSw
                (try dsimp only at hSw)
                go_simp
                try with_reducible rfl
              try simp only [Act.put, List.setIfInBounds_toArray, List.set_cons_zero, List.set_cons_succ]
              refine takeD 9 (some 121) (v := ?_) rfl rfl (by kernel_rfl) (by kernel_rfl) (by kernel_rfl) (fun _ _ _ h => h) (by rfl) ?_ (by assumption) ?_
              rotate_left
              · intro w hSw
                (try dsimp only at hSw)
                go_simp
                try with_reducible rfl
              try simp only [Act.put, List.setIfInBounds_toArray, List.set_cons_zero, List.set_cons_succ]
              refine takeD 10 (some 122) (v := ?_) rfl rfl (by kernel_rfl) (by kernel_rfl) (by kernel_rfl) (fun _ _ _ h => h) (by rfl) ?_ (by assumption) ?_
              rotate_left
              · intro w hSw
                (try dsimp only at hSw)
                go_simp
                try with_reducible rfl
              try simp only [Act.put, List.setIfInBounds_toArray, List.set_cons_zero, List.set_cons_succ]
              refine takeD 11 (some 123) (v := ?_) rfl rfl (by kernel_rfl) (by kernel_rfl) (by kernel_rfl) (fun _ _ _ h => h) (by rfl) ?_ (by assumption) ?_
              rotate_left
              · intro w hSw
                (try dsimp only at hSw)
                go_simp
                try with_reducible rfl
              try simp only [Act.put, List.setIfInBounds_toArray, List.set_cons_zero, List.set_cons_succ]
              refine takeD 12 (some 124) (v := ?_) rfl rfl (by kernel_rfl) (by kernel_rfl) (by kernel_rfl) (fun _ _ _ h => h) (by rfl) ?_ (by assumption) ?_
              rotate_left
              · intro w hSw
                (try dsimp only at hSw)
                go_simp
                try with_reducible rfl
              try simp only [Act.put, List.setIfInBounds_toArray, List.set_cons_zero, List.set_cons_succ]
              refine takeD 13 (some 125) (v := ?_) rfl rfl (by kernel_rfl) (by kernel_rfl) (by kernel_rfl) (fun _ _ _ h => h) (by rfl) ?_ (by assumption) ?_
              rotate_left
              · intro w hSw
                (try dsimp only at hSw)
                go_simp
                try with_reducible rfl
              try simp only [Act.put, List.setIfInBounds_toArray, List.set_cons_zero, List.set_cons_succ]
              refine takeD 14 (some 126) (v := ?_) rfl rfl (by kernel_rfl) (by kernel_rfl) (by kernel_rfl) (fun _ _ _ h => h) (by rfl) ?_ (by assumption) ?_
              rotate_left
              · intro w hSw
                (try dsimp only at hSw)
                go_simp
                try with_reducible rfl
              try simp only [Act.put, List.setIfInBounds_toArray, List.set_cons_zero, List.set_cons_succ]
              refine takeD 15 (some 127) (v := ?_) rfl rfl (by kernel_rfl) (by kernel_rfl) (by kernel_rfl) (fun _ _ _ h => h) (by rfl) ?_ (by assumption) ?_
              rotate_left
              · intro w hSw
                (try dsimp only at hSw)
                go_simp
                try with_reducible rfl
              try simp only [Act.put, List.setIfInBounds_toArray, List.set_cons_zero, List.set_cons_succ]
              refine wpAnyH_ready (rs := [5, 16]) (by kernel_rfl) (by simp) ?_
              refine AllReadyH.cons rfl (fun K hK => ?_) (AllReadyH.cons rfl (fun K hK => ?_) AllReadyH.nil)
              · rw [if_pos (by rfl)]
                have cP := (hbW.cell (p := ⟨T, k, none⟩) hl1).trans hs1
                go_simp
                have hS := hHeld
                clear cP
                refine hK.out _ _ ?_ (fun hHeld2 => ?_)
                · clear hK; exact hS
                clear hK K hHeld hS
                have hHeld := hHeld2
                clear hHeld2
                try simp only [Act.put, List.setIfInBounds_toArray, List.set_cons_zero, List.set_cons_succ]
                refine wpAnyH_ready (rs := [16]) (by kernel_rfl) (by simp) ?_
                refine AllReadyH.cons rfl (fun K hK => ?_) AllReadyH.nil
                rw [if_pos (by rfl)]
                go_simp
                go_at_call 24
                refine (says_any _ r.hold r.latch r.l o.A o.cc o.cs _ ⟨r.A, r.rc, rfl, HTM.out.below (HBc.out.trans (hbW.mono HBc.out.size))⟩ (HCR.out.below (HBc.out.trans (hbW.mono HBc.out.size))) (by rw [HCNE.out, HNE.out]; exact HRU.out.2.2.2.1) (by omega)).mono ?_
                rintro e V1 ⟨rfl, hk⟩
                rw [← HTR.out]
                have hbW2 := hbW.trans (hk.mono hbW.size)
                clear hbW hk
                have hbW := hbW2
                clear hbW2
                have hS := (Kp.refl wr T vb).below hbW
                go_wp2_with fail
                refine hK.out _ _ ?_ (fun hHeld2 => ?_)
                · clear hK; exact hS
                clear hK K hHeld hS
                have hHeld := hHeld2
                clear hHeld2
                try simp only [Act.put, List.setIfInBounds_toArray, List.set_cons_zero, List.set_cons_succ]
                refine wpAnyH_ready (rs := [17]) (by kernel_rfl) (by simp) ?_
                refine AllReadyH.cons rfl (fun K hK => ?_) AllReadyH.nil
                rw [if_pos (by rfl)]
                refine wp_oneI (by rfl) ?_
                refine nameV (fun V2 => Below wr.heap.size wr V2 ∧ Blk V2 V1.heap.size 3 #[.int .i64 tr]) ⟨hbW.alloc hbW.size _, Blk.new _ _ _ _ rfl⟩ fun V2 ⟨hbW2, hN⟩ => ?_
                clear hbW
                have hbW := hbW2
                clear hbW2
                have HN := Lib.hid hN
                clear hN
                have hS := (Kp.refl wr T vb).below hbW
                refine hK.out _ _ ?_ (fun hHeld2 => ?_)
                · clear hK; exact hS
                clear hK K hHeld hS
                have hHeld := hHeld2
                clear hHeld2
                try simp only [Act.put, List.setIfInBounds_toArray, List.set_cons_zero, List.set_cons_succ]
                refine wpAnyH_ready (rs := [18]) (by kernel_rfl) (by simp) ?_
                refine AllReadyH.cons rfl (fun K hK => ?_) AllReadyH.nil
                rw [if_pos (by rfl)]
                refine wp_appN elI1 (.tmp 117) (.tmp 129) rfl (T + 5) _ os.length (tabs rs c.St os 0 (k)) rfl (own_below HO0.out hbW) _ 1 [.int .i64 tr] rfl (RowN.of_blk HN.out rfl rfl (Nat.le_refl _) (by decide)) (by intro u hu; simp at hu; subst hu; rfl) (by unfold maxLen; omega) (by omega) (Nat.le_trans HJc.out.base hbW.size) ?_
                intro v9 V3 hO hg hor
                obtain ⟨NA, nc, rfl⟩ := own_shape hO
                have hg2 : V2.grownBy V3 vb := by rw [HVB.out]; exact hg
                have HOR := Lib.hid (show (Value.slice NA (os.length + 1) nc).ownBlock = vb ∨ (Value.slice NA (os.length + 1) nc).ownBlock = some V2.heap.size by rw [HVB.out]; exact hor)
                clear hg hor
                have hg := hg2
                clear hg2
                have HO := Lib.hid hO
                have HG := Lib.hid hg
                have HKP := Lib.hid (((Kp.refl wr T vb).below hbW).grown hg)
                have hS := HKP.out
                have HBK := Lib.hid (show V3.heap[T]? = wr.heap[T]? from (hg.block T (Nat.lt_of_lt_of_le hl1 hbW.size) (fun e => by have := (HVW.out T e.symm).2.1; omega)).trans (hbW.block T hl1))
                clear hO hg HN
                refine hK.out _ _ ?_ (fun hHeld2 => ?_)
                · clear hK; exact hS
                clear hK K hHeld hS
                have hHeld := hHeld2
                clear hHeld2
                try simp only [Act.put, List.setIfInBounds_toArray, List.set_cons_zero, List.set_cons_succ]
                refine takeD 19 (some 131) (v := ?_) rfl rfl (by kernel_rfl) (by kernel_rfl) (by kernel_rfl) (fun _ _ _ h => h) (by rfl) ?_ (by assumption) ?_
                rotate_left
                · intro w hSw
                  (try dsimp only at hSw)
                  go_simp
                  try with_reducible rfl
                try simp only [Act.put, List.setIfInBounds_toArray, List.set_cons_zero, List.set_cons_succ]
                refine wpAnyH_ready (rs := [20]) (by kernel_rfl) (by simp) ?_
                refine AllReadyH.cons rfl (fun K hK => ?_) AllReadyH.nil
                rw [if_pos (by rfl)]
                have cP := (World.cell?_of_block (a := ⟨T, k, none⟩) HBK.out).trans hs1
                have fP := (World.frozen?_of_block (a := ⟨T, k, none⟩) HBK.out).trans hf1
                go_simp
                have hS := HKP.out.set (i := k) (.slice NA (os.length + 1) nc)
                clear cP fP
                refine hK.out _ _ ?_ (fun hHeld2 => ?_)
                · clear hK; exact hS
                clear hK K hHeld hS
                have hHeld := hHeld2
                clear hHeld2
                try simp only [Act.put, List.setIfInBounds_toArray, List.set_cons_zero, List.set_cons_succ]
                refine wpAnyH_done (by kernel_rfl) ?_ _
                clear hHeld
                have hkW := HKP.out.set (i := k) (.slice NA (os.length + 1) nc)
                have fr := hkW.fr (hi := hi) (Nat.le_trans hiT HTT.out) hl1 (fun g hg => ⟨Nat.le_trans hiT (Nat.le_trans (Nat.le_add_right T 5) (HVW.out g hg).2.1), (HVW.out g hg).2.2⟩)
                have hj := Jar.step (m := os.length + 1) (v := (Value.slice A0 os.length c0)) (v' := .slice NA (os.length + 1) nc) HJc.out (by decide) (show k < rs.length by omega) HD1.out HDD.out hbW (by rw [← HVB.out]; exact HG.out) (fun g hg => ⟨(HVW.out g (by rw [HVB.out]; exact hg)).1, (HVW.out g (by rw [HVB.out]; exact hg)).2.1⟩) (by rw [HNW.out]; exact HO.out) (by rw [← HVB.out]; exact HOR.out)
                rw [(show (spec T rs.length N).tb 0 = T from rfl)] at hj
                have HJ9 := Lib.hid hj
                have hx9 := HXc.out.other (tb := T) (u := .slice NA (os.length + 1) nc) hbW HG.out (fun g hg => ⟨(HVW.out g hg).1, (HVW.out g hg).2.1⟩) (by decide) (by omega)
                have hy9 := HYc.out.other (tb := T) (u := .slice NA (os.length + 1) nc) hbW HG.out (fun g hg => ⟨(HVW.out g hg).1, (HVW.out g hg).2.1⟩) (by decide) (by omega)
                refine nameV (fun W => Below w.heap.size w W ∧ Blk W w.heap.size 25 #[.int .i64 c.P, .int .i64 c.H, .int .i64 c.C, .int .i64 c.Mn, .int .i64 c.Mx, .int .i64 c.Rho, .int .i64 c.Bd, .int .i64 c.Win, .int .i64 c.St, .slice sA sn scap, .slice (some ad1) rs.length rc] ∧ SS w W lo hi pb L2 M2 ∧ ∃ ow', Jar W (T + 5) ow' (spec T rs.length N) (mix rs c.St os o (D1 k 1)) ∧ RowO W (T + 5) ow' (.slice XA rs.length xc) rs.length (al2 xl) ∧ RowO W (T + 5) ow' (.slice YA N yc) N (al2 yl)) ⟨fr.below HBc.out (Nat.le_refl _) (by omega), HQc.out.fr fr (.inl (by omega)), HSc.out.fr fr (.inr (Nat.le_refl _)), _, hj, hx9, hy9⟩ fun WZ hWZ => ?_
                clear hj hx9 hy9 fr hkW HJ9
                obtain ⟨xb, hxb⟩ : ∃ x, x = V1.heap.size := ⟨_, rfl⟩
                rw [← hxb]
                exact REST NA nc xb WZ hWZ
              · rw [if_pos (by rfl)]
                go_simp
                go_at_call 24
                refine (says_any _ r.hold r.latch r.l o.A o.cc o.cs _ ⟨r.A, r.rc, rfl, HTM.out.below (HBc.out.trans (hbW.mono HBc.out.size))⟩ (HCR.out.below (HBc.out.trans (hbW.mono HBc.out.size))) (by rw [HCNE.out, HNE.out]; exact HRU.out.2.2.2.1) (by omega)).mono ?_
                rintro e V1 ⟨rfl, hk⟩
                rw [← HTR.out]
                have hbW2 := hbW.trans (hk.mono hbW.size)
                clear hbW hk
                have hbW := hbW2
                clear hbW2
                have hS := (Kp.refl wr T vb).below hbW
                go_wp2_with fail
                refine hK.out _ _ ?_ (fun hHeld2 => ?_)
                · clear hK; exact hS
                clear hK K hHeld hS
                have hHeld := hHeld2
                clear hHeld2
                try simp only [Act.put, List.setIfInBounds_toArray, List.set_cons_zero, List.set_cons_succ]
                refine wpAnyH_ready (rs := [5, 17]) (by kernel_rfl) (by simp) ?_
                refine AllReadyH.cons rfl (fun K hK => ?_) (AllReadyH.cons rfl (fun K hK => ?_) AllReadyH.nil)
                · rw [if_pos (by rfl)]
                  have cP := (hbW.cell (p := ⟨T, k, none⟩) hl1).trans hs1
                  go_simp
                  have hS := hHeld
                  clear cP
                  refine hK.out _ _ ?_ (fun hHeld2 => ?_)
                  · clear hK; exact hS
                  clear hK K hHeld hS
                  have hHeld := hHeld2
                  clear hHeld2
                  try simp only [Act.put, List.setIfInBounds_toArray, List.set_cons_zero, List.set_cons_succ]
                  refine wpAnyH_ready (rs := [17]) (by kernel_rfl) (by simp) ?_
                  refine AllReadyH.cons rfl (fun K hK => ?_) AllReadyH.nil
                  rw [if_pos (by rfl)]
                  refine wp_oneI (by rfl) ?_
                  refine nameV (fun V2 => Below wr.heap.size wr V2 ∧ Blk V2 V1.heap.size 3 #[.int .i64 tr]) ⟨hbW.alloc hbW.size _, Blk.new _ _ _ _ rfl⟩ fun V2 ⟨hbW2, hN⟩ => ?_
                  clear hbW
                  have hbW := hbW2
                  clear hbW2
                  have HN := Lib.hid hN
                  clear hN
                  have hS := (Kp.refl wr T vb).below hbW
                  refine hK.out _ _ ?_ (fun hHeld2 => ?_)
                  · clear hK; exact hS
                  clear hK K hHeld hS
                  have hHeld := hHeld2
                  clear hHeld2
                  try simp only [Act.put, List.setIfInBounds_toArray, List.set_cons_zero, List.set_cons_succ]
                  refine wpAnyH_ready (rs := [18]) (by kernel_rfl) (by simp) ?_
                  refine AllReadyH.cons rfl (fun K hK => ?_) AllReadyH.nil
                  rw [if_pos (by rfl)]
                  refine wp_appN elI1 (.tmp 117) (.tmp 129) rfl (T + 5) _ os.length (tabs rs c.St os 0 (k)) rfl (own_below HO0.out hbW) _ 1 [.int .i64 tr] rfl (RowN.of_blk HN.out rfl rfl (Nat.le_refl _) (by decide)) (by intro u hu; simp at hu; subst hu; rfl) (by unfold maxLen; omega) (by omega) (Nat.le_trans HJc.out.base hbW.size) ?_
                  intro v9 V3 hO hg hor
                  obtain ⟨NA, nc, rfl⟩ := own_shape hO
                  have hg2 : V2.grownBy V3 vb := by rw [HVB.out]; exact hg
                  have HOR := Lib.hid (show (Value.slice NA (os.length + 1) nc).ownBlock = vb ∨ (Value.slice NA (os.length + 1) nc).ownBlock = some V2.heap.size by rw [HVB.out]; exact hor)
                  clear hg hor
                  have hg := hg2
                  clear hg2
                  have HO := Lib.hid hO
                  have HG := Lib.hid hg
                  have HKP := Lib.hid (((Kp.refl wr T vb).below hbW).grown hg)
                  have hS := HKP.out
                  have HBK := Lib.hid (show V3.heap[T]? = wr.heap[T]? from (hg.block T (Nat.lt_of_lt_of_le hl1 hbW.size) (fun e => by have := (HVW.out T e.symm).2.1; omega)).trans (hbW.block T hl1))
                  clear hO hg HN
                  refine hK.out _ _ ?_ (fun hHeld2 => ?_)
                  · clear hK; exact hS
                  clear hK K hHeld hS
                  have hHeld := hHeld2
                  clear hHeld2
                  try simp only [Act.put, List.setIfInBounds_toArray, List.set_cons_zero, List.set_cons_succ]
                  refine takeD 19 (some 131) (v := ?_) rfl rfl (by kernel_rfl) (by kernel_rfl) (by kernel_rfl) (fun _ _ _ h => h) (by rfl) ?_ (by assumption) ?_
                  rotate_left
                  · intro w hSw
                    (try dsimp only at hSw)
                    go_simp
                    try with_reducible rfl
                  try simp only [Act.put, List.setIfInBounds_toArray, List.set_cons_zero, List.set_cons_succ]
                  refine wpAnyH_ready (rs := [20]) (by kernel_rfl) (by simp) ?_
                  refine AllReadyH.cons rfl (fun K hK => ?_) AllReadyH.nil
                  rw [if_pos (by rfl)]
                  have cP := (World.cell?_of_block (a := ⟨T, k, none⟩) HBK.out).trans hs1
                  have fP := (World.frozen?_of_block (a := ⟨T, k, none⟩) HBK.out).trans hf1
                  go_simp
                  have hS := HKP.out.set (i := k) (.slice NA (os.length + 1) nc)
                  clear cP fP
                  refine hK.out _ _ ?_ (fun hHeld2 => ?_)
                  · clear hK; exact hS
                  clear hK K hHeld hS
                  have hHeld := hHeld2
                  clear hHeld2
                  try simp only [Act.put, List.setIfInBounds_toArray, List.set_cons_zero, List.set_cons_succ]
                  refine wpAnyH_done (by kernel_rfl) ?_ _
                  clear hHeld
                  have hkW := HKP.out.set (i := k) (.slice NA (os.length + 1) nc)
                  have fr := hkW.fr (hi := hi) (Nat.le_trans hiT HTT.out) hl1 (fun g hg => ⟨Nat.le_trans hiT (Nat.le_trans (Nat.le_add_right T 5) (HVW.out g hg).2.1), (HVW.out g hg).2.2⟩)
                  have hj := Jar.step (m := os.length + 1) (v := (Value.slice A0 os.length c0)) (v' := .slice NA (os.length + 1) nc) HJc.out (by decide) (show k < rs.length by omega) HD1.out HDD.out hbW (by rw [← HVB.out]; exact HG.out) (fun g hg => ⟨(HVW.out g (by rw [HVB.out]; exact hg)).1, (HVW.out g (by rw [HVB.out]; exact hg)).2.1⟩) (by rw [HNW.out]; exact HO.out) (by rw [← HVB.out]; exact HOR.out)
                  rw [(show (spec T rs.length N).tb 0 = T from rfl)] at hj
                  have HJ9 := Lib.hid hj
                  have hx9 := HXc.out.other (tb := T) (u := .slice NA (os.length + 1) nc) hbW HG.out (fun g hg => ⟨(HVW.out g hg).1, (HVW.out g hg).2.1⟩) (by decide) (by omega)
                  have hy9 := HYc.out.other (tb := T) (u := .slice NA (os.length + 1) nc) hbW HG.out (fun g hg => ⟨(HVW.out g hg).1, (HVW.out g hg).2.1⟩) (by decide) (by omega)
                  refine nameV (fun W => Below w.heap.size w W ∧ Blk W w.heap.size 25 #[.int .i64 c.P, .int .i64 c.H, .int .i64 c.C, .int .i64 c.Mn, .int .i64 c.Mx, .int .i64 c.Rho, .int .i64 c.Bd, .int .i64 c.Win, .int .i64 c.St, .slice sA sn scap, .slice (some ad1) rs.length rc] ∧ SS w W lo hi pb L2 M2 ∧ ∃ ow', Jar W (T + 5) ow' (spec T rs.length N) (mix rs c.St os o (D1 k 1)) ∧ RowO W (T + 5) ow' (.slice XA rs.length xc) rs.length (al2 xl) ∧ RowO W (T + 5) ow' (.slice YA N yc) N (al2 yl)) ⟨fr.below HBc.out (Nat.le_refl _) (by omega), HQc.out.fr fr (.inl (by omega)), HSc.out.fr fr (.inr (Nat.le_refl _)), _, hj, hx9, hy9⟩ fun WZ hWZ => ?_
                  clear hj hx9 hy9 fr hkW HJ9
                  obtain ⟨xb, hxb⟩ : ∃ x, x = V1.heap.size := ⟨_, rfl⟩
                  rw [← hxb]
                  exact REST NA nc xb WZ hWZ
                · rw [if_pos (by rfl)]
                  refine wp_oneI (by rfl) ?_
                  refine nameV (fun V2 => Below wr.heap.size wr V2 ∧ Blk V2 V1.heap.size 3 #[.int .i64 tr]) ⟨hbW.alloc hbW.size _, Blk.new _ _ _ _ rfl⟩ fun V2 ⟨hbW2, hN⟩ => ?_
                  clear hbW
                  have hbW := hbW2
                  clear hbW2
                  have HN := Lib.hid hN
                  clear hN
                  have hS := (Kp.refl wr T vb).below hbW
                  refine hK.out _ _ ?_ (fun hHeld2 => ?_)
                  · clear hK; exact hS
                  clear hK K hHeld hS
                  have hHeld := hHeld2
                  clear hHeld2
                  try simp only [Act.put, List.setIfInBounds_toArray, List.set_cons_zero, List.set_cons_succ]
                  refine wpAnyH_ready (rs := [5]) (by kernel_rfl) (by simp) ?_
                  refine AllReadyH.cons rfl (fun K hK => ?_) AllReadyH.nil
                  rw [if_pos (by rfl)]
                  have cP := (hbW.cell (p := ⟨T, k, none⟩) hl1).trans hs1
                  go_simp
                  have hS := hHeld
                  clear cP
                  refine hK.out _ _ ?_ (fun hHeld2 => ?_)
                  · clear hK; exact hS
                  clear hK K hHeld hS
                  have hHeld := hHeld2
                  clear hHeld2
                  try simp only [Act.put, List.setIfInBounds_toArray, List.set_cons_zero, List.set_cons_succ]
                  refine wpAnyH_ready (rs := [18]) (by kernel_rfl) (by simp) ?_
                  refine AllReadyH.cons rfl (fun K hK => ?_) AllReadyH.nil
                  rw [if_pos (by rfl)]
                  refine wp_appN elI1 (.tmp 117) (.tmp 129) rfl (T + 5) _ os.length (tabs rs c.St os 0 (k)) rfl (own_below HO0.out hbW) _ 1 [.int .i64 tr] rfl (RowN.of_blk HN.out rfl rfl (Nat.le_refl _) (by decide)) (by intro u hu; simp at hu; subst hu; rfl) (by unfold maxLen; omega) (by omega) (Nat.le_trans HJc.out.base hbW.size) ?_
                  intro v9 V3 hO hg hor
                  obtain ⟨NA, nc, rfl⟩ := own_shape hO
                  have hg2 : V2.grownBy V3 vb := by rw [HVB.out]; exact hg
                  have HOR := Lib.hid (show (Value.slice NA (os.length + 1) nc).ownBlock = vb ∨ (Value.slice NA (os.length + 1) nc).ownBlock = some V2.heap.size by rw [HVB.out]; exact hor)
                  clear hg hor
                  have hg := hg2
                  clear hg2
                  have HO := Lib.hid hO
                  have HG := Lib.hid hg
                  have HKP := Lib.hid (((Kp.refl wr T vb).below hbW).grown hg)
                  have hS := HKP.out
                  have HBK := Lib.hid (show V3.heap[T]? = wr.heap[T]? from (hg.block T (Nat.lt_of_lt_of_le hl1 hbW.size) (fun e => by have := (HVW.out T e.symm).2.1; omega)).trans (hbW.block T hl1))
                  clear hO hg HN
                  refine hK.out _ _ ?_ (fun hHeld2 => ?_)
                  · clear hK; exact hS
                  clear hK K hHeld hS
                  have hHeld := hHeld2
                  clear hHeld2
                  try simp only [Act.put, List.setIfInBounds_toArray, List.set_cons_zero, List.set_cons_succ]
                  refine takeD 19 (some 131) (v := ?_) rfl rfl (by kernel_rfl) (by kernel_rfl) (by kernel_rfl) (fun _ _ _ h => h) (by rfl) ?_ (by assumption) ?_
                  rotate_left
                  · intro w hSw
                    (try dsimp only at hSw)
                    go_simp
                    try with_reducible rfl
                  try simp only [Act.put, List.setIfInBounds_toArray, List.set_cons_zero, List.set_cons_succ]
                  refine wpAnyH_ready (rs := [20]) (by kernel_rfl) (by simp) ?_
                  refine AllReadyH.cons rfl (fun K hK => ?_) AllReadyH.nil
                  rw [if_pos (by rfl)]
                  have cP := (World.cell?_of_block (a := ⟨T, k, none⟩) HBK.out).trans hs1
                  have fP := (World.frozen?_of_block (a := ⟨T, k, none⟩) HBK.out).trans hf1
                  go_simp
                  have hS := HKP.out.set (i := k) (.slice NA (os.length + 1) nc)
                  clear cP fP
                  refine hK.out _ _ ?_ (fun hHeld2 => ?_)
                  · clear hK; exact hS
                  clear hK K hHeld hS
                  have hHeld := hHeld2
                  clear hHeld2
                  try simp only [Act.put, List.setIfInBounds_toArray, List.set_cons_zero, List.set_cons_succ]
                  refine wpAnyH_done (by kernel_rfl) ?_ _
                  clear hHeld
                  have hkW := HKP.out.set (i := k) (.slice NA (os.length + 1) nc)
                  have fr := hkW.fr (hi := hi) (Nat.le_trans hiT HTT.out) hl1 (fun g hg => ⟨Nat.le_trans hiT (Nat.le_trans (Nat.le_add_right T 5) (HVW.out g hg).2.1), (HVW.out g hg).2.2⟩)
                  have hj := Jar.step (m := os.length + 1) (v := (Value.slice A0 os.length c0)) (v' := .slice NA (os.length + 1) nc) HJc.out (by decide) (show k < rs.length by omega) HD1.out HDD.out hbW (by rw [← HVB.out]; exact HG.out) (fun g hg => ⟨(HVW.out g (by rw [HVB.out]; exact hg)).1, (HVW.out g (by rw [HVB.out]; exact hg)).2.1⟩) (by rw [HNW.out]; exact HO.out) (by rw [← HVB.out]; exact HOR.out)
                  rw [(show (spec T rs.length N).tb 0 = T from rfl)] at hj
                  have HJ9 := Lib.hid hj
                  have hx9 := HXc.out.other (tb := T) (u := .slice NA (os.length + 1) nc) hbW HG.out (fun g hg => ⟨(HVW.out g hg).1, (HVW.out g hg).2.1⟩) (by decide) (by omega)
                  have hy9 := HYc.out.other (tb := T) (u := .slice NA (os.length + 1) nc) hbW HG.out (fun g hg => ⟨(HVW.out g hg).1, (HVW.out g hg).2.1⟩) (by decide) (by omega)
                  refine nameV (fun W => Below w.heap.size w W ∧ Blk W w.heap.size 25 #[.int .i64 c.P, .int .i64 c.H, .int .i64 c.C, .int .i64 c.Mn, .int .i64 c.Mx, .int .i64 c.Rho, .int .i64 c.Bd, .int .i64 c.Win, .int .i64 c.St, .slice sA sn scap, .slice (some ad1) rs.length rc] ∧ SS w W lo hi pb L2 M2 ∧ ∃ ow', Jar W (T + 5) ow' (spec T rs.length N) (mix rs c.St os o (D1 k 1)) ∧ RowO W (T + 5) ow' (.slice XA rs.length xc) rs.length (al2 xl) ∧ RowO W (T + 5) ow' (.slice YA N yc) N (al2 yl)) ⟨fr.below HBc.out (Nat.le_refl _) (by omega), HQc.out.fr fr (.inl (by omega)), HSc.out.fr fr (.inr (Nat.le_refl _)), _, hj, hx9, hy9⟩ fun WZ hWZ => ?_
                  clear hj hx9 hy9 fr hkW HJ9
                  obtain ⟨xb, hxb⟩ : ∃ x, x = V1.heap.size := ⟨_, rfl⟩
                  rw [← hxb]
                  exact REST NA nc xb WZ hWZ
            case r =>
              as_aux_lemma =>
              intro NA nc xb W9 ⟨hb, hq, hS, ow2, hJ, hX, hY⟩
              have HBd := Lib.hid hb
              have HQd := Lib.hid hq
              have HSd := Lib.hid hS
              have HJd := Lib.hid hJ
              have HXd := Lib.hid hX
              have HYd := Lib.hid hY
              clear hb hq hS hJ hX hY HBc HQc HSc HJc HXc HYc hs1 hf1 hl1 HVB HVW HDD HD1 HTT HNW HO0 dB
              (try clear dO0 dO1 dO2)
              (try clear d0 d1 d2)
              (try clear d5 d6)
              (try clear d7)
              (try clear hnb)
              clear vb
              have HBc := Lib.hid HBd.out
              have HQc := Lib.hid HQd.out
              have HSc := Lib.hid HSd.out
              have HJc := Lib.hid HJd.out
              have HXc := Lib.hid HXd.out
              have HYc := Lib.hid HYd.out
              clear HBd HQd HSd HJd HXd HYd ow
              obtain ⟨ow, how⟩ : ∃ o, o = ow2 := ⟨_, rfl⟩
              rw [← how] at HJc HXc HYc
              clear how
              go_wp2_with fail
              obtain ⟨ar, HAR⟩ : ∃ b, RowKit.Hid (b = decide (o.R = (k : Int))) := ⟨_, Lib.hid rfl⟩
              have har0 : (o.R == (k : Int)) = ar := by rw [HAR.out]; exact beq_dec _ _
              have HNW := Lib.hid (show news rs c.St os o 1 k = [.bool ar] by show [_] = _; rw [HAR.out])
              obtain ⟨A0, m0, c0, hs0, hf0, hl0, ho0, hw0⟩ := (HJc.out.tbl 1 (by decide)).slot (i := k) (show k < rs.length by omega)
              have hD0 := (D1_step T rs.length N k 1 1 (.inr ⟨rfl, rfl⟩))
              rw [mix_at hD0.1] at ho0
              obtain rfl : m0 = os.length := by have := ho0.1; rw [tabs_len] at this; simp only [spec] at this; omega
              have HO0 := Lib.hid (show World.ownsRow W9 (T + 5) 4 1 (.slice A0 os.length c0) os.length (tabs rs c.St os 1 (k)) from ho0)
              have hs1 : W9.cell? ⟨t1, k, none⟩ = some (.slice A0 os.length c0) := by rw [HT1.out]; exact hs0
              have hf1 : W9.frozen? ⟨t1, k, none⟩ = false := by rw [HT1.out]; exact hf0
              have hl1 : t1 < W9.heap.size := by rw [HT1.out]; exact hl0
              obtain ⟨vb, HVB⟩ : ∃ x, RowKit.Hid (x = (Value.slice A0 os.length c0).ownBlock) := ⟨_, Lib.hid rfl⟩
              have HVW := Lib.hid (show ∀ g, vb = some g → ow g = (1, k) ∧ T + 5 ≤ g ∧ g < W9.heap.size by rw [HVB.out]; exact hw0)
              have HDD := Lib.hid hD0.2
              have HD1 := Lib.hid hD0.1
              have HTT := Lib.hid (show T ≤ t1 by have := HT1.out; omega)
              have hkp : ∀ W, Kp W9 t1 vb W → ∀ p : Addr, p.block < W9.heap.size → p.block < T → W.cell? p = W9.cell? p := fun W h p h1 h2 => h.low HTT.out (fun g hg => by have := (HVW.out g hg).2.1; omega) h1 h2
              have lQ := HQc.out.lt
              have dB : ∀ W, Kp W9 t1 vb W → ∀ i, W.cell? ⟨w.heap.size, i, none⟩ = (#[.int .i64 c.P, .int .i64 c.H, .int .i64 c.C, .int .i64 c.Mn, .int .i64 c.Mx, .int .i64 c.Rho, .int .i64 c.Bd, .int .i64 c.Win, .int .i64 c.St, .slice sA sn scap, .slice (some ad1) rs.length rc] : Array Value)[i]? := fun W h i => (hkp W h ⟨w.heap.size, i, none⟩ lQ (show w.heap.size < T by omega)).trans (HQc.out.cells i)
              have dO0 : ∀ W, Kp W9 t1 vb W → W.cell? (oad.add (j * 3)) = some (.int .i64 o.R) := fun W h => (hkp W h _ (Nat.lt_of_lt_of_le lo1 HBc.out.size) (by omega)).trans (HOP.out _ HBc.out).1
              have dO1 : ∀ W, Kp W9 t1 vb W → W.cell? ⟨(oad.add (j * 3)).block, (oad.add (j * 3)).off + 1, none⟩ = some (.int .i64 o.C) := fun W h => (hkp W h ⟨(oad.add (j * 3)).block, (oad.add (j * 3)).off + 1, none⟩ (Nat.lt_of_lt_of_le lo1 HBc.out.size) (Nat.lt_of_lt_of_le lo1 (by omega))).trans (HOP.out _ HBc.out).2.1
              have dO2 : ∀ W, Kp W9 t1 vb W → W.cell? ⟨(oad.add (j * 3)).block, (oad.add (j * 3)).off + 2, none⟩ = some (.slice o.A o.cs.length o.cc) := fun W h => (hkp W h ⟨(oad.add (j * 3)).block, (oad.add (j * 3)).off + 2, none⟩ (Nat.lt_of_lt_of_le lo1 HBc.out.size) (Nat.lt_of_lt_of_le lo1 (by omega))).trans (HOP.out _ HBc.out).2.2
              clear hs0 hf0 hl0 ho0 hw0 hD0 hkp lQ
              apply cut5 (A := fun NA nc xb W => Below w.heap.size w W ∧ Blk W w.heap.size 25 #[.int .i64 c.P, .int .i64 c.H, .int .i64 c.C, .int .i64 c.Mn, .int .i64 c.Mx, .int .i64 c.Rho, .int .i64 c.Bd, .int .i64 c.Win, .int .i64 c.St, .slice sA sn scap, .slice (some ad1) rs.length rc] ∧ SS w W lo hi pb L2 M2 ∧ ∃ ow', Jar W (T + 5) ow' (spec T rs.length N) (mix rs c.St os o (D1 k 2)) ∧ RowO W (T + 5) ow' (.slice XA rs.length xc) rs.length (al2 xl) ∧ RowO W (T + 5) ow' (.slice YA N yc) N (al2 yl))
              case t =>
                intro REST
                have hbW := Below.refl W9.heap.size W9
                refine wp_region_held_drew (S := fun W => Kp W9 t1 vb W) (by kernel_rfl) ((Kp.refl W9 t1 vb).drew 1) (fun hHeld => ?_)
                refine takeD 0 (some 132) (v := ?_) rfl rfl (by kernel_rfl) (by kernel_rfl) (by kernel_rfl) (fun _ _ _ h => h) (by rfl) ?_ (by assumption) ?_
                rotate_left
                · intro w hSw
                  (try dsimp only at hSw)
                  go_simp
                  try with_reducible rfl
                try simp only [Act.put, List.setIfInBounds_toArray, List.set_cons_zero, List.set_cons_succ]
                refine takeD 1 (some 133) (v := ?_) rfl rfl (by kernel_rfl) (by kernel_rfl) (by kernel_rfl) (fun _ _ _ h => h) (by rfl) ?_ (by assumption) ?_
                rotate_left
                · intro w hSw
                  (try dsimp only at hSw)
                  go_simp
                  try with_reducible rfl
                try simp only [Act.put, List.setIfInBounds_toArray, List.set_cons_zero, List.set_cons_succ]
                refine takeD 2 (some 134) (v := ?_) rfl rfl (by kernel_rfl) (by kernel_rfl) (by kernel_rfl) (fun _ _ _ h => h) (by rfl) ?_ (by assumption) ?_
                rotate_left
                · intro w hSw
                  (try dsimp only at hSw)
                  go_simp
                  try with_reducible rfl
                try simp only [Act.put, List.setIfInBounds_toArray, List.set_cons_zero, List.set_cons_succ]
                refine takeD 3 (some 135) (v := ?_) rfl rfl (by kernel_rfl) (by kernel_rfl) (by kernel_rfl) (fun _ _ _ h => h) (by rfl) ?_ (by assumption) ?_
                rotate_left
                · intro w hSw
                  (try dsimp only at hSw)
                  go_simp
                  try with_reducible rfl
                try simp only [Act.put, List.setIfInBounds_toArray, List.set_cons_zero, List.set_cons_succ]
                refine takeD 4 (some 136) (v := ?_) rfl rfl (by kernel_rfl) (by kernel_rfl) (by kernel_rfl) (fun _ _ _ h => h) (by rfl) ?_ (by assumption) ?_
                rotate_left
                · intro w hSw
                  (try dsimp only at hSw)
                  go_simp
                  try with_reducible rfl
                try simp only [Act.put, List.setIfInBounds_toArray, List.set_cons_zero, List.set_cons_succ]
                refine takeD 6 (some 138) (v := ?_) rfl rfl (by kernel_rfl) (by kernel_rfl) (by kernel_rfl) (fun _ _ _ h => h) (by rfl) ?_ (by assumption) ?_
                rotate_left
                · intro w hSw
                  (try dsimp only at hSw)
                  go_simp
                  try with_reducible rfl
                try simp only [Act.put, List.setIfInBounds_toArray, List.set_cons_zero, List.set_cons_succ]
                refine takeD 7 (some 139) (v := ?_) rfl rfl (by kernel_rfl) (by kernel_rfl) (by kernel_rfl) (fun _ _ _ h => h) (by rfl) ?_ (by assumption) ?_
                rotate_left
                · intro w hSw
                  (try dsimp only at hSw)
                  go_simp
                  try with_reducible rfl
                try simp only [Act.put, List.setIfInBounds_toArray, List.set_cons_zero, List.set_cons_succ]
                refine takeD 8 (some 140) (v := ?_) rfl rfl (by kernel_rfl) (by kernel_rfl) (by kernel_rfl) (fun _ _ _ h => h) (by rfl) ?_ (by assumption) ?_
                rotate_left
                · intro w hSw
                  (try dsimp only at hSw)
                  go_simp
                  try with_reducible rfl
                try simp only [Act.put, List.setIfInBounds_toArray, List.set_cons_zero, List.set_cons_succ]
                refine takeD 9 (some 141) (v := ?_) rfl rfl (by kernel_rfl) (by kernel_rfl) (by kernel_rfl) (fun _ _ _ h => h) (by rfl) ?_ (by assumption) ?_
                rotate_left
                · intro w hSw
                  (try dsimp only at hSw)
                  go_simp
                  try with_reducible rfl
                try simp only [Act.put, List.setIfInBounds_toArray, List.set_cons_zero, List.set_cons_succ]
                refine takeD 10 (some 142) (v := ?_) rfl rfl (by kernel_rfl) (by kernel_rfl) (by kernel_rfl) (fun _ _ _ h => h) (by rfl) ?_ (by assumption) ?_
                rotate_left
                · intro w hSw
                  (try dsimp only at hSw)
                  go_simp
                  try with_reducible rfl
                try simp only [Act.put, List.setIfInBounds_toArray, List.set_cons_zero, List.set_cons_succ]
                refine takeD 11 (some 143) (v := ?_) rfl rfl (by kernel_rfl) (by kernel_rfl) (by kernel_rfl) (fun _ _ _ h => h) (by rfl) ?_ (by assumption) ?_
                rotate_left
                · intro w hSw
                  (try dsimp only at hSw)
                  go_simp
                  try with_reducible rfl
                try simp only [Act.put, List.setIfInBounds_toArray, List.set_cons_zero, List.set_cons_succ]
                refine takeD 12 (some 144) (v := ?_) rfl rfl (by kernel_rfl) (by kernel_rfl) (by kernel_rfl) (fun _ _ _ h => h) (by rfl) ?_ (by assumption) ?_
                rotate_left
                · intro w hSw
                  (try dsimp only at hSw)
                  go_simp
                  try with_reducible rfl
                try simp only [Act.put, List.setIfInBounds_toArray, List.set_cons_zero, List.set_cons_succ]
                refine wpAnyH_ready (rs := [5, 13]) (by kernel_rfl) (by simp) ?_
                refine AllReadyH.cons rfl (fun K hK => ?_) (AllReadyH.cons rfl (fun K hK => ?_) AllReadyH.nil)
                · rw [if_pos (by rfl)]
                  have cP := (hbW.cell (p := ⟨t1, k, none⟩) hl1).trans hs1
                  go_simp
                  have hS := hHeld
                  clear cP
                  refine hK.out _ _ ?_ (fun hHeld2 => ?_)
                  · clear hK; exact hS
                  clear hK K hHeld hS
                  have hHeld := hHeld2
                  clear hHeld2
                  try simp only [Act.put, List.setIfInBounds_toArray, List.set_cons_zero, List.set_cons_succ]
                  refine wpAnyH_ready (rs := [13]) (by kernel_rfl) (by simp) ?_
                  refine AllReadyH.cons rfl (fun K hK => ?_) AllReadyH.nil
                  rw [if_pos (by rfl)]
                  refine wp_oneB (by rfl) ?_
                  refine nameV (fun V1 => Below W9.heap.size W9 V1 ∧ Blk V1 W9.heap.size 4 #[.bool ar]) ⟨(hbW.alloc hbW.size _).drew, (Blk.new _ _ _ _ rfl).drw⟩ fun V1 ⟨hbW2, hN⟩ => ?_
                  clear hbW
                  have hbW := hbW2
                  clear hbW2
                  have HN := Lib.hid hN
                  clear hN
                  have hS := (Kp.refl W9 t1 vb).below hbW
                  refine hK.out _ _ ?_ (fun hHeld2 => ?_)
                  · clear hK; exact hS
                  clear hK K hHeld hS
                  have hHeld := hHeld2
                  clear hHeld2
                  try simp only [Act.put, List.setIfInBounds_toArray, List.set_cons_zero, List.set_cons_succ]
                  refine wpAnyH_ready (rs := [14]) (by kernel_rfl) (by simp) ?_
                  refine AllReadyH.cons rfl (fun K hK => ?_) AllReadyH.nil
                  rw [if_pos (by rfl)]
                  refine wp_appN elB1 (.tmp 137) (.tmp 145) rfl (T + 5) _ os.length (tabs rs c.St os 1 (k)) rfl (own_below HO0.out hbW) _ 1 [.bool ar] rfl (RowN.of_blk HN.out rfl rfl (Nat.le_refl _) (by decide)) (by intro u hu; simp at hu; subst hu; rfl) (by unfold maxLen; omega) (by omega) (Nat.le_trans HJc.out.base hbW.size) ?_
                  intro v9 V2 hO hg hor
                  obtain ⟨NA, nc, rfl⟩ := own_shape hO
                  have hg2 : V1.grownBy V2 vb := by rw [HVB.out]; exact hg
                  have HOR := Lib.hid (show (Value.slice NA (os.length + 1) nc).ownBlock = vb ∨ (Value.slice NA (os.length + 1) nc).ownBlock = some V1.heap.size by rw [HVB.out]; exact hor)
                  clear hg hor
                  have hg := hg2
                  clear hg2
                  have HO := Lib.hid hO
                  have HG := Lib.hid hg
                  have HKP := Lib.hid (((Kp.refl W9 t1 vb).below hbW).grown hg)
                  have hS := HKP.out
                  have HBK := Lib.hid (show V2.heap[t1]? = W9.heap[t1]? from (hg.block t1 (Nat.lt_of_lt_of_le hl1 hbW.size) (fun e => by have := (HVW.out t1 e.symm).2.1; have := HT1.out; omega)).trans (hbW.block t1 hl1))
                  clear hO hg HN
                  refine hK.out _ _ ?_ (fun hHeld2 => ?_)
                  · clear hK; exact hS
                  clear hK K hHeld hS
                  have hHeld := hHeld2
                  clear hHeld2
                  try simp only [Act.put, List.setIfInBounds_toArray, List.set_cons_zero, List.set_cons_succ]
                  refine takeD 15 (some 147) (v := ?_) rfl rfl (by kernel_rfl) (by kernel_rfl) (by kernel_rfl) (fun _ _ _ h => h) (by rfl) ?_ (by assumption) ?_
                  rotate_left
                  · intro w hSw
                    (try dsimp only at hSw)
                    go_simp
                    try with_reducible rfl
                  try simp only [Act.put, List.setIfInBounds_toArray, List.set_cons_zero, List.set_cons_succ]
                  refine wpAnyH_ready (rs := [16]) (by kernel_rfl) (by simp) ?_
                  refine AllReadyH.cons rfl (fun K hK => ?_) AllReadyH.nil
                  rw [if_pos (by rfl)]
                  have cP := (World.cell?_of_block (a := ⟨t1, k, none⟩) HBK.out).trans hs1
                  have fP := (World.frozen?_of_block (a := ⟨t1, k, none⟩) HBK.out).trans hf1
                  go_simp
                  have hS := HKP.out.set (i := k) (.slice NA (os.length + 1) nc)
                  clear cP fP
                  refine hK.out _ _ ?_ (fun hHeld2 => ?_)
                  · clear hK; exact hS
                  clear hK K hHeld hS
                  have hHeld := hHeld2
                  clear hHeld2
                  try simp only [Act.put, List.setIfInBounds_toArray, List.set_cons_zero, List.set_cons_succ]
                  refine wpAnyH_done (by kernel_rfl) ?_ _
                  clear hHeld
                  have hkW := HKP.out.set (i := k) (.slice NA (os.length + 1) nc)
                  have fr := hkW.fr (hi := hi) (Nat.le_trans hiT HTT.out) hl1 (fun g hg => ⟨Nat.le_trans hiT (Nat.le_trans (Nat.le_add_right T 5) (HVW.out g hg).2.1), (HVW.out g hg).2.2⟩)
                  have hj := Jar.step (m := os.length + 1) (v := (Value.slice A0 os.length c0)) (v' := .slice NA (os.length + 1) nc) HJc.out (by decide) (show k < rs.length by omega) HD1.out HDD.out hbW (by rw [← HVB.out]; exact HG.out) (fun g hg => ⟨(HVW.out g (by rw [HVB.out]; exact hg)).1, (HVW.out g (by rw [HVB.out]; exact hg)).2.1⟩) (by rw [HNW.out]; exact HO.out) (by rw [← HVB.out]; exact HOR.out)
                  rw [(show (spec T rs.length N).tb 1 = t1 from HT1.out.symm)] at hj
                  have HJ9 := Lib.hid hj
                  have hx9 := HXc.out.other (tb := t1) (u := .slice NA (os.length + 1) nc) hbW HG.out (fun g hg => ⟨(HVW.out g hg).1, (HVW.out g hg).2.1⟩) (by decide) (by have := HT1.out; omega)
                  have hy9 := HYc.out.other (tb := t1) (u := .slice NA (os.length + 1) nc) hbW HG.out (fun g hg => ⟨(HVW.out g hg).1, (HVW.out g hg).2.1⟩) (by decide) (by have := HT1.out; omega)
                  refine nameV (fun W => Below w.heap.size w W ∧ Blk W w.heap.size 25 #[.int .i64 c.P, .int .i64 c.H, .int .i64 c.C, .int .i64 c.Mn, .int .i64 c.Mx, .int .i64 c.Rho, .int .i64 c.Bd, .int .i64 c.Win, .int .i64 c.St, .slice sA sn scap, .slice (some ad1) rs.length rc] ∧ SS w W lo hi pb L2 M2 ∧ ∃ ow', Jar W (T + 5) ow' (spec T rs.length N) (mix rs c.St os o (D1 k 2)) ∧ RowO W (T + 5) ow' (.slice XA rs.length xc) rs.length (al2 xl) ∧ RowO W (T + 5) ow' (.slice YA N yc) N (al2 yl)) ⟨fr.below HBc.out (Nat.le_refl _) (by omega), HQc.out.fr fr (.inl (by omega)), HSc.out.fr fr (.inr (Nat.le_refl _)), _, hj, hx9, hy9⟩ fun WZ hWZ => ?_
                  clear hj hx9 hy9 fr hkW HJ9
                  obtain ⟨xb, hxb⟩ : ∃ x, x = W9.heap.size := ⟨_, rfl⟩
                  rw [← hxb]
                  exact REST NA nc xb WZ hWZ
                · rw [if_pos (by rfl)]
                  refine wp_oneB (by rfl) ?_
                  refine nameV (fun V1 => Below W9.heap.size W9 V1 ∧ Blk V1 W9.heap.size 4 #[.bool ar]) ⟨(hbW.alloc hbW.size _).drew, (Blk.new _ _ _ _ rfl).drw⟩ fun V1 ⟨hbW2, hN⟩ => ?_
                  clear hbW
                  have hbW := hbW2
                  clear hbW2
                  have HN := Lib.hid hN
                  clear hN
                  have hS := (Kp.refl W9 t1 vb).below hbW
                  refine hK.out _ _ ?_ (fun hHeld2 => ?_)
                  · clear hK; exact hS
                  clear hK K hHeld hS
                  have hHeld := hHeld2
                  clear hHeld2
                  try simp only [Act.put, List.setIfInBounds_toArray, List.set_cons_zero, List.set_cons_succ]
                  refine wpAnyH_ready (rs := [5]) (by kernel_rfl) (by simp) ?_
                  refine AllReadyH.cons rfl (fun K hK => ?_) AllReadyH.nil
                  rw [if_pos (by rfl)]
                  have cP := (hbW.cell (p := ⟨t1, k, none⟩) hl1).trans hs1
                  go_simp
                  have hS := hHeld
                  clear cP
                  refine hK.out _ _ ?_ (fun hHeld2 => ?_)
                  · clear hK; exact hS
                  clear hK K hHeld hS
                  have hHeld := hHeld2
                  clear hHeld2
                  try simp only [Act.put, List.setIfInBounds_toArray, List.set_cons_zero, List.set_cons_succ]
                  refine wpAnyH_ready (rs := [14]) (by kernel_rfl) (by simp) ?_
                  refine AllReadyH.cons rfl (fun K hK => ?_) AllReadyH.nil
                  rw [if_pos (by rfl)]
                  refine wp_appN elB1 (.tmp 137) (.tmp 145) rfl (T + 5) _ os.length (tabs rs c.St os 1 (k)) rfl (own_below HO0.out hbW) _ 1 [.bool ar] rfl (RowN.of_blk HN.out rfl rfl (Nat.le_refl _) (by decide)) (by intro u hu; simp at hu; subst hu; rfl) (by unfold maxLen; omega) (by omega) (Nat.le_trans HJc.out.base hbW.size) ?_
                  intro v9 V2 hO hg hor
                  obtain ⟨NA, nc, rfl⟩ := own_shape hO
                  have hg2 : V1.grownBy V2 vb := by rw [HVB.out]; exact hg
                  have HOR := Lib.hid (show (Value.slice NA (os.length + 1) nc).ownBlock = vb ∨ (Value.slice NA (os.length + 1) nc).ownBlock = some V1.heap.size by rw [HVB.out]; exact hor)
                  clear hg hor
                  have hg := hg2
                  clear hg2
                  have HO := Lib.hid hO
                  have HG := Lib.hid hg
                  have HKP := Lib.hid (((Kp.refl W9 t1 vb).below hbW).grown hg)
                  have hS := HKP.out
                  have HBK := Lib.hid (show V2.heap[t1]? = W9.heap[t1]? from (hg.block t1 (Nat.lt_of_lt_of_le hl1 hbW.size) (fun e => by have := (HVW.out t1 e.symm).2.1; have := HT1.out; omega)).trans (hbW.block t1 hl1))
                  clear hO hg HN
                  refine hK.out _ _ ?_ (fun hHeld2 => ?_)
                  · clear hK; exact hS
                  clear hK K hHeld hS
                  have hHeld := hHeld2
                  clear hHeld2
                  try simp only [Act.put, List.setIfInBounds_toArray, List.set_cons_zero, List.set_cons_succ]
                  refine takeD 15 (some 147) (v := ?_) rfl rfl (by kernel_rfl) (by kernel_rfl) (by kernel_rfl) (fun _ _ _ h => h) (by rfl) ?_ (by assumption) ?_
                  rotate_left
                  · intro w hSw
                    (try dsimp only at hSw)
                    go_simp
                    try with_reducible rfl
                  try simp only [Act.put, List.setIfInBounds_toArray, List.set_cons_zero, List.set_cons_succ]
                  refine wpAnyH_ready (rs := [16]) (by kernel_rfl) (by simp) ?_
                  refine AllReadyH.cons rfl (fun K hK => ?_) AllReadyH.nil
                  rw [if_pos (by rfl)]
                  have cP := (World.cell?_of_block (a := ⟨t1, k, none⟩) HBK.out).trans hs1
                  have fP := (World.frozen?_of_block (a := ⟨t1, k, none⟩) HBK.out).trans hf1
                  go_simp
                  have hS := HKP.out.set (i := k) (.slice NA (os.length + 1) nc)
                  clear cP fP
                  refine hK.out _ _ ?_ (fun hHeld2 => ?_)
                  · clear hK; exact hS
                  clear hK K hHeld hS
                  have hHeld := hHeld2
                  clear hHeld2
                  try simp only [Act.put, List.setIfInBounds_toArray, List.set_cons_zero, List.set_cons_succ]
                  refine wpAnyH_done (by kernel_rfl) ?_ _
                  clear hHeld
                  have hkW := HKP.out.set (i := k) (.slice NA (os.length + 1) nc)
                  have fr := hkW.fr (hi := hi) (Nat.le_trans hiT HTT.out) hl1 (fun g hg => ⟨Nat.le_trans hiT (Nat.le_trans (Nat.le_add_right T 5) (HVW.out g hg).2.1), (HVW.out g hg).2.2⟩)
                  have hj := Jar.step (m := os.length + 1) (v := (Value.slice A0 os.length c0)) (v' := .slice NA (os.length + 1) nc) HJc.out (by decide) (show k < rs.length by omega) HD1.out HDD.out hbW (by rw [← HVB.out]; exact HG.out) (fun g hg => ⟨(HVW.out g (by rw [HVB.out]; exact hg)).1, (HVW.out g (by rw [HVB.out]; exact hg)).2.1⟩) (by rw [HNW.out]; exact HO.out) (by rw [← HVB.out]; exact HOR.out)
                  rw [(show (spec T rs.length N).tb 1 = t1 from HT1.out.symm)] at hj
                  have HJ9 := Lib.hid hj
                  have hx9 := HXc.out.other (tb := t1) (u := .slice NA (os.length + 1) nc) hbW HG.out (fun g hg => ⟨(HVW.out g hg).1, (HVW.out g hg).2.1⟩) (by decide) (by have := HT1.out; omega)
                  have hy9 := HYc.out.other (tb := t1) (u := .slice NA (os.length + 1) nc) hbW HG.out (fun g hg => ⟨(HVW.out g hg).1, (HVW.out g hg).2.1⟩) (by decide) (by have := HT1.out; omega)
                  refine nameV (fun W => Below w.heap.size w W ∧ Blk W w.heap.size 25 #[.int .i64 c.P, .int .i64 c.H, .int .i64 c.C, .int .i64 c.Mn, .int .i64 c.Mx, .int .i64 c.Rho, .int .i64 c.Bd, .int .i64 c.Win, .int .i64 c.St, .slice sA sn scap, .slice (some ad1) rs.length rc] ∧ SS w W lo hi pb L2 M2 ∧ ∃ ow', Jar W (T + 5) ow' (spec T rs.length N) (mix rs c.St os o (D1 k 2)) ∧ RowO W (T + 5) ow' (.slice XA rs.length xc) rs.length (al2 xl) ∧ RowO W (T + 5) ow' (.slice YA N yc) N (al2 yl)) ⟨fr.below HBc.out (Nat.le_refl _) (by omega), HQc.out.fr fr (.inl (by omega)), HSc.out.fr fr (.inr (Nat.le_refl _)), _, hj, hx9, hy9⟩ fun WZ hWZ => ?_
                  clear hj hx9 hy9 fr hkW HJ9
                  obtain ⟨xb, hxb⟩ : ∃ x, x = W9.heap.size := ⟨_, rfl⟩
                  rw [← hxb]
                  exact REST NA nc xb WZ hWZ
              case r =>
                as_aux_lemma =>
                intro NA nc xb W9 ⟨hb, hq, hS, ow2, hJ, hX, hY⟩
                have HBd := Lib.hid hb
                have HQd := Lib.hid hq
                have HSd := Lib.hid hS
                have HJd := Lib.hid hJ
                have HXd := Lib.hid hX
                have HYd := Lib.hid hY
                clear hb hq hS hJ hX hY HBc HQc HSc HJc HXc HYc hs1 hf1 hl1 HVB HVW HDD HD1 HTT HNW HO0 dB
                (try clear dO0 dO1 dO2)
                (try clear d0 d1 d2)
                (try clear d5 d6)
                (try clear d7)
                (try clear hnb)
                clear vb
                have HBc := Lib.hid HBd.out
                have HQc := Lib.hid HQd.out
                have HSc := Lib.hid HSd.out
                have HJc := Lib.hid HJd.out
                have HXc := Lib.hid HXd.out
                have HYc := Lib.hid HYd.out
                clear HBd HQd HSd HJd HXd HYd ow
                obtain ⟨ow, how⟩ : ∃ o, o = ow2 := ⟨_, rfl⟩
                rw [← how] at HJc HXc HYc
                clear how
                go_wp2_with fail
                have HNW := Lib.hid (show news rs c.St os o 4 k = al2 [(x1, x2)] by show al2 [if k < rs.length then _ else _] = _; rw [if_pos hkr, HGD.out, HXO.out])
                have hxk := HXL.out k r HRK.out
                rw [← HXO.out] at hxk
                obtain ⟨ad5, rfl, hx5, hx6⟩ := RowN.at2 HXc.out.row k (x1, x2) hxk
                have hlx := HXc.out.lt (by omega) rfl
                have hox := HXc.out.ex (by omega) ad5 _ _ rfl
                have lc5 : (ad5.add (k * 2)).block < W9.heap.size := by rw [block_add]; exact hlx
                have hnb : T + 5 ≤ (ad5.add (k * 2)).block ∧ ow (ad5.add (k * 2)).block = (9, 0) := by rw [block_add]; exact hox
                have HX5 := Lib.hid hx5
                have HX6 := Lib.hid hx6
                clear hx5 hx6 hxk hlx hox
                obtain ⟨A0, m0, c0, hs0, hf0, hl0, ho0, hw0⟩ := (HJc.out.tbl 4 (by decide)).slot (i := k) (show k < rs.length + N by omega)
                have hD0 := (D1_next T rs.length N k)
                rw [mix_at hD0.1] at ho0
                obtain rfl : m0 = os.length := by have := ho0.1; rw [tabs_len] at this; simp only [spec] at this; omega
                have HO0 := Lib.hid (show World.ownsRow W9 (T + 5) 53 2 (.slice A0 os.length c0) os.length (tabs rs c.St os 4 (k)) from ho0)
                have hs1 : W9.cell? ⟨t4, k, none⟩ = some (.slice A0 os.length c0) := by rw [HT4.out]; exact hs0
                have hf1 : W9.frozen? ⟨t4, k, none⟩ = false := by rw [HT4.out]; exact hf0
                have hl1 : t4 < W9.heap.size := by rw [HT4.out]; exact hl0
                obtain ⟨vb, HVB⟩ : ∃ x, RowKit.Hid (x = (Value.slice A0 os.length c0).ownBlock) := ⟨_, Lib.hid rfl⟩
                have HVW := Lib.hid (show ∀ g, vb = some g → ow g = (4, k) ∧ T + 5 ≤ g ∧ g < W9.heap.size by rw [HVB.out]; exact hw0)
                have HDD := Lib.hid hD0.2
                have HD1 := Lib.hid hD0.1
                have HTT := Lib.hid (show T ≤ t4 by have := HT4.out; omega)
                have hkp : ∀ W, Kp W9 t4 vb W → ∀ p : Addr, p.block < W9.heap.size → p.block < T → W.cell? p = W9.cell? p := fun W h p h1 h2 => h.low HTT.out (fun g hg => by have := (HVW.out g hg).2.1; omega) h1 h2
                have lQ := HQc.out.lt
                have dB : ∀ W, Kp W9 t4 vb W → ∀ i, W.cell? ⟨w.heap.size, i, none⟩ = (#[.int .i64 c.P, .int .i64 c.H, .int .i64 c.C, .int .i64 c.Mn, .int .i64 c.Mx, .int .i64 c.Rho, .int .i64 c.Bd, .int .i64 c.Win, .int .i64 c.St, .slice sA sn scap, .slice (some ad1) rs.length rc] : Array Value)[i]? := fun W h i => (hkp W h ⟨w.heap.size, i, none⟩ lQ (show w.heap.size < T by omega)).trans (HQc.out.cells i)
                have hnt : (ad5.add (k * 2)).block ≠ t4 := by have := hnb.1; have := HT4.out; omega
                have hnv : some (ad5.add (k * 2)).block ≠ vb := fun e => by have := (HVW.out _ e.symm).1; rw [hnb.2] at this; cases this
                have d5 : ∀ W, Kp W9 t4 vb W → W.cell? (ad5.add (k * 2)) = some (.bool x1) := fun W h => (h.cell lc5 hnt hnv).trans HX5.out
                have d6 : ∀ W, Kp W9 t4 vb W → W.cell? ⟨(ad5.add (k * 2)).block, (ad5.add (k * 2)).off + 1, none⟩ = some (.bool x2) := fun W h => (h.cell (p := ⟨(ad5.add (k * 2)).block, (ad5.add (k * 2)).off + 1, none⟩) lc5 hnt hnv).trans HX6.out
                clear hnt hnv
                clear hs0 hf0 hl0 ho0 hw0 hD0 hkp lQ
                apply cut5 (A := fun NA nc xb W => Below w.heap.size w W ∧ Blk W w.heap.size 25 #[.int .i64 c.P, .int .i64 c.H, .int .i64 c.C, .int .i64 c.Mn, .int .i64 c.Mx, .int .i64 c.Rho, .int .i64 c.Bd, .int .i64 c.Win, .int .i64 c.St, .slice sA sn scap, .slice (some ad1) rs.length rc] ∧ SS w W lo hi pb L2 M2 ∧ ∃ ow', Jar W (T + 5) ow' (spec T rs.length N) (mix rs c.St os o (D1 (k + 1) 0)) ∧ RowO W (T + 5) ow' (.slice (some ad5) rs.length xc) rs.length (al2 xl) ∧ RowO W (T + 5) ow' (.slice YA N yc) N (al2 yl))
                case t =>
                  intro REST
                  have hbW := Below.refl W9.heap.size W9
                  refine wp_region_held_drew (S := fun W => Kp W9 t4 vb W) (by kernel_rfl) ((Kp.refl W9 t4 vb).drew 1) (fun hHeld => ?_)
                  refine takeD 0 (some 148) (v := ?_) rfl rfl (by kernel_rfl) (by kernel_rfl) (by kernel_rfl) (fun _ _ _ h => h) (by rfl) ?_ (by assumption) ?_
                  rotate_left
                  · intro w hSw
                    (try dsimp only at hSw)
                    go_simp
                    try with_reducible rfl
                  try simp only [Act.put, List.setIfInBounds_toArray, List.set_cons_zero, List.set_cons_succ]
                  refine takeD 1 (some 149) (v := ?_) rfl rfl (by kernel_rfl) (by kernel_rfl) (by kernel_rfl) (fun _ _ _ h => h) (by rfl) ?_ (by assumption) ?_
                  rotate_left
                  · intro w hSw
                    (try dsimp only at hSw)
                    go_simp
                    try with_reducible rfl
                  try simp only [Act.put, List.setIfInBounds_toArray, List.set_cons_zero, List.set_cons_succ]
                  refine takeD 2 (some 150) (v := ?_) rfl rfl (by kernel_rfl) (by kernel_rfl) (by kernel_rfl) (fun _ _ _ h => h) (by rfl) ?_ (by assumption) ?_
                  rotate_left
                  · intro w hSw
                    (try dsimp only at hSw)
                    go_simp
                    try with_reducible rfl
                  try simp only [Act.put, List.setIfInBounds_toArray, List.set_cons_zero, List.set_cons_succ]
                  refine takeD 3 (some 151) (v := ?_) rfl rfl (by kernel_rfl) (by kernel_rfl) (by kernel_rfl) (fun _ _ _ h => h) (by rfl) ?_ (by assumption) ?_
                  rotate_left
                  · intro w hSw
                    (try dsimp only at hSw)
                    go_simp
                    try with_reducible rfl
                  try simp only [Act.put, List.setIfInBounds_toArray, List.set_cons_zero, List.set_cons_succ]
                  refine takeD 4 (some 152) (v := ?_) rfl rfl (by kernel_rfl) (by kernel_rfl) (by kernel_rfl) (fun _ _ _ h => h) (by rfl) ?_ (by assumption) ?_
                  rotate_left
                  · intro w hSw
                    (try dsimp only at hSw)
                    go_simp
                    try with_reducible rfl
                  try simp only [Act.put, List.setIfInBounds_toArray, List.set_cons_zero, List.set_cons_succ]
                  refine takeD 6 (some 154) (v := ?_) rfl rfl (by kernel_rfl) (by kernel_rfl) (by kernel_rfl) (fun _ _ _ h => h) (by rfl) ?_ (by assumption) ?_
                  rotate_left
                  · intro w hSw
                    (try dsimp only at hSw)
                    go_simp
                    try with_reducible rfl
                  try simp only [Act.put, List.setIfInBounds_toArray, List.set_cons_zero, List.set_cons_succ]
                  refine takeD 7 (some 155) (v := ?_) rfl rfl (by kernel_rfl) (by kernel_rfl) (by kernel_rfl) (fun _ _ _ h => h) (by rfl) ?_ (by assumption) ?_
                  rotate_left
                  · intro w hSw
                    (try dsimp only at hSw)
                    go_simp
                    try with_reducible rfl
                  try simp only [Act.put, List.setIfInBounds_toArray, List.set_cons_zero, List.set_cons_succ]
                  refine takeD 8 (some 156) (v := ?_) rfl rfl (by kernel_rfl) (by kernel_rfl) (by kernel_rfl) (fun _ _ _ h => h) (by rfl) ?_ (by assumption) ?_
                  rotate_left
                  · intro w hSw
                    (try dsimp only at hSw)
                    go_simp
                    try with_reducible rfl
                  try simp only [Act.put, List.setIfInBounds_toArray, List.set_cons_zero, List.set_cons_succ]
                  refine takeD 9 (some 157) (v := ?_) rfl rfl (by kernel_rfl) (by kernel_rfl) (by kernel_rfl) (fun _ _ _ h => h) (by rfl) ?_ (by assumption) ?_
                  rotate_left
                  · intro w hSw
                    (try dsimp only at hSw)
                    go_simp
                    try with_reducible rfl
                  try simp only [Act.put, List.setIfInBounds_toArray, List.set_cons_zero, List.set_cons_succ]
                  refine wpAnyH_ready (rs := [5, 10]) (by kernel_rfl) (by simp) ?_
                  refine AllReadyH.cons rfl (fun K hK => ?_) (AllReadyH.cons rfl (fun K hK => ?_) AllReadyH.nil)
                  · rw [if_pos (by rfl)]
                    have cP := (hbW.cell (p := ⟨t4, k, none⟩) hl1).trans hs1
                    go_simp
                    have hS := hHeld
                    clear cP
                    refine hK.out _ _ ?_ (fun hHeld2 => ?_)
                    · clear hK; exact hS
                    clear hK K hHeld hS
                    have hHeld := hHeld2
                    clear hHeld2
                    try simp only [Act.put, List.setIfInBounds_toArray, List.set_cons_zero, List.set_cons_succ]
                    refine wpAnyH_ready (rs := [10]) (by kernel_rfl) (by simp) ?_
                    refine AllReadyH.cons rfl (fun K hK => ?_) AllReadyH.nil
                    rw [if_pos (by rfl)]
                    refine wp_oneA (by rfl) ?_
                    refine nameV (fun V1 => Below W9.heap.size W9 V1 ∧ Blk V1 W9.heap.size 53 #[.bool x1, .bool x2]) ⟨(hbW.alloc hbW.size _).drew, (Blk.new _ _ _ _ rfl).drw⟩ fun V1 ⟨hbW2, hN⟩ => ?_
                    clear hbW
                    have hbW := hbW2
                    clear hbW2
                    have HN := Lib.hid hN
                    clear hN
                    have hS := (Kp.refl W9 t4 vb).below hbW
                    refine hK.out _ _ ?_ (fun hHeld2 => ?_)
                    · clear hK; exact hS
                    clear hK K hHeld hS
                    have hHeld := hHeld2
                    clear hHeld2
                    try simp only [Act.put, List.setIfInBounds_toArray, List.set_cons_zero, List.set_cons_succ]
                    refine wpAnyH_ready (rs := [11]) (by kernel_rfl) (by simp) ?_
                    refine AllReadyH.cons rfl (fun K hK => ?_) AllReadyH.nil
                    rw [if_pos (by rfl)]
                    refine wp_appN elA (.tmp 153) (.tmp 158) rfl (T + 5) _ os.length (tabs rs c.St os 4 (k)) rfl (own_below HO0.out hbW) _ 1 (al2 [(x1, x2)]) rfl (RowN.of_blk HN.out rfl rfl (Nat.le_refl _) (by decide)) (al2_one _) (by unfold maxLen; omega) (by omega) (Nat.le_trans HJc.out.base hbW.size) ?_
                    intro v9 V2 hO hg hor
                    obtain ⟨NA, nc, rfl⟩ := own_shape hO
                    have hg2 : V1.grownBy V2 vb := by rw [HVB.out]; exact hg
                    have HOR := Lib.hid (show (Value.slice NA (os.length + 1) nc).ownBlock = vb ∨ (Value.slice NA (os.length + 1) nc).ownBlock = some V1.heap.size by rw [HVB.out]; exact hor)
                    clear hg hor
                    have hg := hg2
                    clear hg2
                    have HO := Lib.hid hO
                    have HG := Lib.hid hg
                    have HKP := Lib.hid (((Kp.refl W9 t4 vb).below hbW).grown hg)
                    have hS := HKP.out
                    have HBK := Lib.hid (show V2.heap[t4]? = W9.heap[t4]? from (hg.block t4 (Nat.lt_of_lt_of_le hl1 hbW.size) (fun e => by have := (HVW.out t4 e.symm).2.1; have := HT4.out; omega)).trans (hbW.block t4 hl1))
                    clear hO hg HN
                    refine hK.out _ _ ?_ (fun hHeld2 => ?_)
                    · clear hK; exact hS
                    clear hK K hHeld hS
                    have hHeld := hHeld2
                    clear hHeld2
                    try simp only [Act.put, List.setIfInBounds_toArray, List.set_cons_zero, List.set_cons_succ]
                    refine takeD 12 (some 160) (v := ?_) rfl rfl (by kernel_rfl) (by kernel_rfl) (by kernel_rfl) (fun _ _ _ h => h) (by rfl) ?_ (by assumption) ?_
                    rotate_left
                    · intro w hSw
                      (try dsimp only at hSw)
                      go_simp
                      try with_reducible rfl
                    try simp only [Act.put, List.setIfInBounds_toArray, List.set_cons_zero, List.set_cons_succ]
                    refine wpAnyH_ready (rs := [13]) (by kernel_rfl) (by simp) ?_
                    refine AllReadyH.cons rfl (fun K hK => ?_) AllReadyH.nil
                    rw [if_pos (by rfl)]
                    have cP := (World.cell?_of_block (a := ⟨t4, k, none⟩) HBK.out).trans hs1
                    have fP := (World.frozen?_of_block (a := ⟨t4, k, none⟩) HBK.out).trans hf1
                    go_simp
                    have hS := HKP.out.set (i := k) (.slice NA (os.length + 1) nc)
                    clear cP fP
                    refine hK.out _ _ ?_ (fun hHeld2 => ?_)
                    · clear hK; exact hS
                    clear hK K hHeld hS
                    have hHeld := hHeld2
                    clear hHeld2
                    try simp only [Act.put, List.setIfInBounds_toArray, List.set_cons_zero, List.set_cons_succ]
                    refine wpAnyH_done (by kernel_rfl) ?_ _
                    clear hHeld
                    have hkW := HKP.out.set (i := k) (.slice NA (os.length + 1) nc)
                    have fr := hkW.fr (hi := hi) (Nat.le_trans hiT HTT.out) hl1 (fun g hg => ⟨Nat.le_trans hiT (Nat.le_trans (Nat.le_add_right T 5) (HVW.out g hg).2.1), (HVW.out g hg).2.2⟩)
                    have hj := Jar.step (m := os.length + 1) (v := (Value.slice A0 os.length c0)) (v' := .slice NA (os.length + 1) nc) HJc.out (by decide) (show k < rs.length + N by omega) HD1.out HDD.out hbW (by rw [← HVB.out]; exact HG.out) (fun g hg => ⟨(HVW.out g (by rw [HVB.out]; exact hg)).1, (HVW.out g (by rw [HVB.out]; exact hg)).2.1⟩) (by rw [HNW.out]; exact HO.out) (by rw [← HVB.out]; exact HOR.out)
                    rw [(show (spec T rs.length N).tb 4 = t4 from HT4.out.symm)] at hj
                    have HJ9 := Lib.hid hj
                    have hx9 := HXc.out.other (tb := t4) (u := .slice NA (os.length + 1) nc) hbW HG.out (fun g hg => ⟨(HVW.out g hg).1, (HVW.out g hg).2.1⟩) (by decide) (by have := HT4.out; omega)
                    have hy9 := HYc.out.other (tb := t4) (u := .slice NA (os.length + 1) nc) hbW HG.out (fun g hg => ⟨(HVW.out g hg).1, (HVW.out g hg).2.1⟩) (by decide) (by have := HT4.out; omega)
                    refine nameV (fun W => Below w.heap.size w W ∧ Blk W w.heap.size 25 #[.int .i64 c.P, .int .i64 c.H, .int .i64 c.C, .int .i64 c.Mn, .int .i64 c.Mx, .int .i64 c.Rho, .int .i64 c.Bd, .int .i64 c.Win, .int .i64 c.St, .slice sA sn scap, .slice (some ad1) rs.length rc] ∧ SS w W lo hi pb L2 M2 ∧ ∃ ow', Jar W (T + 5) ow' (spec T rs.length N) (mix rs c.St os o (D1 (k + 1) 0)) ∧ RowO W (T + 5) ow' (.slice (some ad5) rs.length xc) rs.length (al2 xl) ∧ RowO W (T + 5) ow' (.slice YA N yc) N (al2 yl)) ⟨fr.below HBc.out (Nat.le_refl _) (by omega), HQc.out.fr fr (.inl (by omega)), HSc.out.fr fr (.inr (Nat.le_refl _)), _, hj, hx9, hy9⟩ fun WZ hWZ => ?_
                    clear hj hx9 hy9 fr hkW HJ9
                    obtain ⟨xb, hxb⟩ : ∃ x, x = W9.heap.size := ⟨_, rfl⟩
                    rw [← hxb]
                    exact REST NA nc xb WZ hWZ
                  · rw [if_pos (by rfl)]
                    refine wp_oneA (by rfl) ?_
                    refine nameV (fun V1 => Below W9.heap.size W9 V1 ∧ Blk V1 W9.heap.size 53 #[.bool x1, .bool x2]) ⟨(hbW.alloc hbW.size _).drew, (Blk.new _ _ _ _ rfl).drw⟩ fun V1 ⟨hbW2, hN⟩ => ?_
                    clear hbW
                    have hbW := hbW2
                    clear hbW2
                    have HN := Lib.hid hN
                    clear hN
                    have hS := (Kp.refl W9 t4 vb).below hbW
                    refine hK.out _ _ ?_ (fun hHeld2 => ?_)
                    · clear hK; exact hS
                    clear hK K hHeld hS
                    have hHeld := hHeld2
                    clear hHeld2
                    try simp only [Act.put, List.setIfInBounds_toArray, List.set_cons_zero, List.set_cons_succ]
                    refine wpAnyH_ready (rs := [5]) (by kernel_rfl) (by simp) ?_
                    refine AllReadyH.cons rfl (fun K hK => ?_) AllReadyH.nil
                    rw [if_pos (by rfl)]
                    have cP := (hbW.cell (p := ⟨t4, k, none⟩) hl1).trans hs1
                    go_simp
                    have hS := hHeld
                    clear cP
                    refine hK.out _ _ ?_ (fun hHeld2 => ?_)
                    · clear hK; exact hS
                    clear hK K hHeld hS
                    have hHeld := hHeld2
                    clear hHeld2
                    try simp only [Act.put, List.setIfInBounds_toArray, List.set_cons_zero, List.set_cons_succ]
                    refine wpAnyH_ready (rs := [11]) (by kernel_rfl) (by simp) ?_
                    refine AllReadyH.cons rfl (fun K hK => ?_) AllReadyH.nil
                    rw [if_pos (by rfl)]
                    refine wp_appN elA (.tmp 153) (.tmp 158) rfl (T + 5) _ os.length (tabs rs c.St os 4 (k)) rfl (own_below HO0.out hbW) _ 1 (al2 [(x1, x2)]) rfl (RowN.of_blk HN.out rfl rfl (Nat.le_refl _) (by decide)) (al2_one _) (by unfold maxLen; omega) (by omega) (Nat.le_trans HJc.out.base hbW.size) ?_
                    intro v9 V2 hO hg hor
                    obtain ⟨NA, nc, rfl⟩ := own_shape hO
                    have hg2 : V1.grownBy V2 vb := by rw [HVB.out]; exact hg
                    have HOR := Lib.hid (show (Value.slice NA (os.length + 1) nc).ownBlock = vb ∨ (Value.slice NA (os.length + 1) nc).ownBlock = some V1.heap.size by rw [HVB.out]; exact hor)
                    clear hg hor
                    have hg := hg2
                    clear hg2
                    have HO := Lib.hid hO
                    have HG := Lib.hid hg
                    have HKP := Lib.hid (((Kp.refl W9 t4 vb).below hbW).grown hg)
                    have hS := HKP.out
                    have HBK := Lib.hid (show V2.heap[t4]? = W9.heap[t4]? from (hg.block t4 (Nat.lt_of_lt_of_le hl1 hbW.size) (fun e => by have := (HVW.out t4 e.symm).2.1; have := HT4.out; omega)).trans (hbW.block t4 hl1))
                    clear hO hg HN
                    refine hK.out _ _ ?_ (fun hHeld2 => ?_)
                    · clear hK; exact hS
                    clear hK K hHeld hS
                    have hHeld := hHeld2
                    clear hHeld2
                    try simp only [Act.put, List.setIfInBounds_toArray, List.set_cons_zero, List.set_cons_succ]
                    refine takeD 12 (some 160) (v := ?_) rfl rfl (by kernel_rfl) (by kernel_rfl) (by kernel_rfl) (fun _ _ _ h => h) (by rfl) ?_ (by assumption) ?_
                    rotate_left
                    · intro w hSw
                      (try dsimp only at hSw)
                      go_simp
                      try with_reducible rfl
                    try simp only [Act.put, List.setIfInBounds_toArray, List.set_cons_zero, List.set_cons_succ]
                    refine wpAnyH_ready (rs := [13]) (by kernel_rfl) (by simp) ?_
                    refine AllReadyH.cons rfl (fun K hK => ?_) AllReadyH.nil
                    rw [if_pos (by rfl)]
                    have cP := (World.cell?_of_block (a := ⟨t4, k, none⟩) HBK.out).trans hs1
                    have fP := (World.frozen?_of_block (a := ⟨t4, k, none⟩) HBK.out).trans hf1
                    go_simp
                    have hS := HKP.out.set (i := k) (.slice NA (os.length + 1) nc)
                    clear cP fP
                    refine hK.out _ _ ?_ (fun hHeld2 => ?_)
                    · clear hK; exact hS
                    clear hK K hHeld hS
                    have hHeld := hHeld2
                    clear hHeld2
                    try simp only [Act.put, List.setIfInBounds_toArray, List.set_cons_zero, List.set_cons_succ]
                    refine wpAnyH_done (by kernel_rfl) ?_ _
                    clear hHeld
                    have hkW := HKP.out.set (i := k) (.slice NA (os.length + 1) nc)
                    have fr := hkW.fr (hi := hi) (Nat.le_trans hiT HTT.out) hl1 (fun g hg => ⟨Nat.le_trans hiT (Nat.le_trans (Nat.le_add_right T 5) (HVW.out g hg).2.1), (HVW.out g hg).2.2⟩)
                    have hj := Jar.step (m := os.length + 1) (v := (Value.slice A0 os.length c0)) (v' := .slice NA (os.length + 1) nc) HJc.out (by decide) (show k < rs.length + N by omega) HD1.out HDD.out hbW (by rw [← HVB.out]; exact HG.out) (fun g hg => ⟨(HVW.out g (by rw [HVB.out]; exact hg)).1, (HVW.out g (by rw [HVB.out]; exact hg)).2.1⟩) (by rw [HNW.out]; exact HO.out) (by rw [← HVB.out]; exact HOR.out)
                    rw [(show (spec T rs.length N).tb 4 = t4 from HT4.out.symm)] at hj
                    have HJ9 := Lib.hid hj
                    have hx9 := HXc.out.other (tb := t4) (u := .slice NA (os.length + 1) nc) hbW HG.out (fun g hg => ⟨(HVW.out g hg).1, (HVW.out g hg).2.1⟩) (by decide) (by have := HT4.out; omega)
                    have hy9 := HYc.out.other (tb := t4) (u := .slice NA (os.length + 1) nc) hbW HG.out (fun g hg => ⟨(HVW.out g hg).1, (HVW.out g hg).2.1⟩) (by decide) (by have := HT4.out; omega)
                    refine nameV (fun W => Below w.heap.size w W ∧ Blk W w.heap.size 25 #[.int .i64 c.P, .int .i64 c.H, .int .i64 c.C, .int .i64 c.Mn, .int .i64 c.Mx, .int .i64 c.Rho, .int .i64 c.Bd, .int .i64 c.Win, .int .i64 c.St, .slice sA sn scap, .slice (some ad1) rs.length rc] ∧ SS w W lo hi pb L2 M2 ∧ ∃ ow', Jar W (T + 5) ow' (spec T rs.length N) (mix rs c.St os o (D1 (k + 1) 0)) ∧ RowO W (T + 5) ow' (.slice (some ad5) rs.length xc) rs.length (al2 xl) ∧ RowO W (T + 5) ow' (.slice YA N yc) N (al2 yl)) ⟨fr.below HBc.out (Nat.le_refl _) (by omega), HQc.out.fr fr (.inl (by omega)), HSc.out.fr fr (.inr (Nat.le_refl _)), _, hj, hx9, hy9⟩ fun WZ hWZ => ?_
                    clear hj hx9 hy9 fr hkW HJ9
                    obtain ⟨xb, hxb⟩ : ∃ x, x = W9.heap.size := ⟨_, rfl⟩
                    rw [← hxb]
                    exact REST NA nc xb WZ hWZ
                case r =>
                  as_aux_lemma =>
                  intro NA nc xb W9 ⟨hb, hq, hS, ow2, hJ, hX, hY⟩
                  have HBd := Lib.hid hb
                  have HQd := Lib.hid hq
                  have HSd := Lib.hid hS
                  have HJd := Lib.hid hJ
                  have HXd := Lib.hid hX
                  have HYd := Lib.hid hY
                  clear hb hq hS hJ hX hY HBc HQc HSc HJc HXc HYc hs1 hf1 hl1 HVB HVW HDD HD1 HTT HNW HO0 dB
                  (try clear dO0 dO1 dO2)
                  (try clear d0 d1 d2)
                  (try clear d5 d6)
                  (try clear d7)
                  (try clear hnb)
                  clear vb
                  have HBc := Lib.hid HBd.out
                  have HQc := Lib.hid HQd.out
                  have HSc := Lib.hid HSd.out
                  have HJc := Lib.hid HJd.out
                  have HXc := Lib.hid HXd.out
                  have HYc := Lib.hid HYd.out
                  clear HBd HQd HSd HJd HXd HYd ow
                  obtain ⟨ow, how⟩ : ∃ o, o = ow2 := ⟨_, rfl⟩
                  rw [← how] at HJc HXc HYc
                  clear how
                  have lQ := HQc.out.lt
                  have cQ := HQc.out.cells
                  go_wp2
                  go_roundw
                  case rel => exact ⟨k + 1, ow, by omega, by go_num, HBc.out, HQc.out, HSc.out, HJc.out, HXc.out, HYc.out⟩
                  case measure => simp [intOf]; omega
          · as_aux_lemma =>
            obtain rfl : k = rs.length := by omega
            have cQ := HQc.out.cells
            have lQ := HQc.out.lt
            obtain ⟨u1, hu1⟩ : ∃ u, u = wr := ⟨wr, rfl⟩
            subst hu1
            go_wp2_with fail
            clear cQ lQ
            go_loopw [17] (fun i wk => ∃ (m : Nat) (ow : Own), m ≤ N ∧ i = .int .i64 m ∧ Below w.heap.size w wk ∧ Blk wk w.heap.size 25 #[.int .i64 c.P, .int .i64 c.H, .int .i64 c.C, .int .i64 c.Mn, .int .i64 c.Mx, .int .i64 c.Rho, .int .i64 c.Bd, .int .i64 c.Win, .int .i64 c.St, .slice sA sn scap, .slice RA rs.length rc] ∧ SS w wk lo hi pb L2 M2 ∧ Jar wk (T + 5) ow (spec T rs.length N) (mix rs c.St os o (D2 rs.length m 0)) ∧ RowO wk (T + 5) ow (.slice YA N yc) N (al2 yl)) (fun i _ => N - (intOf i).toNat)
            case atStart => exact ⟨0, ow, Nat.zero_le _, rfl, HBc.out, HQc.out, HSc.out, mix_congr HJc.out (D12 T rs.length N), HYc.out⟩
            case round =>
              clear HBc HQc HSc HJc HXc HYc
              obtain ⟨m, ow, hm, rfl, hb, hq, hS, hJ, hY⟩ := hrel
              have HBc := Lib.hid hb
              have HQc := Lib.hid hq
              have HSc := Lib.hid hS
              have HJc := Lib.hid hJ
              have HYc := Lib.hid hY
              clear hb hq hS hJ hY
              by_cases hmr : m < N
              · as_aux_lemma =>
                obtain ⟨x, hx⟩ : ∃ x, o.cs[m]? = some x := ⟨_, List.getElem?_eq_getElem (by omega)⟩
                have hxoA := hx
                obtain ⟨cad, hcA, hcad, e7, _, _⟩ := row3_at HCR.out hx
                have lc7 : (cad.add (m * 3)).block < w.heap.size := by rw [block_add]; exact hcad
                have HR7 := Lib.hid e7
                have HCA := Lib.hid hcA
                obtain ⟨sb, HSB⟩ : ∃ b, RowKit.Hid (b = sampB o.cs m) := ⟨_, Lib.hid rfl⟩
                have hsb0 : (x.1 == 1) = sb := by
                  rw [HSB.out]
                  unfold sampB
                  rw [List.getD_eq_getElem?_getD, hx, Option.getD_some]
                  exact beq_dec _ _
                obtain ⟨⟨y1, y2⟩, HYO⟩ : ∃ y, RowKit.Hid (y = outC c.St m os o) := ⟨_, Lib.hid rfl⟩
                obtain ⟨br, HBR⟩ : ∃ b, RowKit.Hid (b = decide (o.C = (m : Int))) := ⟨_, Lib.hid rfl⟩
                have hbr0 : (o.C == (m : Int)) = br := by rw [HBR.out]; exact beq_dec _ _
                have hmc : m < o.cs.length := by omega
                have gm1 : (m : Int) < (N : Int) := by omega
                have gm2 : (m : Int) < (o.cs.length : Int) := by omega
                have gm3 : ((rs.length : Int) + (m : Int)) < (rs.length : Int) + (N : Int) := by omega
                have gm4 : (0 : Int) ≤ (rs.length : Int) + (m : Int) := by omega
                have gm5 : ((rs.length : Int) + (m : Int)).toNat = rs.length + m := by omega
                have hwm : IntKind.i64.wrap ((rs.length : Int) + (m : Int)) = (rs.length : Int) + (m : Int) := IntWalk.i64_in _ (by omega)
                have HNW := Lib.hid (show news rs c.St os o 2 m = [.bool sb] by show [_] = _; rw [HSB.out])
                have lQ := HQc.out.lt
                have cQ := HQc.out.cells
                clear e7 hx hcA hxoA
                go_wp2_with fail
                clear cQ lQ
                obtain ⟨A0, m0, c0, hs0, hf0, hl0, ho0, hw0⟩ := (HJc.out.tbl 2 (by decide)).slot (i := m) (show m < N by omega)
                have hD0 := (D2_step T rs.length N m 0 2 (.inl ⟨rfl, rfl⟩))
                rw [mix_at hD0.1] at ho0
                obtain rfl : m0 = os.length := by have := ho0.1; rw [tabs_len] at this; simp only [spec] at this; omega
                have HO0 := Lib.hid (show World.ownsRow wr (T + 5) 4 1 (.slice A0 os.length c0) os.length (tabs rs c.St os 2 (m)) from ho0)
                have hs1 : wr.cell? ⟨t2, m, none⟩ = some (.slice A0 os.length c0) := by rw [HT2.out]; exact hs0
                have hf1 : wr.frozen? ⟨t2, m, none⟩ = false := by rw [HT2.out]; exact hf0
                have hl1 : t2 < wr.heap.size := by rw [HT2.out]; exact hl0
                obtain ⟨vb, HVB⟩ : ∃ x, RowKit.Hid (x = (Value.slice A0 os.length c0).ownBlock) := ⟨_, Lib.hid rfl⟩
                have HVW := Lib.hid (show ∀ g, vb = some g → ow g = (2, m) ∧ T + 5 ≤ g ∧ g < wr.heap.size by rw [HVB.out]; exact hw0)
                have HDD := Lib.hid hD0.2
                have HD1 := Lib.hid hD0.1
                have HTT := Lib.hid (show T ≤ t2 by have := HT2.out; omega)
                have hkp : ∀ W, Kp wr t2 vb W → ∀ p : Addr, p.block < wr.heap.size → p.block < T → W.cell? p = wr.cell? p := fun W h p h1 h2 => h.low HTT.out (fun g hg => by have := (HVW.out g hg).2.1; omega) h1 h2
                have lQ := HQc.out.lt
                have dB : ∀ W, Kp wr t2 vb W → ∀ i, W.cell? ⟨w.heap.size, i, none⟩ = (#[.int .i64 c.P, .int .i64 c.H, .int .i64 c.C, .int .i64 c.Mn, .int .i64 c.Mx, .int .i64 c.Rho, .int .i64 c.Bd, .int .i64 c.Win, .int .i64 c.St, .slice sA sn scap, .slice RA rs.length rc] : Array Value)[i]? := fun W h i => (hkp W h ⟨w.heap.size, i, none⟩ lQ (show w.heap.size < T by omega)).trans (HQc.out.cells i)
                have dO0 : ∀ W, Kp wr t2 vb W → W.cell? (oad.add (j * 3)) = some (.int .i64 o.R) := fun W h => (hkp W h _ (Nat.lt_of_lt_of_le lo1 HBc.out.size) (by omega)).trans (HOP.out _ HBc.out).1
                have dO1 : ∀ W, Kp wr t2 vb W → W.cell? ⟨(oad.add (j * 3)).block, (oad.add (j * 3)).off + 1, none⟩ = some (.int .i64 o.C) := fun W h => (hkp W h ⟨(oad.add (j * 3)).block, (oad.add (j * 3)).off + 1, none⟩ (Nat.lt_of_lt_of_le lo1 HBc.out.size) (Nat.lt_of_lt_of_le lo1 (by omega))).trans (HOP.out _ HBc.out).2.1
                have dO2 : ∀ W, Kp wr t2 vb W → W.cell? ⟨(oad.add (j * 3)).block, (oad.add (j * 3)).off + 2, none⟩ = some (.slice o.A o.cs.length o.cc) := fun W h => (hkp W h ⟨(oad.add (j * 3)).block, (oad.add (j * 3)).off + 2, none⟩ (Nat.lt_of_lt_of_le lo1 HBc.out.size) (Nat.lt_of_lt_of_le lo1 (by omega))).trans (HOP.out _ HBc.out).2.2
                have d7 : ∀ W, Kp wr t2 vb W → W.cell? (cad.add (m * 3)) = some (.int .i64 x.1) := fun W h => ((hkp W h _ (Nat.lt_of_lt_of_le lc7 HBc.out.size) (by omega)).trans (HBc.out.cell lc7)).trans HR7.out
                have hoA := HCA.out
                clear hs0 hf0 hl0 ho0 hw0 hD0 hkp lQ
                apply cut5 (A := fun NA nc xb W => Below w.heap.size w W ∧ Blk W w.heap.size 25 #[.int .i64 c.P, .int .i64 c.H, .int .i64 c.C, .int .i64 c.Mn, .int .i64 c.Mx, .int .i64 c.Rho, .int .i64 c.Bd, .int .i64 c.Win, .int .i64 c.St, .slice sA sn scap, .slice RA rs.length rc] ∧ SS w W lo hi pb L2 M2 ∧ ∃ ow', Jar W (T + 5) ow' (spec T rs.length N) (mix rs c.St os o (D2 rs.length m 1)) ∧ RowO W (T + 5) ow' (.slice YA N yc) N (al2 yl))
                case t =>
                  intro REST
                  have hbW := Below.refl wr.heap.size wr
                  refine wp_region_held_drew (S := fun W => Kp wr t2 vb W) (by kernel_rfl) ((Kp.refl wr t2 vb).drew 1) (fun hHeld => ?_)
                  refine takeD 0 (some 166) (v := ?_) rfl rfl (by kernel_rfl) (by kernel_rfl) (by kernel_rfl) (fun _ _ _ h => h) (by rfl) ?_ (by assumption) ?_
                  rotate_left
                  · intro w hSw
                    (try dsimp only at hSw)
                    go_simp
                    try with_reducible rfl
                  try simp only [Act.put, List.setIfInBounds_toArray, List.set_cons_zero, List.set_cons_succ]
                  refine takeD 1 (some 167) (v := ?_) rfl rfl (by kernel_rfl) (by kernel_rfl) (by kernel_rfl) (fun _ _ _ h => h) (by rfl) ?_ (by assumption) ?_
                  rotate_left
                  · intro w hSw
                    (try dsimp only at hSw)
                    go_simp
                    try with_reducible rfl
                  try simp only [Act.put, List.setIfInBounds_toArray, List.set_cons_zero, List.set_cons_succ]
                  refine takeD 2 (some 168) (v := ?_) rfl rfl (by kernel_rfl) (by kernel_rfl) (by kernel_rfl) (fun _ _ _ h => h) (by rfl) ?_ (by assumption) ?_
                  rotate_left
                  · intro w hSw
                    (try dsimp only at hSw)
                    go_simp
                    try with_reducible rfl
                  try simp only [Act.put, List.setIfInBounds_toArray, List.set_cons_zero, List.set_cons_succ]
                  refine takeD 3 (some 169) (v := ?_) rfl rfl (by kernel_rfl) (by kernel_rfl) (by kernel_rfl) (fun _ _ _ h => h) (by rfl) ?_ (by assumption) ?_
                  rotate_left
                  · intro w hSw
                    (try dsimp only at hSw)
                    go_simp
                    try with_reducible rfl
                  try simp only [Act.put, List.setIfInBounds_toArray, List.set_cons_zero, List.set_cons_succ]
                  refine takeD 4 (some 170) (v := ?_) rfl rfl (by kernel_rfl) (by kernel_rfl) (by kernel_rfl) (fun _ _ _ h => h) (by rfl) ?_ (by assumption) ?_
                  rotate_left
                  · intro w hSw
                    (try dsimp only at hSw)
                    go_simp
                    try with_reducible rfl
                  try simp only [Act.put, List.setIfInBounds_toArray, List.set_cons_zero, List.set_cons_succ]
                  refine takeD 6 (some 172) (v := ?_) rfl rfl (by kernel_rfl) (by kernel_rfl) (by kernel_rfl) (fun _ _ _ h => h) (by rfl) ?_ (by assumption) ?_
                  rotate_left
                  · intro w hSw
                    (try dsimp only at hSw)
                    go_simp
                    try with_reducible rfl
                  try simp only [Act.put, List.setIfInBounds_toArray, List.set_cons_zero, List.set_cons_succ]
                  refine takeD 7 (some 173) (v := ?_) rfl rfl (by kernel_rfl) (by kernel_rfl) (by kernel_rfl) (fun _ _ _ h => h) (by rfl) ?_ (by assumption) ?_
                  rotate_left
                  · intro w hSw
                    (try dsimp only at hSw)
                    go_simp
                    try with_reducible rfl
                  try simp only [Act.put, List.setIfInBounds_toArray, List.set_cons_zero, List.set_cons_succ]
                  refine takeD 8 (some 174) (v := ?_) rfl rfl (by kernel_rfl) (by kernel_rfl) (by kernel_rfl) (fun _ _ _ h => h) (by rfl) ?_ (by assumption) ?_
                  rotate_left
                  · intro w hSw
                    (try dsimp only at hSw)
                    go_simp
                    try with_reducible rfl
                  try simp only [Act.put, List.setIfInBounds_toArray, List.set_cons_zero, List.set_cons_succ]
                  refine takeD 9 (some 175) (v := ?_) rfl rfl (by kernel_rfl) (by kernel_rfl) (by kernel_rfl) (fun _ _ _ h => h) (by rfl) ?_ (by assumption) ?_
                  rotate_left
                  · intro w hSw
                    (try dsimp only at hSw)
                    go_simp
                    try with_reducible rfl
                  try simp only [Act.put, List.setIfInBounds_toArray, List.set_cons_zero, List.set_cons_succ]
                  refine takeD 10 (some 176) (v := ?_) rfl rfl (by kernel_rfl) (by kernel_rfl) (by kernel_rfl) (fun _ _ _ h => h) (by rfl) ?_ (by assumption) ?_
                  rotate_left
                  · intro w hSw
                    (try dsimp only at hSw)
                    go_simp
                    try with_reducible rfl
                  try simp only [Act.put, List.setIfInBounds_toArray, List.set_cons_zero, List.set_cons_succ]
                  refine takeD 11 (some 177) (v := ?_) rfl rfl (by kernel_rfl) (by kernel_rfl) (by kernel_rfl) (fun _ _ _ h => h) (by rfl) ?_ (by assumption) ?_
                  rotate_left
                  · intro w hSw
                    (try dsimp only at hSw)
                    go_simp
                    try with_reducible rfl
                  try simp only [Act.put, List.setIfInBounds_toArray, List.set_cons_zero, List.set_cons_succ]
                  refine takeD 12 (some 178) (v := ?_) rfl rfl (by kernel_rfl) (by kernel_rfl) (by kernel_rfl) (fun _ _ _ h => h) (by rfl) ?_ (by assumption) ?_
                  rotate_left
                  · intro w hSw
                    (try dsimp only at hSw)
                    go_simp
                    try with_reducible rfl
                  try simp only [Act.put, List.setIfInBounds_toArray, List.set_cons_zero, List.set_cons_succ]
                  refine takeD 13 (some 179) (v := ?_) rfl rfl (by kernel_rfl) (by kernel_rfl) (by kernel_rfl) (fun _ _ _ h => h) (by rfl) ?_ (by assumption) ?_
                  rotate_left
                  · intro w hSw
                    (try dsimp only at hSw)
                    go_simp
                    try with_reducible rfl
                  try simp only [Act.put, List.setIfInBounds_toArray, List.set_cons_zero, List.set_cons_succ]
                  refine takeD 14 (some 180) (v := ?_) rfl rfl (by kernel_rfl) (by kernel_rfl) (by kernel_rfl) (fun _ _ _ h => h) (by rfl) ?_ (by assumption) ?_
                  rotate_left
                  · intro w hSw
                    (try dsimp only at hSw)
                    go_simp
                    try with_reducible rfl
                  try simp only [Act.put, List.setIfInBounds_toArray, List.set_cons_zero, List.set_cons_succ]
                  refine takeD 15 (some 181) (v := ?_) rfl rfl (by kernel_rfl) (by kernel_rfl) (by kernel_rfl) (fun _ _ _ h => h) (by rfl) ?_ (by assumption) ?_
                  rotate_left
                  · intro w hSw
                    (try dsimp only at hSw)
                    go_simp
                    try with_reducible rfl
                  try simp only [Act.put, List.setIfInBounds_toArray, List.set_cons_zero, List.set_cons_succ]
                  refine wpAnyH_ready (rs := [5, 16]) (by kernel_rfl) (by simp) ?_
                  refine AllReadyH.cons rfl (fun K hK => ?_) (AllReadyH.cons rfl (fun K hK => ?_) AllReadyH.nil)
                  · rw [if_pos (by rfl)]
                    have cP := (hbW.cell (p := ⟨t2, m, none⟩) hl1).trans hs1
                    go_simp
                    have hS := hHeld
                    clear cP
                    refine hK.out _ _ ?_ (fun hHeld2 => ?_)
                    · clear hK; exact hS
                    clear hK K hHeld hS
                    have hHeld := hHeld2
                    clear hHeld2
                    try simp only [Act.put, List.setIfInBounds_toArray, List.set_cons_zero, List.set_cons_succ]
                    refine wpAnyH_ready (rs := [16]) (by kernel_rfl) (by simp) ?_
                    refine AllReadyH.cons rfl (fun K hK => ?_) AllReadyH.nil
                    rw [if_pos (by rfl)]
                    refine wp_oneB (by rfl) ?_
                    refine nameV (fun V1 => Below wr.heap.size wr V1 ∧ Blk V1 wr.heap.size 4 #[.bool sb]) ⟨(hbW.alloc hbW.size _).drew, (Blk.new _ _ _ _ rfl).drw⟩ fun V1 ⟨hbW2, hN⟩ => ?_
                    clear hbW
                    have hbW := hbW2
                    clear hbW2
                    have HN := Lib.hid hN
                    clear hN
                    have hS := (Kp.refl wr t2 vb).below hbW
                    refine hK.out _ _ ?_ (fun hHeld2 => ?_)
                    · clear hK; exact hS
                    clear hK K hHeld hS
                    have hHeld := hHeld2
                    clear hHeld2
                    try simp only [Act.put, List.setIfInBounds_toArray, List.set_cons_zero, List.set_cons_succ]
                    refine wpAnyH_ready (rs := [17]) (by kernel_rfl) (by simp) ?_
                    refine AllReadyH.cons rfl (fun K hK => ?_) AllReadyH.nil
                    rw [if_pos (by rfl)]
                    refine wp_appN elB1 (.tmp 171) (.tmp 182) rfl (T + 5) _ os.length (tabs rs c.St os 2 (m)) rfl (own_below HO0.out hbW) _ 1 [.bool sb] rfl (RowN.of_blk HN.out rfl rfl (Nat.le_refl _) (by decide)) (by intro u hu; simp at hu; subst hu; rfl) (by unfold maxLen; omega) (by omega) (Nat.le_trans HJc.out.base hbW.size) ?_
                    intro v9 V2 hO hg hor
                    obtain ⟨NA, nc, rfl⟩ := own_shape hO
                    have hg2 : V1.grownBy V2 vb := by rw [HVB.out]; exact hg
                    have HOR := Lib.hid (show (Value.slice NA (os.length + 1) nc).ownBlock = vb ∨ (Value.slice NA (os.length + 1) nc).ownBlock = some V1.heap.size by rw [HVB.out]; exact hor)
                    clear hg hor
                    have hg := hg2
                    clear hg2
                    have HO := Lib.hid hO
                    have HG := Lib.hid hg
                    have HKP := Lib.hid (((Kp.refl wr t2 vb).below hbW).grown hg)
                    have hS := HKP.out
                    have HBK := Lib.hid (show V2.heap[t2]? = wr.heap[t2]? from (hg.block t2 (Nat.lt_of_lt_of_le hl1 hbW.size) (fun e => by have := (HVW.out t2 e.symm).2.1; have := HT2.out; omega)).trans (hbW.block t2 hl1))
                    clear hO hg HN
                    refine hK.out _ _ ?_ (fun hHeld2 => ?_)
                    · clear hK; exact hS
                    clear hK K hHeld hS
                    have hHeld := hHeld2
                    clear hHeld2
                    try simp only [Act.put, List.setIfInBounds_toArray, List.set_cons_zero, List.set_cons_succ]
                    refine takeD 18 (some 184) (v := ?_) rfl rfl (by kernel_rfl) (by kernel_rfl) (by kernel_rfl) (fun _ _ _ h => h) (by rfl) ?_ (by assumption) ?_
                    rotate_left
                    · intro w hSw
                      (try dsimp only at hSw)
                      go_simp
                      try with_reducible rfl
                    try simp only [Act.put, List.setIfInBounds_toArray, List.set_cons_zero, List.set_cons_succ]
                    refine wpAnyH_ready (rs := [19]) (by kernel_rfl) (by simp) ?_
                    refine AllReadyH.cons rfl (fun K hK => ?_) AllReadyH.nil
                    rw [if_pos (by rfl)]
                    have cP := (World.cell?_of_block (a := ⟨t2, m, none⟩) HBK.out).trans hs1
                    have fP := (World.frozen?_of_block (a := ⟨t2, m, none⟩) HBK.out).trans hf1
                    go_simp
                    have hS := HKP.out.set (i := m) (.slice NA (os.length + 1) nc)
                    clear cP fP
                    refine hK.out _ _ ?_ (fun hHeld2 => ?_)
                    · clear hK; exact hS
                    clear hK K hHeld hS
                    have hHeld := hHeld2
                    clear hHeld2
                    try simp only [Act.put, List.setIfInBounds_toArray, List.set_cons_zero, List.set_cons_succ]
                    refine wpAnyH_done (by kernel_rfl) ?_ _
                    clear hHeld
                    have hkW := HKP.out.set (i := m) (.slice NA (os.length + 1) nc)
                    have fr := hkW.fr (hi := hi) (Nat.le_trans hiT HTT.out) hl1 (fun g hg => ⟨Nat.le_trans hiT (Nat.le_trans (Nat.le_add_right T 5) (HVW.out g hg).2.1), (HVW.out g hg).2.2⟩)
                    have hj := Jar.step (m := os.length + 1) (v := (Value.slice A0 os.length c0)) (v' := .slice NA (os.length + 1) nc) HJc.out (by decide) (show m < N by omega) HD1.out HDD.out hbW (by rw [← HVB.out]; exact HG.out) (fun g hg => ⟨(HVW.out g (by rw [HVB.out]; exact hg)).1, (HVW.out g (by rw [HVB.out]; exact hg)).2.1⟩) (by rw [HNW.out]; exact HO.out) (by rw [← HVB.out]; exact HOR.out)
                    rw [(show (spec T rs.length N).tb 2 = t2 from HT2.out.symm)] at hj
                    have HJ9 := Lib.hid hj
                    have hy9 := HYc.out.other (tb := t2) (u := .slice NA (os.length + 1) nc) hbW HG.out (fun g hg => ⟨(HVW.out g hg).1, (HVW.out g hg).2.1⟩) (by decide) (by have := HT2.out; omega)
                    refine nameV (fun W => Below w.heap.size w W ∧ Blk W w.heap.size 25 #[.int .i64 c.P, .int .i64 c.H, .int .i64 c.C, .int .i64 c.Mn, .int .i64 c.Mx, .int .i64 c.Rho, .int .i64 c.Bd, .int .i64 c.Win, .int .i64 c.St, .slice sA sn scap, .slice RA rs.length rc] ∧ SS w W lo hi pb L2 M2 ∧ ∃ ow', Jar W (T + 5) ow' (spec T rs.length N) (mix rs c.St os o (D2 rs.length m 1)) ∧ RowO W (T + 5) ow' (.slice YA N yc) N (al2 yl)) ⟨fr.below HBc.out (Nat.le_refl _) (by omega), HQc.out.fr fr (.inl (by omega)), HSc.out.fr fr (.inr (Nat.le_refl _)), _, hj, hy9⟩ fun WZ hWZ => ?_
                    clear hj hy9 fr hkW HJ9
                    obtain ⟨xb, hxb⟩ : ∃ x, x = wr.heap.size := ⟨_, rfl⟩
                    rw [← hxb]
                    exact REST NA nc xb WZ hWZ
                  · rw [if_pos (by rfl)]
                    refine wp_oneB (by rfl) ?_
                    refine nameV (fun V1 => Below wr.heap.size wr V1 ∧ Blk V1 wr.heap.size 4 #[.bool sb]) ⟨(hbW.alloc hbW.size _).drew, (Blk.new _ _ _ _ rfl).drw⟩ fun V1 ⟨hbW2, hN⟩ => ?_
                    clear hbW
                    have hbW := hbW2
                    clear hbW2
                    have HN := Lib.hid hN
                    clear hN
                    have hS := (Kp.refl wr t2 vb).below hbW
                    refine hK.out _ _ ?_ (fun hHeld2 => ?_)
                    · clear hK; exact hS
                    clear hK K hHeld hS
                    have hHeld := hHeld2
                    clear hHeld2
                    try simp only [Act.put, List.setIfInBounds_toArray, List.set_cons_zero, List.set_cons_succ]
                    refine wpAnyH_ready (rs := [5]) (by kernel_rfl) (by simp) ?_
                    refine AllReadyH.cons rfl (fun K hK => ?_) AllReadyH.nil
                    rw [if_pos (by rfl)]
                    have cP := (hbW.cell (p := ⟨t2, m, none⟩) hl1).trans hs1
                    go_simp
                    have hS := hHeld
                    clear cP
                    refine hK.out _ _ ?_ (fun hHeld2 => ?_)
                    · clear hK; exact hS
                    clear hK K hHeld hS
                    have hHeld := hHeld2
                    clear hHeld2
                    try simp only [Act.put, List.setIfInBounds_toArray, List.set_cons_zero, List.set_cons_succ]
                    refine wpAnyH_ready (rs := [17]) (by kernel_rfl) (by simp) ?_
                    refine AllReadyH.cons rfl (fun K hK => ?_) AllReadyH.nil
                    rw [if_pos (by rfl)]
                    refine wp_appN elB1 (.tmp 171) (.tmp 182) rfl (T + 5) _ os.length (tabs rs c.St os 2 (m)) rfl (own_below HO0.out hbW) _ 1 [.bool sb] rfl (RowN.of_blk HN.out rfl rfl (Nat.le_refl _) (by decide)) (by intro u hu; simp at hu; subst hu; rfl) (by unfold maxLen; omega) (by omega) (Nat.le_trans HJc.out.base hbW.size) ?_
                    intro v9 V2 hO hg hor
                    obtain ⟨NA, nc, rfl⟩ := own_shape hO
                    have hg2 : V1.grownBy V2 vb := by rw [HVB.out]; exact hg
                    have HOR := Lib.hid (show (Value.slice NA (os.length + 1) nc).ownBlock = vb ∨ (Value.slice NA (os.length + 1) nc).ownBlock = some V1.heap.size by rw [HVB.out]; exact hor)
                    clear hg hor
                    have hg := hg2
                    clear hg2
                    have HO := Lib.hid hO
                    have HG := Lib.hid hg
                    have HKP := Lib.hid (((Kp.refl wr t2 vb).below hbW).grown hg)
                    have hS := HKP.out
                    have HBK := Lib.hid (show V2.heap[t2]? = wr.heap[t2]? from (hg.block t2 (Nat.lt_of_lt_of_le hl1 hbW.size) (fun e => by have := (HVW.out t2 e.symm).2.1; have := HT2.out; omega)).trans (hbW.block t2 hl1))
                    clear hO hg HN
                    refine hK.out _ _ ?_ (fun hHeld2 => ?_)
                    · clear hK; exact hS
                    clear hK K hHeld hS
                    have hHeld := hHeld2
                    clear hHeld2
                    try simp only [Act.put, List.setIfInBounds_toArray, List.set_cons_zero, List.set_cons_succ]
                    refine takeD 18 (some 184) (v := ?_) rfl rfl (by kernel_rfl) (by kernel_rfl) (by kernel_rfl) (fun _ _ _ h => h) (by rfl) ?_ (by assumption) ?_
                    rotate_left
                    · intro w hSw
                      (try dsimp only at hSw)
                      go_simp
                      try with_reducible rfl
                    try simp only [Act.put, List.setIfInBounds_toArray, List.set_cons_zero, List.set_cons_succ]
                    refine wpAnyH_ready (rs := [19]) (by kernel_rfl) (by simp) ?_
                    refine AllReadyH.cons rfl (fun K hK => ?_) AllReadyH.nil
                    rw [if_pos (by rfl)]
                    have cP := (World.cell?_of_block (a := ⟨t2, m, none⟩) HBK.out).trans hs1
                    have fP := (World.frozen?_of_block (a := ⟨t2, m, none⟩) HBK.out).trans hf1
                    go_simp
                    have hS := HKP.out.set (i := m) (.slice NA (os.length + 1) nc)
                    clear cP fP
                    refine hK.out _ _ ?_ (fun hHeld2 => ?_)
                    · clear hK; exact hS
                    clear hK K hHeld hS
                    have hHeld := hHeld2
                    clear hHeld2
                    try simp only [Act.put, List.setIfInBounds_toArray, List.set_cons_zero, List.set_cons_succ]
                    refine wpAnyH_done (by kernel_rfl) ?_ _
                    clear hHeld
                    have hkW := HKP.out.set (i := m) (.slice NA (os.length + 1) nc)
                    have fr := hkW.fr (hi := hi) (Nat.le_trans hiT HTT.out) hl1 (fun g hg => ⟨Nat.le_trans hiT (Nat.le_trans (Nat.le_add_right T 5) (HVW.out g hg).2.1), (HVW.out g hg).2.2⟩)
                    have hj := Jar.step (m := os.length + 1) (v := (Value.slice A0 os.length c0)) (v' := .slice NA (os.length + 1) nc) HJc.out (by decide) (show m < N by omega) HD1.out HDD.out hbW (by rw [← HVB.out]; exact HG.out) (fun g hg => ⟨(HVW.out g (by rw [HVB.out]; exact hg)).1, (HVW.out g (by rw [HVB.out]; exact hg)).2.1⟩) (by rw [HNW.out]; exact HO.out) (by rw [← HVB.out]; exact HOR.out)
                    rw [(show (spec T rs.length N).tb 2 = t2 from HT2.out.symm)] at hj
                    have HJ9 := Lib.hid hj
                    have hy9 := HYc.out.other (tb := t2) (u := .slice NA (os.length + 1) nc) hbW HG.out (fun g hg => ⟨(HVW.out g hg).1, (HVW.out g hg).2.1⟩) (by decide) (by have := HT2.out; omega)
                    refine nameV (fun W => Below w.heap.size w W ∧ Blk W w.heap.size 25 #[.int .i64 c.P, .int .i64 c.H, .int .i64 c.C, .int .i64 c.Mn, .int .i64 c.Mx, .int .i64 c.Rho, .int .i64 c.Bd, .int .i64 c.Win, .int .i64 c.St, .slice sA sn scap, .slice RA rs.length rc] ∧ SS w W lo hi pb L2 M2 ∧ ∃ ow', Jar W (T + 5) ow' (spec T rs.length N) (mix rs c.St os o (D2 rs.length m 1)) ∧ RowO W (T + 5) ow' (.slice YA N yc) N (al2 yl)) ⟨fr.below HBc.out (Nat.le_refl _) (by omega), HQc.out.fr fr (.inl (by omega)), HSc.out.fr fr (.inr (Nat.le_refl _)), _, hj, hy9⟩ fun WZ hWZ => ?_
                    clear hj hy9 fr hkW HJ9
                    obtain ⟨xb, hxb⟩ : ∃ x, x = wr.heap.size := ⟨_, rfl⟩
                    rw [← hxb]
                    exact REST NA nc xb WZ hWZ
                case r =>
                  as_aux_lemma =>
                  intro NA nc xb W9 ⟨hb, hq, hS, ow2, hJ, hY⟩
                  have HBd := Lib.hid hb
                  have HQd := Lib.hid hq
                  have HSd := Lib.hid hS
                  have HJd := Lib.hid hJ
                  have HYd := Lib.hid hY
                  clear hb hq hS hJ hY HBc HQc HSc HJc HYc hs1 hf1 hl1 HVB HVW HDD HD1 HTT HNW HO0 dB
                  (try clear dO0 dO1 dO2)
                  (try clear d0 d1 d2)
                  (try clear d5 d6)
                  (try clear d7)
                  (try clear hnb)
                  clear vb
                  have HBc := Lib.hid HBd.out
                  have HQc := Lib.hid HQd.out
                  have HSc := Lib.hid HSd.out
                  have HJc := Lib.hid HJd.out
                  have HYc := Lib.hid HYd.out
                  clear HBd HQd HSd HJd HYd ow
                  obtain ⟨ow, how⟩ : ∃ o, o = ow2 := ⟨_, rfl⟩
                  rw [← how] at HJc HYc
                  clear how
                  go_wp2_with fail
                  have HNW := Lib.hid (show news rs c.St os o 3 m = [.bool br] by show [_] = _; rw [HBR.out])
                  obtain ⟨A0, m0, c0, hs0, hf0, hl0, ho0, hw0⟩ := (HJc.out.tbl 3 (by decide)).slot (i := m) (show m < N by omega)
                  have hD0 := (D2_step T rs.length N m 1 3 (.inr ⟨rfl, rfl⟩))
                  rw [mix_at hD0.1] at ho0
                  obtain rfl : m0 = os.length := by have := ho0.1; rw [tabs_len] at this; simp only [spec] at this; omega
                  have HO0 := Lib.hid (show World.ownsRow W9 (T + 5) 4 1 (.slice A0 os.length c0) os.length (tabs rs c.St os 3 (m)) from ho0)
                  have hs1 : W9.cell? ⟨t3, m, none⟩ = some (.slice A0 os.length c0) := by rw [HT3.out]; exact hs0
                  have hf1 : W9.frozen? ⟨t3, m, none⟩ = false := by rw [HT3.out]; exact hf0
                  have hl1 : t3 < W9.heap.size := by rw [HT3.out]; exact hl0
                  obtain ⟨vb, HVB⟩ : ∃ x, RowKit.Hid (x = (Value.slice A0 os.length c0).ownBlock) := ⟨_, Lib.hid rfl⟩
                  have HVW := Lib.hid (show ∀ g, vb = some g → ow g = (3, m) ∧ T + 5 ≤ g ∧ g < W9.heap.size by rw [HVB.out]; exact hw0)
                  have HDD := Lib.hid hD0.2
                  have HD1 := Lib.hid hD0.1
                  have HTT := Lib.hid (show T ≤ t3 by have := HT3.out; omega)
                  have hkp : ∀ W, Kp W9 t3 vb W → ∀ p : Addr, p.block < W9.heap.size → p.block < T → W.cell? p = W9.cell? p := fun W h p h1 h2 => h.low HTT.out (fun g hg => by have := (HVW.out g hg).2.1; omega) h1 h2
                  have lQ := HQc.out.lt
                  have dB : ∀ W, Kp W9 t3 vb W → ∀ i, W.cell? ⟨w.heap.size, i, none⟩ = (#[.int .i64 c.P, .int .i64 c.H, .int .i64 c.C, .int .i64 c.Mn, .int .i64 c.Mx, .int .i64 c.Rho, .int .i64 c.Bd, .int .i64 c.Win, .int .i64 c.St, .slice sA sn scap, .slice RA rs.length rc] : Array Value)[i]? := fun W h i => (hkp W h ⟨w.heap.size, i, none⟩ lQ (show w.heap.size < T by omega)).trans (HQc.out.cells i)
                  have dO0 : ∀ W, Kp W9 t3 vb W → W.cell? (oad.add (j * 3)) = some (.int .i64 o.R) := fun W h => (hkp W h _ (Nat.lt_of_lt_of_le lo1 HBc.out.size) (by omega)).trans (HOP.out _ HBc.out).1
                  have dO1 : ∀ W, Kp W9 t3 vb W → W.cell? ⟨(oad.add (j * 3)).block, (oad.add (j * 3)).off + 1, none⟩ = some (.int .i64 o.C) := fun W h => (hkp W h ⟨(oad.add (j * 3)).block, (oad.add (j * 3)).off + 1, none⟩ (Nat.lt_of_lt_of_le lo1 HBc.out.size) (Nat.lt_of_lt_of_le lo1 (by omega))).trans (HOP.out _ HBc.out).2.1
                  have dO2 : ∀ W, Kp W9 t3 vb W → W.cell? ⟨(oad.add (j * 3)).block, (oad.add (j * 3)).off + 2, none⟩ = some (.slice o.A o.cs.length o.cc) := fun W h => (hkp W h ⟨(oad.add (j * 3)).block, (oad.add (j * 3)).off + 2, none⟩ (Nat.lt_of_lt_of_le lo1 HBc.out.size) (Nat.lt_of_lt_of_le lo1 (by omega))).trans (HOP.out _ HBc.out).2.2
                  clear hs0 hf0 hl0 ho0 hw0 hD0 hkp lQ
                  apply cut5 (A := fun NA nc xb W => Below w.heap.size w W ∧ Blk W w.heap.size 25 #[.int .i64 c.P, .int .i64 c.H, .int .i64 c.C, .int .i64 c.Mn, .int .i64 c.Mx, .int .i64 c.Rho, .int .i64 c.Bd, .int .i64 c.Win, .int .i64 c.St, .slice sA sn scap, .slice RA rs.length rc] ∧ SS w W lo hi pb L2 M2 ∧ ∃ ow', Jar W (T + 5) ow' (spec T rs.length N) (mix rs c.St os o (D2 rs.length m 2)) ∧ RowO W (T + 5) ow' (.slice YA N yc) N (al2 yl))
                  case t =>
                    intro REST
                    have hbW := Below.refl W9.heap.size W9
                    refine wp_region_held_drew (S := fun W => Kp W9 t3 vb W) (by kernel_rfl) ((Kp.refl W9 t3 vb).drew 1) (fun hHeld => ?_)
                    refine takeD 0 (some 185) (v := ?_) rfl rfl (by kernel_rfl) (by kernel_rfl) (by kernel_rfl) (fun _ _ _ h => h) (by rfl) ?_ (by assumption) ?_
                    rotate_left
                    · intro w hSw
                      (try dsimp only at hSw)
                      go_simp
                      try with_reducible rfl
                    try simp only [Act.put, List.setIfInBounds_toArray, List.set_cons_zero, List.set_cons_succ]
                    refine takeD 1 (some 186) (v := ?_) rfl rfl (by kernel_rfl) (by kernel_rfl) (by kernel_rfl) (fun _ _ _ h => h) (by rfl) ?_ (by assumption) ?_
                    rotate_left
                    · intro w hSw
                      (try dsimp only at hSw)
                      go_simp
                      try with_reducible rfl
                    try simp only [Act.put, List.setIfInBounds_toArray, List.set_cons_zero, List.set_cons_succ]
                    refine takeD 2 (some 187) (v := ?_) rfl rfl (by kernel_rfl) (by kernel_rfl) (by kernel_rfl) (fun _ _ _ h => h) (by rfl) ?_ (by assumption) ?_
                    rotate_left
                    · intro w hSw
                      (try dsimp only at hSw)
                      go_simp
                      try with_reducible rfl
                    try simp only [Act.put, List.setIfInBounds_toArray, List.set_cons_zero, List.set_cons_succ]
                    refine takeD 3 (some 188) (v := ?_) rfl rfl (by kernel_rfl) (by kernel_rfl) (by kernel_rfl) (fun _ _ _ h => h) (by rfl) ?_ (by assumption) ?_
                    rotate_left
                    · intro w hSw
                      (try dsimp only at hSw)
                      go_simp
                      try with_reducible rfl
                    try simp only [Act.put, List.setIfInBounds_toArray, List.set_cons_zero, List.set_cons_succ]
                    refine takeD 4 (some 189) (v := ?_) rfl rfl (by kernel_rfl) (by kernel_rfl) (by kernel_rfl) (fun _ _ _ h => h) (by rfl) ?_ (by assumption) ?_
                    rotate_left
                    · intro w hSw
                      (try dsimp only at hSw)
                      go_simp
                      try with_reducible rfl
                    try simp only [Act.put, List.setIfInBounds_toArray, List.set_cons_zero, List.set_cons_succ]
                    refine takeD 6 (some 191) (v := ?_) rfl rfl (by kernel_rfl) (by kernel_rfl) (by kernel_rfl) (fun _ _ _ h => h) (by rfl) ?_ (by assumption) ?_
                    rotate_left
                    · intro w hSw
                      (try dsimp only at hSw)
                      go_simp
                      try with_reducible rfl
                    try simp only [Act.put, List.setIfInBounds_toArray, List.set_cons_zero, List.set_cons_succ]
                    refine takeD 7 (some 192) (v := ?_) rfl rfl (by kernel_rfl) (by kernel_rfl) (by kernel_rfl) (fun _ _ _ h => h) (by rfl) ?_ (by assumption) ?_
                    rotate_left
                    · intro w hSw
                      (try dsimp only at hSw)
                      go_simp
                      try with_reducible rfl
                    try simp only [Act.put, List.setIfInBounds_toArray, List.set_cons_zero, List.set_cons_succ]
                    refine takeD 8 (some 193) (v := ?_) rfl rfl (by kernel_rfl) (by kernel_rfl) (by kernel_rfl) (fun _ _ _ h => h) (by rfl) ?_ (by assumption) ?_
                    rotate_left
                    · intro w hSw
                      (try dsimp only at hSw)
                      go_simp
                      try with_reducible rfl
                    try simp only [Act.put, List.setIfInBounds_toArray, List.set_cons_zero, List.set_cons_succ]
                    refine takeD 9 (some 194) (v := ?_) rfl rfl (by kernel_rfl) (by kernel_rfl) (by kernel_rfl) (fun _ _ _ h => h) (by rfl) ?_ (by assumption) ?_
                    rotate_left
                    · intro w hSw
                      (try dsimp only at hSw)
                      go_simp
                      try with_reducible rfl
                    try simp only [Act.put, List.setIfInBounds_toArray, List.set_cons_zero, List.set_cons_succ]
                    refine takeD 10 (some 195) (v := ?_) rfl rfl (by kernel_rfl) (by kernel_rfl) (by kernel_rfl) (fun _ _ _ h => h) (by rfl) ?_ (by assumption) ?_
                    rotate_left
                    · intro w hSw
                      (try dsimp only at hSw)
                      go_simp
                      try with_reducible rfl
                    try simp only [Act.put, List.setIfInBounds_toArray, List.set_cons_zero, List.set_cons_succ]
                    refine takeD 11 (some 196) (v := ?_) rfl rfl (by kernel_rfl) (by kernel_rfl) (by kernel_rfl) (fun _ _ _ h => h) (by rfl) ?_ (by assumption) ?_
                    rotate_left
                    · intro w hSw
                      (try dsimp only at hSw)
                      go_simp
                      try with_reducible rfl
                    try simp only [Act.put, List.setIfInBounds_toArray, List.set_cons_zero, List.set_cons_succ]
                    refine takeD 12 (some 197) (v := ?_) rfl rfl (by kernel_rfl) (by kernel_rfl) (by kernel_rfl) (fun _ _ _ h => h) (by rfl) ?_ (by assumption) ?_
                    rotate_left
                    · intro w hSw
                      (try dsimp only at hSw)
                      go_simp
                      try with_reducible rfl
                    try simp only [Act.put, List.setIfInBounds_toArray, List.set_cons_zero, List.set_cons_succ]
                    refine wpAnyH_ready (rs := [5, 13]) (by kernel_rfl) (by simp) ?_
                    refine AllReadyH.cons rfl (fun K hK => ?_) (AllReadyH.cons rfl (fun K hK => ?_) AllReadyH.nil)
                    · rw [if_pos (by rfl)]
                      have cP := (hbW.cell (p := ⟨t3, m, none⟩) hl1).trans hs1
                      go_simp
                      have hS := hHeld
                      clear cP
                      refine hK.out _ _ ?_ (fun hHeld2 => ?_)
                      · clear hK; exact hS
                      clear hK K hHeld hS
                      have hHeld := hHeld2
                      clear hHeld2
                      try simp only [Act.put, List.setIfInBounds_toArray, List.set_cons_zero, List.set_cons_succ]
                      refine wpAnyH_ready (rs := [13]) (by kernel_rfl) (by simp) ?_
                      refine AllReadyH.cons rfl (fun K hK => ?_) AllReadyH.nil
                      rw [if_pos (by rfl)]
                      refine wp_oneB (by rfl) ?_
                      refine nameV (fun V1 => Below W9.heap.size W9 V1 ∧ Blk V1 W9.heap.size 4 #[.bool br]) ⟨(hbW.alloc hbW.size _).drew, (Blk.new _ _ _ _ rfl).drw⟩ fun V1 ⟨hbW2, hN⟩ => ?_
                      clear hbW
                      have hbW := hbW2
                      clear hbW2
                      have HN := Lib.hid hN
                      clear hN
                      have hS := (Kp.refl W9 t3 vb).below hbW
                      refine hK.out _ _ ?_ (fun hHeld2 => ?_)
                      · clear hK; exact hS
                      clear hK K hHeld hS
                      have hHeld := hHeld2
                      clear hHeld2
                      try simp only [Act.put, List.setIfInBounds_toArray, List.set_cons_zero, List.set_cons_succ]
                      refine wpAnyH_ready (rs := [14]) (by kernel_rfl) (by simp) ?_
                      refine AllReadyH.cons rfl (fun K hK => ?_) AllReadyH.nil
                      rw [if_pos (by rfl)]
                      refine wp_appN elB1 (.tmp 190) (.tmp 198) rfl (T + 5) _ os.length (tabs rs c.St os 3 (m)) rfl (own_below HO0.out hbW) _ 1 [.bool br] rfl (RowN.of_blk HN.out rfl rfl (Nat.le_refl _) (by decide)) (by intro u hu; simp at hu; subst hu; rfl) (by unfold maxLen; omega) (by omega) (Nat.le_trans HJc.out.base hbW.size) ?_
                      intro v9 V2 hO hg hor
                      obtain ⟨NA, nc, rfl⟩ := own_shape hO
                      have hg2 : V1.grownBy V2 vb := by rw [HVB.out]; exact hg
                      have HOR := Lib.hid (show (Value.slice NA (os.length + 1) nc).ownBlock = vb ∨ (Value.slice NA (os.length + 1) nc).ownBlock = some V1.heap.size by rw [HVB.out]; exact hor)
                      clear hg hor
                      have hg := hg2
                      clear hg2
                      have HO := Lib.hid hO
                      have HG := Lib.hid hg
                      have HKP := Lib.hid (((Kp.refl W9 t3 vb).below hbW).grown hg)
                      have hS := HKP.out
                      have HBK := Lib.hid (show V2.heap[t3]? = W9.heap[t3]? from (hg.block t3 (Nat.lt_of_lt_of_le hl1 hbW.size) (fun e => by have := (HVW.out t3 e.symm).2.1; have := HT3.out; omega)).trans (hbW.block t3 hl1))
                      clear hO hg HN
                      refine hK.out _ _ ?_ (fun hHeld2 => ?_)
                      · clear hK; exact hS
                      clear hK K hHeld hS
                      have hHeld := hHeld2
                      clear hHeld2
                      try simp only [Act.put, List.setIfInBounds_toArray, List.set_cons_zero, List.set_cons_succ]
                      refine takeD 15 (some 200) (v := ?_) rfl rfl (by kernel_rfl) (by kernel_rfl) (by kernel_rfl) (fun _ _ _ h => h) (by rfl) ?_ (by assumption) ?_
                      rotate_left
                      · intro w hSw
                        (try dsimp only at hSw)
                        go_simp
                        try with_reducible rfl
                      try simp only [Act.put, List.setIfInBounds_toArray, List.set_cons_zero, List.set_cons_succ]
                      refine wpAnyH_ready (rs := [16]) (by kernel_rfl) (by simp) ?_
                      refine AllReadyH.cons rfl (fun K hK => ?_) AllReadyH.nil
                      rw [if_pos (by rfl)]
                      have cP := (World.cell?_of_block (a := ⟨t3, m, none⟩) HBK.out).trans hs1
                      have fP := (World.frozen?_of_block (a := ⟨t3, m, none⟩) HBK.out).trans hf1
                      go_simp
                      have hS := HKP.out.set (i := m) (.slice NA (os.length + 1) nc)
                      clear cP fP
                      refine hK.out _ _ ?_ (fun hHeld2 => ?_)
                      · clear hK; exact hS
                      clear hK K hHeld hS
                      have hHeld := hHeld2
                      clear hHeld2
                      try simp only [Act.put, List.setIfInBounds_toArray, List.set_cons_zero, List.set_cons_succ]
                      refine wpAnyH_done (by kernel_rfl) ?_ _
                      clear hHeld
                      have hkW := HKP.out.set (i := m) (.slice NA (os.length + 1) nc)
                      have fr := hkW.fr (hi := hi) (Nat.le_trans hiT HTT.out) hl1 (fun g hg => ⟨Nat.le_trans hiT (Nat.le_trans (Nat.le_add_right T 5) (HVW.out g hg).2.1), (HVW.out g hg).2.2⟩)
                      have hj := Jar.step (m := os.length + 1) (v := (Value.slice A0 os.length c0)) (v' := .slice NA (os.length + 1) nc) HJc.out (by decide) (show m < N by omega) HD1.out HDD.out hbW (by rw [← HVB.out]; exact HG.out) (fun g hg => ⟨(HVW.out g (by rw [HVB.out]; exact hg)).1, (HVW.out g (by rw [HVB.out]; exact hg)).2.1⟩) (by rw [HNW.out]; exact HO.out) (by rw [← HVB.out]; exact HOR.out)
                      rw [(show (spec T rs.length N).tb 3 = t3 from HT3.out.symm)] at hj
                      have HJ9 := Lib.hid hj
                      have hy9 := HYc.out.other (tb := t3) (u := .slice NA (os.length + 1) nc) hbW HG.out (fun g hg => ⟨(HVW.out g hg).1, (HVW.out g hg).2.1⟩) (by decide) (by have := HT3.out; omega)
                      refine nameV (fun W => Below w.heap.size w W ∧ Blk W w.heap.size 25 #[.int .i64 c.P, .int .i64 c.H, .int .i64 c.C, .int .i64 c.Mn, .int .i64 c.Mx, .int .i64 c.Rho, .int .i64 c.Bd, .int .i64 c.Win, .int .i64 c.St, .slice sA sn scap, .slice RA rs.length rc] ∧ SS w W lo hi pb L2 M2 ∧ ∃ ow', Jar W (T + 5) ow' (spec T rs.length N) (mix rs c.St os o (D2 rs.length m 2)) ∧ RowO W (T + 5) ow' (.slice YA N yc) N (al2 yl)) ⟨fr.below HBc.out (Nat.le_refl _) (by omega), HQc.out.fr fr (.inl (by omega)), HSc.out.fr fr (.inr (Nat.le_refl _)), _, hj, hy9⟩ fun WZ hWZ => ?_
                      clear hj hy9 fr hkW HJ9
                      obtain ⟨xb, hxb⟩ : ∃ x, x = W9.heap.size := ⟨_, rfl⟩
                      rw [← hxb]
                      exact REST NA nc xb WZ hWZ
                    · rw [if_pos (by rfl)]
                      refine wp_oneB (by rfl) ?_
                      refine nameV (fun V1 => Below W9.heap.size W9 V1 ∧ Blk V1 W9.heap.size 4 #[.bool br]) ⟨(hbW.alloc hbW.size _).drew, (Blk.new _ _ _ _ rfl).drw⟩ fun V1 ⟨hbW2, hN⟩ => ?_
                      clear hbW
                      have hbW := hbW2
                      clear hbW2
                      have HN := Lib.hid hN
                      clear hN
                      have hS := (Kp.refl W9 t3 vb).below hbW
                      refine hK.out _ _ ?_ (fun hHeld2 => ?_)
                      · clear hK; exact hS
                      clear hK K hHeld hS
                      have hHeld := hHeld2
                      clear hHeld2
                      try simp only [Act.put, List.setIfInBounds_toArray, List.set_cons_zero, List.set_cons_succ]
                      refine wpAnyH_ready (rs := [5]) (by kernel_rfl) (by simp) ?_
                      refine AllReadyH.cons rfl (fun K hK => ?_) AllReadyH.nil
                      rw [if_pos (by rfl)]
                      have cP := (hbW.cell (p := ⟨t3, m, none⟩) hl1).trans hs1
                      go_simp
                      have hS := hHeld
                      clear cP
                      refine hK.out _ _ ?_ (fun hHeld2 => ?_)
                      · clear hK; exact hS
                      clear hK K hHeld hS
                      have hHeld := hHeld2
                      clear hHeld2
                      try simp only [Act.put, List.setIfInBounds_toArray, List.set_cons_zero, List.set_cons_succ]
                      refine wpAnyH_ready (rs := [14]) (by kernel_rfl) (by simp) ?_
                      refine AllReadyH.cons rfl (fun K hK => ?_) AllReadyH.nil
                      rw [if_pos (by rfl)]
                      refine wp_appN elB1 (.tmp 190) (.tmp 198) rfl (T + 5) _ os.length (tabs rs c.St os 3 (m)) rfl (own_below HO0.out hbW) _ 1 [.bool br] rfl (RowN.of_blk HN.out rfl rfl (Nat.le_refl _) (by decide)) (by intro u hu; simp at hu; subst hu; rfl) (by unfold maxLen; omega) (by omega) (Nat.le_trans HJc.out.base hbW.size) ?_
                      intro v9 V2 hO hg hor
                      obtain ⟨NA, nc, rfl⟩ := own_shape hO
                      have hg2 : V1.grownBy V2 vb := by rw [HVB.out]; exact hg
                      have HOR := Lib.hid (show (Value.slice NA (os.length + 1) nc).ownBlock = vb ∨ (Value.slice NA (os.length + 1) nc).ownBlock = some V1.heap.size by rw [HVB.out]; exact hor)
                      clear hg hor
                      have hg := hg2
                      clear hg2
                      have HO := Lib.hid hO
                      have HG := Lib.hid hg
                      have HKP := Lib.hid (((Kp.refl W9 t3 vb).below hbW).grown hg)
                      have hS := HKP.out
                      have HBK := Lib.hid (show V2.heap[t3]? = W9.heap[t3]? from (hg.block t3 (Nat.lt_of_lt_of_le hl1 hbW.size) (fun e => by have := (HVW.out t3 e.symm).2.1; have := HT3.out; omega)).trans (hbW.block t3 hl1))
                      clear hO hg HN
                      refine hK.out _ _ ?_ (fun hHeld2 => ?_)
                      · clear hK; exact hS
                      clear hK K hHeld hS
                      have hHeld := hHeld2
                      clear hHeld2
                      try simp only [Act.put, List.setIfInBounds_toArray, List.set_cons_zero, List.set_cons_succ]
                      refine takeD 15 (some 200) (v := ?_) rfl rfl (by kernel_rfl) (by kernel_rfl) (by kernel_rfl) (fun _ _ _ h => h) (by rfl) ?_ (by assumption) ?_
                      rotate_left
                      · intro w hSw
                        (try dsimp only at hSw)
                        go_simp
                        try with_reducible rfl
                      try simp only [Act.put, List.setIfInBounds_toArray, List.set_cons_zero, List.set_cons_succ]
                      refine wpAnyH_ready (rs := [16]) (by kernel_rfl) (by simp) ?_
                      refine AllReadyH.cons rfl (fun K hK => ?_) AllReadyH.nil
                      rw [if_pos (by rfl)]
                      have cP := (World.cell?_of_block (a := ⟨t3, m, none⟩) HBK.out).trans hs1
                      have fP := (World.frozen?_of_block (a := ⟨t3, m, none⟩) HBK.out).trans hf1
                      go_simp
                      have hS := HKP.out.set (i := m) (.slice NA (os.length + 1) nc)
                      clear cP fP
                      refine hK.out _ _ ?_ (fun hHeld2 => ?_)
                      · clear hK; exact hS
                      clear hK K hHeld hS
                      have hHeld := hHeld2
                      clear hHeld2
                      try simp only [Act.put, List.setIfInBounds_toArray, List.set_cons_zero, List.set_cons_succ]
                      refine wpAnyH_done (by kernel_rfl) ?_ _
                      clear hHeld
                      have hkW := HKP.out.set (i := m) (.slice NA (os.length + 1) nc)
                      have fr := hkW.fr (hi := hi) (Nat.le_trans hiT HTT.out) hl1 (fun g hg => ⟨Nat.le_trans hiT (Nat.le_trans (Nat.le_add_right T 5) (HVW.out g hg).2.1), (HVW.out g hg).2.2⟩)
                      have hj := Jar.step (m := os.length + 1) (v := (Value.slice A0 os.length c0)) (v' := .slice NA (os.length + 1) nc) HJc.out (by decide) (show m < N by omega) HD1.out HDD.out hbW (by rw [← HVB.out]; exact HG.out) (fun g hg => ⟨(HVW.out g (by rw [HVB.out]; exact hg)).1, (HVW.out g (by rw [HVB.out]; exact hg)).2.1⟩) (by rw [HNW.out]; exact HO.out) (by rw [← HVB.out]; exact HOR.out)
                      rw [(show (spec T rs.length N).tb 3 = t3 from HT3.out.symm)] at hj
                      have HJ9 := Lib.hid hj
                      have hy9 := HYc.out.other (tb := t3) (u := .slice NA (os.length + 1) nc) hbW HG.out (fun g hg => ⟨(HVW.out g hg).1, (HVW.out g hg).2.1⟩) (by decide) (by have := HT3.out; omega)
                      refine nameV (fun W => Below w.heap.size w W ∧ Blk W w.heap.size 25 #[.int .i64 c.P, .int .i64 c.H, .int .i64 c.C, .int .i64 c.Mn, .int .i64 c.Mx, .int .i64 c.Rho, .int .i64 c.Bd, .int .i64 c.Win, .int .i64 c.St, .slice sA sn scap, .slice RA rs.length rc] ∧ SS w W lo hi pb L2 M2 ∧ ∃ ow', Jar W (T + 5) ow' (spec T rs.length N) (mix rs c.St os o (D2 rs.length m 2)) ∧ RowO W (T + 5) ow' (.slice YA N yc) N (al2 yl)) ⟨fr.below HBc.out (Nat.le_refl _) (by omega), HQc.out.fr fr (.inl (by omega)), HSc.out.fr fr (.inr (Nat.le_refl _)), _, hj, hy9⟩ fun WZ hWZ => ?_
                      clear hj hy9 fr hkW HJ9
                      obtain ⟨xb, hxb⟩ : ∃ x, x = W9.heap.size := ⟨_, rfl⟩
                      rw [← hxb]
                      exact REST NA nc xb WZ hWZ
                  case r =>
                    as_aux_lemma =>
                    intro NA nc xb W9 ⟨hb, hq, hS, ow2, hJ, hY⟩
                    have HBd := Lib.hid hb
                    have HQd := Lib.hid hq
                    have HSd := Lib.hid hS
                    have HJd := Lib.hid hJ
                    have HYd := Lib.hid hY
                    clear hb hq hS hJ hY HBc HQc HSc HJc HYc hs1 hf1 hl1 HVB HVW HDD HD1 HTT HNW HO0 dB
                    (try clear dO0 dO1 dO2)
                    (try clear d0 d1 d2)
                    (try clear d5 d6)
                    (try clear d7)
                    (try clear hnb)
                    clear vb
                    have HBc := Lib.hid HBd.out
                    have HQc := Lib.hid HQd.out
                    have HSc := Lib.hid HSd.out
                    have HJc := Lib.hid HJd.out
                    have HYc := Lib.hid HYd.out
                    clear HBd HQd HSd HJd HYd ow
                    obtain ⟨ow, how⟩ : ∃ o, o = ow2 := ⟨_, rfl⟩
                    rw [← how] at HJc HYc
                    clear how
                    go_wp2_with fail
                    have HNW := Lib.hid (show news rs c.St os o 4 (rs.length + m) = al2 [(y1, y2)] by show al2 [if rs.length + m < rs.length then _ else _] = _; rw [if_neg (by omega), Nat.add_sub_cancel_left, HYO.out])
                    have hyk := HYL.out m hmr
                    rw [← HYO.out] at hyk
                    obtain ⟨ad5, rfl, hx5, hx6⟩ := RowN.at2 HYc.out.row m (y1, y2) hyk
                    have hlx := HYc.out.lt (by omega) rfl
                    have hox := HYc.out.ex (by omega) ad5 _ _ rfl
                    have lc5 : (ad5.add (m * 2)).block < W9.heap.size := by rw [block_add]; exact hlx
                    have hnb : T + 5 ≤ (ad5.add (m * 2)).block ∧ ow (ad5.add (m * 2)).block = (9, 0) := by rw [block_add]; exact hox
                    have HX5 := Lib.hid hx5
                    have HX6 := Lib.hid hx6
                    clear hx5 hx6 hyk hlx hox
                    obtain ⟨A0, m0, c0, hs0, hf0, hl0, ho0, hw0⟩ := (HJc.out.tbl 4 (by decide)).slot (i := rs.length + m) (show rs.length + m < rs.length + N by omega)
                    have hD0 := (D2_next T rs.length N m)
                    rw [mix_at hD0.1] at ho0
                    obtain rfl : m0 = os.length := by have := ho0.1; rw [tabs_len] at this; simp only [spec] at this; omega
                    have HO0 := Lib.hid (show World.ownsRow W9 (T + 5) 53 2 (.slice A0 os.length c0) os.length (tabs rs c.St os 4 (rs.length + m)) from ho0)
                    have hs1 : W9.cell? ⟨t4, rs.length + m, none⟩ = some (.slice A0 os.length c0) := by rw [HT4.out]; exact hs0
                    have hf1 : W9.frozen? ⟨t4, rs.length + m, none⟩ = false := by rw [HT4.out]; exact hf0
                    have hl1 : t4 < W9.heap.size := by rw [HT4.out]; exact hl0
                    obtain ⟨vb, HVB⟩ : ∃ x, RowKit.Hid (x = (Value.slice A0 os.length c0).ownBlock) := ⟨_, Lib.hid rfl⟩
                    have HVW := Lib.hid (show ∀ g, vb = some g → ow g = (4, rs.length + m) ∧ T + 5 ≤ g ∧ g < W9.heap.size by rw [HVB.out]; exact hw0)
                    have HDD := Lib.hid hD0.2
                    have HD1 := Lib.hid hD0.1
                    have HTT := Lib.hid (show T ≤ t4 by have := HT4.out; omega)
                    have hkp : ∀ W, Kp W9 t4 vb W → ∀ p : Addr, p.block < W9.heap.size → p.block < T → W.cell? p = W9.cell? p := fun W h p h1 h2 => h.low HTT.out (fun g hg => by have := (HVW.out g hg).2.1; omega) h1 h2
                    have lQ := HQc.out.lt
                    have dB : ∀ W, Kp W9 t4 vb W → ∀ i, W.cell? ⟨w.heap.size, i, none⟩ = (#[.int .i64 c.P, .int .i64 c.H, .int .i64 c.C, .int .i64 c.Mn, .int .i64 c.Mx, .int .i64 c.Rho, .int .i64 c.Bd, .int .i64 c.Win, .int .i64 c.St, .slice sA sn scap, .slice RA rs.length rc] : Array Value)[i]? := fun W h i => (hkp W h ⟨w.heap.size, i, none⟩ lQ (show w.heap.size < T by omega)).trans (HQc.out.cells i)
                    have hnt : (ad5.add (m * 2)).block ≠ t4 := by have := hnb.1; have := HT4.out; omega
                    have hnv : some (ad5.add (m * 2)).block ≠ vb := fun e => by have := (HVW.out _ e.symm).1; rw [hnb.2] at this; cases this
                    have d5 : ∀ W, Kp W9 t4 vb W → W.cell? (ad5.add (m * 2)) = some (.bool y1) := fun W h => (h.cell lc5 hnt hnv).trans HX5.out
                    have d6 : ∀ W, Kp W9 t4 vb W → W.cell? ⟨(ad5.add (m * 2)).block, (ad5.add (m * 2)).off + 1, none⟩ = some (.bool y2) := fun W h => (h.cell (p := ⟨(ad5.add (m * 2)).block, (ad5.add (m * 2)).off + 1, none⟩) lc5 hnt hnv).trans HX6.out
                    clear hnt hnv
                    clear hs0 hf0 hl0 ho0 hw0 hD0 hkp lQ
                    apply cut5 (A := fun NA nc xb W => Below w.heap.size w W ∧ Blk W w.heap.size 25 #[.int .i64 c.P, .int .i64 c.H, .int .i64 c.C, .int .i64 c.Mn, .int .i64 c.Mx, .int .i64 c.Rho, .int .i64 c.Bd, .int .i64 c.Win, .int .i64 c.St, .slice sA sn scap, .slice RA rs.length rc] ∧ SS w W lo hi pb L2 M2 ∧ ∃ ow', Jar W (T + 5) ow' (spec T rs.length N) (mix rs c.St os o (D2 rs.length (m + 1) 0)) ∧ RowO W (T + 5) ow' (.slice (some ad5) N yc) N (al2 yl))
                    case t =>
                      intro REST
                      have hbW := Below.refl W9.heap.size W9
                      refine wp_region_held_drew (S := fun W => Kp W9 t4 vb W) (by kernel_rfl) ((Kp.refl W9 t4 vb).drew 1) (fun hHeld => ?_)
                      refine takeD 0 (some 201) (v := ?_) rfl rfl (by kernel_rfl) (by kernel_rfl) (by kernel_rfl) (fun _ _ _ h => h) (by rfl) ?_ (by assumption) ?_
                      rotate_left
                      · intro w hSw
                        (try dsimp only at hSw)
                        go_simp
                        try with_reducible rfl
                      try simp only [Act.put, List.setIfInBounds_toArray, List.set_cons_zero, List.set_cons_succ]
                      refine takeD 1 (some 202) (v := ?_) rfl rfl (by kernel_rfl) (by kernel_rfl) (by kernel_rfl) (fun _ _ _ h => h) (by rfl) ?_ (by assumption) ?_
                      rotate_left
                      · intro w hSw
                        (try dsimp only at hSw)
                        go_simp
                        try with_reducible rfl
                      try simp only [Act.put, List.setIfInBounds_toArray, List.set_cons_zero, List.set_cons_succ]
                      refine takeD 2 (some 203) (v := ?_) rfl rfl (by kernel_rfl) (by kernel_rfl) (by kernel_rfl) (fun _ _ _ h => h) (by rfl) ?_ (by assumption) ?_
                      rotate_left
                      · intro w hSw
                        (try dsimp only at hSw)
                        go_simp
                        try with_reducible rfl
                      try simp only [Act.put, List.setIfInBounds_toArray, List.set_cons_zero, List.set_cons_succ]
                      refine takeD 3 (some 204) (v := ?_) rfl rfl (by kernel_rfl) (by kernel_rfl) (by kernel_rfl) (fun _ _ _ h => h) (by rfl) ?_ (by assumption) ?_
                      rotate_left
                      · intro w hSw
                        (try dsimp only at hSw)
                        go_simp
                        try with_reducible rfl
                      try simp only [Act.put, List.setIfInBounds_toArray, List.set_cons_zero, List.set_cons_succ]
                      refine takeD 4 (some 205) (v := ?_) rfl rfl (by kernel_rfl) (by kernel_rfl) (by kernel_rfl) (fun _ _ _ h => h) (by rfl) ?_ (by assumption) ?_
                      rotate_left
                      · intro w hSw
                        (try dsimp only at hSw)
                        go_simp
                        try with_reducible rfl
                      try simp only [Act.put, List.setIfInBounds_toArray, List.set_cons_zero, List.set_cons_succ]
                      refine takeD 5 (some 206) (v := ?_) rfl rfl (by kernel_rfl) (by kernel_rfl) (by kernel_rfl) (fun _ _ _ h => h) (by rfl) ?_ (by assumption) ?_
                      rotate_left
                      · intro w hSw
                        (try dsimp only at hSw)
                        go_simp
                        try with_reducible rfl
                      try simp only [Act.put, List.setIfInBounds_toArray, List.set_cons_zero, List.set_cons_succ]
                      refine takeD 6 (some 207) (v := ?_) rfl rfl (by kernel_rfl) (by kernel_rfl) (by kernel_rfl) (fun _ _ _ h => h) (by rfl) ?_ (by assumption) ?_
                      rotate_left
                      · intro w hSw
                        (try dsimp only at hSw)
                        go_simp
                        try with_reducible rfl
                      try simp only [Act.put, List.setIfInBounds_toArray, List.set_cons_zero, List.set_cons_succ]
                      refine takeD 7 (some 208) (v := ?_) rfl rfl (by kernel_rfl) (by kernel_rfl) (by kernel_rfl) (fun _ _ _ h => h) (by rfl) ?_ (by assumption) ?_
                      rotate_left
                      · intro w hSw
                        (try dsimp only at hSw)
                        go_simp
                        try with_reducible rfl
                      try simp only [Act.put, List.setIfInBounds_toArray, List.set_cons_zero, List.set_cons_succ]
                      refine takeD 8 (some 209) (v := ?_) rfl rfl (by kernel_rfl) (by kernel_rfl) (by kernel_rfl) (fun _ _ _ h => h) (by rfl) ?_ (by assumption) ?_
                      rotate_left
                      · intro w hSw
                        (try dsimp only at hSw)
                        go_simp
                        try with_reducible rfl
                      try simp only [Act.put, List.setIfInBounds_toArray, List.set_cons_zero, List.set_cons_succ]
                      refine takeD 9 (some 210) (v := ?_) rfl rfl (by kernel_rfl) (by kernel_rfl) (by kernel_rfl) (fun _ _ _ h => h) (by rfl) ?_ (by assumption) ?_
                      rotate_left
                      · intro w hSw
                        (try dsimp only at hSw)
                        go_simp
                        try with_reducible rfl
                      try simp only [Act.put, List.setIfInBounds_toArray, List.set_cons_zero, List.set_cons_succ]
                      refine takeD 10 (some 211) (v := ?_) rfl rfl (by kernel_rfl) (by kernel_rfl) (by kernel_rfl) (fun _ _ _ h => h) (by rfl) ?_ (by assumption) ?_
                      rotate_left
                      · intro w hSw
                        (try dsimp only at hSw)
                        go_simp
                        try with_reducible rfl
                      try simp only [Act.put, List.setIfInBounds_toArray, List.set_cons_zero, List.set_cons_succ]
                      refine takeD 11 (some 212) (v := ?_) rfl rfl (by kernel_rfl) (by kernel_rfl) (by kernel_rfl) (fun _ _ _ h => h) (by rfl) ?_ (by assumption) ?_
                      rotate_left
                      · intro w hSw
                        (try dsimp only at hSw)
                        go_simp
                        try with_reducible rfl
                      try simp only [Act.put, List.setIfInBounds_toArray, List.set_cons_zero, List.set_cons_succ]
                      refine takeD 12 (some 213) (v := ?_) rfl rfl (by kernel_rfl) (by kernel_rfl) (by kernel_rfl) (fun _ _ _ h => h) (by rfl) ?_ (by assumption) ?_
                      rotate_left
                      · intro w hSw
                        (try dsimp only at hSw)
                        go_simp
                        try with_reducible rfl
                      try simp only [Act.put, List.setIfInBounds_toArray, List.set_cons_zero, List.set_cons_succ]
                      refine takeD 14 (some 215) (v := ?_) rfl rfl (by kernel_rfl) (by kernel_rfl) (by kernel_rfl) (fun _ _ _ h => h) (by rfl) ?_ (by assumption) ?_
                      rotate_left
                      · intro w hSw
                        (try dsimp only at hSw)
                        go_simp
                        try with_reducible rfl
                      try simp only [Act.put, List.setIfInBounds_toArray, List.set_cons_zero, List.set_cons_succ]
                      refine takeD 15 (some 216) (v := ?_) rfl rfl (by kernel_rfl) (by kernel_rfl) (by kernel_rfl) (fun _ _ _ h => h) (by rfl) ?_ (by assumption) ?_
                      rotate_left
                      · intro w hSw
                        (try dsimp only at hSw)
                        go_simp
                        try with_reducible rfl
                      try simp only [Act.put, List.setIfInBounds_toArray, List.set_cons_zero, List.set_cons_succ]
                      refine takeD 16 (some 217) (v := ?_) rfl rfl (by kernel_rfl) (by kernel_rfl) (by kernel_rfl) (fun _ _ _ h => h) (by rfl) ?_ (by assumption) ?_
                      rotate_left
                      · intro w hSw
                        (try dsimp only at hSw)
                        go_simp
                        try with_reducible rfl
                      try simp only [Act.put, List.setIfInBounds_toArray, List.set_cons_zero, List.set_cons_succ]
                      refine takeD 17 (some 218) (v := ?_) rfl rfl (by kernel_rfl) (by kernel_rfl) (by kernel_rfl) (fun _ _ _ h => h) (by rfl) ?_ (by assumption) ?_
                      rotate_left
                      · intro w hSw
                        (try dsimp only at hSw)
                        go_simp
                        try with_reducible rfl
                      try simp only [Act.put, List.setIfInBounds_toArray, List.set_cons_zero, List.set_cons_succ]
                      refine wpAnyH_ready (rs := [13, 18]) (by kernel_rfl) (by simp) ?_
                      refine AllReadyH.cons rfl (fun K hK => ?_) (AllReadyH.cons rfl (fun K hK => ?_) AllReadyH.nil)
                      · rw [if_pos (by rfl)]
                        have cP := (hbW.cell (p := ⟨t4, rs.length + m, none⟩) hl1).trans hs1
                        go_simp
                        have hS := hHeld
                        clear cP
                        refine hK.out _ _ ?_ (fun hHeld2 => ?_)
                        · clear hK; exact hS
                        clear hK K hHeld hS
                        have hHeld := hHeld2
                        clear hHeld2
                        try simp only [Act.put, List.setIfInBounds_toArray, List.set_cons_zero, List.set_cons_succ]
                        refine wpAnyH_ready (rs := [18]) (by kernel_rfl) (by simp) ?_
                        refine AllReadyH.cons rfl (fun K hK => ?_) AllReadyH.nil
                        rw [if_pos (by rfl)]
                        refine wp_oneA (by rfl) ?_
                        refine nameV (fun V1 => Below W9.heap.size W9 V1 ∧ Blk V1 W9.heap.size 53 #[.bool y1, .bool y2]) ⟨(hbW.alloc hbW.size _).drew, (Blk.new _ _ _ _ rfl).drw⟩ fun V1 ⟨hbW2, hN⟩ => ?_
                        clear hbW
                        have hbW := hbW2
                        clear hbW2
                        have HN := Lib.hid hN
                        clear hN
                        have hS := (Kp.refl W9 t4 vb).below hbW
                        refine hK.out _ _ ?_ (fun hHeld2 => ?_)
                        · clear hK; exact hS
                        clear hK K hHeld hS
                        have hHeld := hHeld2
                        clear hHeld2
                        try simp only [Act.put, List.setIfInBounds_toArray, List.set_cons_zero, List.set_cons_succ]
                        refine wpAnyH_ready (rs := [19]) (by kernel_rfl) (by simp) ?_
                        refine AllReadyH.cons rfl (fun K hK => ?_) AllReadyH.nil
                        rw [if_pos (by rfl)]
                        refine wp_appN elA (.tmp 214) (.tmp 219) rfl (T + 5) _ os.length (tabs rs c.St os 4 (rs.length + m)) rfl (own_below HO0.out hbW) _ 1 (al2 [(y1, y2)]) rfl (RowN.of_blk HN.out rfl rfl (Nat.le_refl _) (by decide)) (al2_one _) (by unfold maxLen; omega) (by omega) (Nat.le_trans HJc.out.base hbW.size) ?_
                        intro v9 V2 hO hg hor
                        obtain ⟨NA, nc, rfl⟩ := own_shape hO
                        have hg2 : V1.grownBy V2 vb := by rw [HVB.out]; exact hg
                        have HOR := Lib.hid (show (Value.slice NA (os.length + 1) nc).ownBlock = vb ∨ (Value.slice NA (os.length + 1) nc).ownBlock = some V1.heap.size by rw [HVB.out]; exact hor)
                        clear hg hor
                        have hg := hg2
                        clear hg2
                        have HO := Lib.hid hO
                        have HG := Lib.hid hg
                        have HKP := Lib.hid (((Kp.refl W9 t4 vb).below hbW).grown hg)
                        have hS := HKP.out
                        have HBK := Lib.hid (show V2.heap[t4]? = W9.heap[t4]? from (hg.block t4 (Nat.lt_of_lt_of_le hl1 hbW.size) (fun e => by have := (HVW.out t4 e.symm).2.1; have := HT4.out; omega)).trans (hbW.block t4 hl1))
                        clear hO hg HN
                        refine hK.out _ _ ?_ (fun hHeld2 => ?_)
                        · clear hK; exact hS
                        clear hK K hHeld hS
                        have hHeld := hHeld2
                        clear hHeld2
                        try simp only [Act.put, List.setIfInBounds_toArray, List.set_cons_zero, List.set_cons_succ]
                        refine takeD 20 (some 221) (v := ?_) rfl rfl (by kernel_rfl) (by kernel_rfl) (by kernel_rfl) (fun _ _ _ h => h) (by rfl) ?_ (by assumption) ?_
                        rotate_left
                        · intro w hSw
                          (try dsimp only at hSw)
                          go_simp
                          try with_reducible rfl
                        try simp only [Act.put, List.setIfInBounds_toArray, List.set_cons_zero, List.set_cons_succ]
                        refine wpAnyH_ready (rs := [21]) (by kernel_rfl) (by simp) ?_
                        refine AllReadyH.cons rfl (fun K hK => ?_) AllReadyH.nil
                        rw [if_pos (by rfl)]
                        have cP := (World.cell?_of_block (a := ⟨t4, rs.length + m, none⟩) HBK.out).trans hs1
                        have fP := (World.frozen?_of_block (a := ⟨t4, rs.length + m, none⟩) HBK.out).trans hf1
                        go_simp
                        have hS := HKP.out.set (i := rs.length + m) (.slice NA (os.length + 1) nc)
                        clear cP fP
                        refine hK.out _ _ ?_ (fun hHeld2 => ?_)
                        · clear hK; exact hS
                        clear hK K hHeld hS
                        have hHeld := hHeld2
                        clear hHeld2
                        try simp only [Act.put, List.setIfInBounds_toArray, List.set_cons_zero, List.set_cons_succ]
                        refine wpAnyH_done (by kernel_rfl) ?_ _
                        clear hHeld
                        have hkW := HKP.out.set (i := rs.length + m) (.slice NA (os.length + 1) nc)
                        have fr := hkW.fr (hi := hi) (Nat.le_trans hiT HTT.out) hl1 (fun g hg => ⟨Nat.le_trans hiT (Nat.le_trans (Nat.le_add_right T 5) (HVW.out g hg).2.1), (HVW.out g hg).2.2⟩)
                        have hj := Jar.step (m := os.length + 1) (v := (Value.slice A0 os.length c0)) (v' := .slice NA (os.length + 1) nc) HJc.out (by decide) (show rs.length + m < rs.length + N by omega) HD1.out HDD.out hbW (by rw [← HVB.out]; exact HG.out) (fun g hg => ⟨(HVW.out g (by rw [HVB.out]; exact hg)).1, (HVW.out g (by rw [HVB.out]; exact hg)).2.1⟩) (by rw [HNW.out]; exact HO.out) (by rw [← HVB.out]; exact HOR.out)
                        rw [(show (spec T rs.length N).tb 4 = t4 from HT4.out.symm)] at hj
                        have HJ9 := Lib.hid hj
                        have hy9 := HYc.out.other (tb := t4) (u := .slice NA (os.length + 1) nc) hbW HG.out (fun g hg => ⟨(HVW.out g hg).1, (HVW.out g hg).2.1⟩) (by decide) (by have := HT4.out; omega)
                        refine nameV (fun W => Below w.heap.size w W ∧ Blk W w.heap.size 25 #[.int .i64 c.P, .int .i64 c.H, .int .i64 c.C, .int .i64 c.Mn, .int .i64 c.Mx, .int .i64 c.Rho, .int .i64 c.Bd, .int .i64 c.Win, .int .i64 c.St, .slice sA sn scap, .slice RA rs.length rc] ∧ SS w W lo hi pb L2 M2 ∧ ∃ ow', Jar W (T + 5) ow' (spec T rs.length N) (mix rs c.St os o (D2 rs.length (m + 1) 0)) ∧ RowO W (T + 5) ow' (.slice (some ad5) N yc) N (al2 yl)) ⟨fr.below HBc.out (Nat.le_refl _) (by omega), HQc.out.fr fr (.inl (by omega)), HSc.out.fr fr (.inr (Nat.le_refl _)), _, hj, hy9⟩ fun WZ hWZ => ?_
                        clear hj hy9 fr hkW HJ9
                        obtain ⟨xb, hxb⟩ : ∃ x, x = W9.heap.size := ⟨_, rfl⟩
                        rw [← hxb]
                        exact REST NA nc xb WZ hWZ
                      · rw [if_pos (by rfl)]
                        refine wp_oneA (by rfl) ?_
                        refine nameV (fun V1 => Below W9.heap.size W9 V1 ∧ Blk V1 W9.heap.size 53 #[.bool y1, .bool y2]) ⟨(hbW.alloc hbW.size _).drew, (Blk.new _ _ _ _ rfl).drw⟩ fun V1 ⟨hbW2, hN⟩ => ?_
                        clear hbW
                        have hbW := hbW2
                        clear hbW2
                        have HN := Lib.hid hN
                        clear hN
                        have hS := (Kp.refl W9 t4 vb).below hbW
                        refine hK.out _ _ ?_ (fun hHeld2 => ?_)
                        · clear hK; exact hS
                        clear hK K hHeld hS
                        have hHeld := hHeld2
                        clear hHeld2
                        try simp only [Act.put, List.setIfInBounds_toArray, List.set_cons_zero, List.set_cons_succ]
                        refine wpAnyH_ready (rs := [13]) (by kernel_rfl) (by simp) ?_
                        refine AllReadyH.cons rfl (fun K hK => ?_) AllReadyH.nil
                        rw [if_pos (by rfl)]
                        have cP := (hbW.cell (p := ⟨t4, rs.length + m, none⟩) hl1).trans hs1
                        go_simp
                        have hS := hHeld
                        clear cP
                        refine hK.out _ _ ?_ (fun hHeld2 => ?_)
                        · clear hK; exact hS
                        clear hK K hHeld hS
                        have hHeld := hHeld2
                        clear hHeld2
                        try simp only [Act.put, List.setIfInBounds_toArray, List.set_cons_zero, List.set_cons_succ]
                        refine wpAnyH_ready (rs := [19]) (by kernel_rfl) (by simp) ?_
                        refine AllReadyH.cons rfl (fun K hK => ?_) AllReadyH.nil
                        rw [if_pos (by rfl)]
                        refine wp_appN elA (.tmp 214) (.tmp 219) rfl (T + 5) _ os.length (tabs rs c.St os 4 (rs.length + m)) rfl (own_below HO0.out hbW) _ 1 (al2 [(y1, y2)]) rfl (RowN.of_blk HN.out rfl rfl (Nat.le_refl _) (by decide)) (al2_one _) (by unfold maxLen; omega) (by omega) (Nat.le_trans HJc.out.base hbW.size) ?_
                        intro v9 V2 hO hg hor
                        obtain ⟨NA, nc, rfl⟩ := own_shape hO
                        have hg2 : V1.grownBy V2 vb := by rw [HVB.out]; exact hg
                        have HOR := Lib.hid (show (Value.slice NA (os.length + 1) nc).ownBlock = vb ∨ (Value.slice NA (os.length + 1) nc).ownBlock = some V1.heap.size by rw [HVB.out]; exact hor)
                        clear hg hor
                        have hg := hg2
                        clear hg2
                        have HO := Lib.hid hO
                        have HG := Lib.hid hg
                        have HKP := Lib.hid (((Kp.refl W9 t4 vb).below hbW).grown hg)
                        have hS := HKP.out
                        have HBK := Lib.hid (show V2.heap[t4]? = W9.heap[t4]? from (hg.block t4 (Nat.lt_of_lt_of_le hl1 hbW.size) (fun e => by have := (HVW.out t4 e.symm).2.1; have := HT4.out; omega)).trans (hbW.block t4 hl1))
                        clear hO hg HN
                        refine hK.out _ _ ?_ (fun hHeld2 => ?_)
                        · clear hK; exact hS
                        clear hK K hHeld hS
                        have hHeld := hHeld2
                        clear hHeld2
                        try simp only [Act.put, List.setIfInBounds_toArray, List.set_cons_zero, List.set_cons_succ]
                        refine takeD 20 (some 221) (v := ?_) rfl rfl (by kernel_rfl) (by kernel_rfl) (by kernel_rfl) (fun _ _ _ h => h) (by rfl) ?_ (by assumption) ?_
                        rotate_left
                        · intro w hSw
                          (try dsimp only at hSw)
                          go_simp
                          try with_reducible rfl
                        try simp only [Act.put, List.setIfInBounds_toArray, List.set_cons_zero, List.set_cons_succ]
                        refine wpAnyH_ready (rs := [21]) (by kernel_rfl) (by simp) ?_
                        refine AllReadyH.cons rfl (fun K hK => ?_) AllReadyH.nil
                        rw [if_pos (by rfl)]
                        have cP := (World.cell?_of_block (a := ⟨t4, rs.length + m, none⟩) HBK.out).trans hs1
                        have fP := (World.frozen?_of_block (a := ⟨t4, rs.length + m, none⟩) HBK.out).trans hf1
                        go_simp
                        have hS := HKP.out.set (i := rs.length + m) (.slice NA (os.length + 1) nc)
                        clear cP fP
                        refine hK.out _ _ ?_ (fun hHeld2 => ?_)
                        · clear hK; exact hS
                        clear hK K hHeld hS
                        have hHeld := hHeld2
                        clear hHeld2
                        try simp only [Act.put, List.setIfInBounds_toArray, List.set_cons_zero, List.set_cons_succ]
                        refine wpAnyH_done (by kernel_rfl) ?_ _
                        clear hHeld
                        have hkW := HKP.out.set (i := rs.length + m) (.slice NA (os.length + 1) nc)
                        have fr := hkW.fr (hi := hi) (Nat.le_trans hiT HTT.out) hl1 (fun g hg => ⟨Nat.le_trans hiT (Nat.le_trans (Nat.le_add_right T 5) (HVW.out g hg).2.1), (HVW.out g hg).2.2⟩)
                        have hj := Jar.step (m := os.length + 1) (v := (Value.slice A0 os.length c0)) (v' := .slice NA (os.length + 1) nc) HJc.out (by decide) (show rs.length + m < rs.length + N by omega) HD1.out HDD.out hbW (by rw [← HVB.out]; exact HG.out) (fun g hg => ⟨(HVW.out g (by rw [HVB.out]; exact hg)).1, (HVW.out g (by rw [HVB.out]; exact hg)).2.1⟩) (by rw [HNW.out]; exact HO.out) (by rw [← HVB.out]; exact HOR.out)
                        rw [(show (spec T rs.length N).tb 4 = t4 from HT4.out.symm)] at hj
                        have HJ9 := Lib.hid hj
                        have hy9 := HYc.out.other (tb := t4) (u := .slice NA (os.length + 1) nc) hbW HG.out (fun g hg => ⟨(HVW.out g hg).1, (HVW.out g hg).2.1⟩) (by decide) (by have := HT4.out; omega)
                        refine nameV (fun W => Below w.heap.size w W ∧ Blk W w.heap.size 25 #[.int .i64 c.P, .int .i64 c.H, .int .i64 c.C, .int .i64 c.Mn, .int .i64 c.Mx, .int .i64 c.Rho, .int .i64 c.Bd, .int .i64 c.Win, .int .i64 c.St, .slice sA sn scap, .slice RA rs.length rc] ∧ SS w W lo hi pb L2 M2 ∧ ∃ ow', Jar W (T + 5) ow' (spec T rs.length N) (mix rs c.St os o (D2 rs.length (m + 1) 0)) ∧ RowO W (T + 5) ow' (.slice (some ad5) N yc) N (al2 yl)) ⟨fr.below HBc.out (Nat.le_refl _) (by omega), HQc.out.fr fr (.inl (by omega)), HSc.out.fr fr (.inr (Nat.le_refl _)), _, hj, hy9⟩ fun WZ hWZ => ?_
                        clear hj hy9 fr hkW HJ9
                        obtain ⟨xb, hxb⟩ : ∃ x, x = W9.heap.size := ⟨_, rfl⟩
                        rw [← hxb]
                        exact REST NA nc xb WZ hWZ
                    case r =>
                      as_aux_lemma =>
                      intro NA nc xb W9 ⟨hb, hq, hS, ow2, hJ, hY⟩
                      have HBd := Lib.hid hb
                      have HQd := Lib.hid hq
                      have HSd := Lib.hid hS
                      have HJd := Lib.hid hJ
                      have HYd := Lib.hid hY
                      clear hb hq hS hJ hY HBc HQc HSc HJc HYc hs1 hf1 hl1 HVB HVW HDD HD1 HTT HNW HO0 dB
                      (try clear dO0 dO1 dO2)
                      (try clear d0 d1 d2)
                      (try clear d5 d6)
                      (try clear d7)
                      (try clear hnb)
                      clear vb
                      have HBc := Lib.hid HBd.out
                      have HQc := Lib.hid HQd.out
                      have HSc := Lib.hid HSd.out
                      have HJc := Lib.hid HJd.out
                      have HYc := Lib.hid HYd.out
                      clear HBd HQd HSd HJd HYd ow
                      obtain ⟨ow, how⟩ : ∃ o, o = ow2 := ⟨_, rfl⟩
                      rw [← how] at HJc HYc
                      clear how
                      have lQ := HQc.out.lt
                      have cQ := HQc.out.cells
                      go_wp2
                      go_roundw
                      case rel => first | exact ⟨m + 1, ow, by omega, by go_num, HBc.out, HQc.out, HSc.out, HJc.out, HYc.out⟩ | exact ⟨m + 1, by omega, by go_num, HBc.out, HQc.out, HSc.out, ow, HJc.out, HYc.out⟩
                      case measure => simp [intOf]; omega
              · obtain rfl : m = N := by omega
                have HJn := Lib.hid (mix_all HJc.out (D2_end T rs.length m))
                have lQ := HQc.out.lt
                have cQ := HQc.out.cells
                go_wp2
                go_roundw
                case rel => exact ⟨j + 1, os ++ [o], L2, M2, ow, by omega, by go_num, HBc.out, HQc.out, HSc.out, HJn.out, HF2.out, HLk.out, HMk.out, HMl2.out, HLl2.out, by rw [List.length_append, List.length_singleton]; omega⟩
                case measure => simp [intOf]; omega
      · have gn : decide ((o.cs.length : Int) ≠ (N : Int)) = true := decide_eq_true (by omega)
        have gn3 : ((o.cs.length : Int) != (N : Int)) = true := by simp; omega
        have gn5 : (o.cs.length != N) = true := by simp; omega
        have gn6 : ((o.cs.length : Int) == (N : Int)) = false := by simp; omega
        have gn7 : (o.cs.length == N) = false := by simp; omega
        go_wp2
        go_roundw
        case rel => exact ⟨j + 1, os, L, M, own, by omega, by go_num, HBc.out, HQc.out, HSc.out, HJc.out, HFd.out, HLr.out, HMr.out, HMl.out, HLl.out, by omega⟩
        case measure => simp [intOf]; omega
    · as_aux_lemma =>
      obtain rfl : j = l.length := by omega
      have cQ := HQc.out.cells
      have lQ := HQc.out.lt
      obtain ⟨u1, hu1⟩ : ∃ u, u = wr := ⟨wr, rfl⟩
      subst hu1
      go_wp2_with fail
      clear cQ lQ
      go_loopw [18] (fun i wk => ∃ (k : Nat), k ≤ rs.length ∧ i = .int .i64 k ∧ Below w.heap.size w wk ∧ Blk wk w.heap.size 25 #[.int .i64 c.P, .int .i64 c.H, .int .i64 c.C, .int .i64 c.Mn, .int .i64 c.Mx, .int .i64 c.Rho, .int .i64 c.Bd, .int .i64 c.Win, .int .i64 c.St, .slice sA sn scap, .slice RA rs.length rc] ∧ Jar wk (T + 5) own (spec T rs.length N) (tabs rs c.St os)) (fun i _ => rs.length - (intOf i).toNat)
      case atStart => exact ⟨0, Nat.zero_le _, rfl, HBc.out, HQc.out, HJc.out⟩
      case round =>
        clear HBc HQc HSc HJc
        obtain ⟨k, hk, rfl, hb, hq, hJ⟩ := hrel
        have HBc := Lib.hid hb
        have HQc := Lib.hid hq
        have HJc := Lib.hid hJ
        clear hb hq hJ
        by_cases hkr : k < rs.length
        · obtain ⟨r, hr⟩ : ∃ r, rs[k]? = some r := ⟨_, List.getElem?_eq_getElem hkr⟩
          obtain ⟨ad1, rfl, hb1, e0, e1, e2⟩ := rowR_at HRR.out hr
          have lc1 : (ad1.add (k * 3)).block < w.heap.size := by rw [block_add]; exact hb1
          have HGD := Lib.hid (show rs.getD k default = r by simp only [List.getD_eq_getElem?_getD, hr, Option.getD_some])
          have HRU := Lib.hid (rule_h (HRN.out.2.2.2.2 r (List.mem_of_getElem? hr)))
          have gk1 : (k : Int) < (rs.length : Int) := by omega
          have gk3 : (k : Int) < (rs.length : Int) + (N : Int) := by omega
          obtain ⟨A4, m4, c4, hs4, _, hl4, ho4, _⟩ := (HJc.out.tbl 4 (by decide)).slot (i := k) (show k < rs.length + N by omega)
          obtain rfl : m4 = os.length := by have := ho4.1; rw [tabs_len] at this; simp only [spec] at this; omega
          have HO4 := Lib.hid (show World.ownsRow wr (T + 5) 53 2 (.slice A4 os.length c4) os.length (tabs rs c.St os 4 (k)) from ho4)
          have hl41 : t4 < wr.heap.size := by rw [HT4.out]; exact hl4
          have ds4 : ∀ W, Below wr.heap.size wr W → W.cell? ⟨t4, k, none⟩ = some (.slice A4 os.length c4) := fun W h => (h.cell (p := ⟨t4, k, none⟩) hl41).trans (by rw [HT4.out]; exact hs4)
          clear hs4 hl4 ho4
          obtain ⟨A0, m0, c0, hs0, _, hl0, ho0, _⟩ := (HJc.out.tbl 0 (by decide)).slot (i := k) (show k < rs.length by omega)
          obtain rfl : m0 = os.length := by have := ho0.1; rw [tabs_len] at this; simp only [spec] at this; omega
          have HO0 := Lib.hid (show World.ownsRow wr (T + 5) 3 1 (.slice A0 os.length c0) os.length (tabs rs c.St os 0 (k)) from ho0)
          have hl01 : T < wr.heap.size := by exact hl0
          have ds0 : ∀ W, Below wr.heap.size wr W → W.cell? ⟨T, k, none⟩ = some (.slice A0 os.length c0) := fun W h => (h.cell (p := ⟨T, k, none⟩) hl01).trans (by exact hs0)
          clear hs0 hl0 ho0
          obtain ⟨A1, m1, c1, hs1, _, hl1, ho1, _⟩ := (HJc.out.tbl 1 (by decide)).slot (i := k) (show k < rs.length by omega)
          obtain rfl : m1 = os.length := by have := ho1.1; rw [tabs_len] at this; simp only [spec] at this; omega
          have HO1 := Lib.hid (show World.ownsRow wr (T + 5) 4 1 (.slice A1 os.length c1) os.length (tabs rs c.St os 1 (k)) from ho1)
          have hl11 : t1 < wr.heap.size := by rw [HT1.out]; exact hl1
          have ds1 : ∀ W, Below wr.heap.size wr W → W.cell? ⟨t1, k, none⟩ = some (.slice A1 os.length c1) := fun W h => (h.cell (p := ⟨t1, k, none⟩) hl11).trans (by rw [HT1.out]; exact hs1)
          clear hs1 hl1 ho1
          have HT4r := Lib.hid (show World.ownsRow wr (T + 5) 53 2 (.slice A4 os.length c4) os.length (al2 (tolR r k os)) by have := HO4.out; rw [show tabs rs c.St os 4 k = al2 (tolR r k os) by show al2 (if k < rs.length then _ else _) = _; rw [if_pos hkr, HGD.out]] at this; exact this)
          have HT0r := Lib.hid (show World.ownsRow wr (T + 5) 3 1 (.slice A0 os.length c0) os.length ((truL r.l os).map (.int .i64)) by have := HO0.out; rw [show tabs rs c.St os 0 k = (truL r.l os).map (.int .i64) by show List.map _ (truL (rs.getD k default).l os) = _; rw [HGD.out]] at this; exact this)
          have HT1r := Lib.hid (show World.ownsRow wr (T + 5) 4 1 (.slice A1 os.length c1) os.length ((akR k os).map .bool) from HO1.out)
          have lQ := HQc.out.lt
          have dB : ∀ W, Below wr.heap.size wr W → ∀ i, W.cell? ⟨w.heap.size, i, none⟩ = (#[.int .i64 c.P, .int .i64 c.H, .int .i64 c.C, .int .i64 c.Mn, .int .i64 c.Mx, .int .i64 c.Rho, .int .i64 c.Bd, .int .i64 c.Win, .int .i64 c.St, .slice sA sn scap, .slice (some ad1) rs.length rc] : Array Value)[i]? := fun W h i => (h.cell (p := ⟨w.heap.size, i, none⟩) lQ).trans (HQc.out.cells i)
          have lw := HBc.out.size
          have d0 : ∀ W, Below wr.heap.size wr W → W.cell? (ad1.add (k * 3)) = some (.slice r.A r.l.length r.rc) := fun W h => ((h.cell (Nat.lt_of_lt_of_le lc1 lw)).trans (HBc.out.cell lc1)).trans e0
          have d1 : ∀ W, Below wr.heap.size wr W → W.cell? ⟨(ad1.add (k * 3)).block, (ad1.add (k * 3)).off + 1, none⟩ = some (.int .i64 r.hold) := fun W h => ((h.cell (p := ⟨(ad1.add (k * 3)).block, (ad1.add (k * 3)).off + 1, none⟩) (Nat.lt_of_lt_of_le lc1 lw)).trans (HBc.out.cell (p := ⟨(ad1.add (k * 3)).block, (ad1.add (k * 3)).off + 1, none⟩) lc1)).trans e1
          have d2 : ∀ W, Below wr.heap.size wr W → W.cell? ⟨(ad1.add (k * 3)).block, (ad1.add (k * 3)).off + 2, none⟩ = some (.bool r.latch) := fun W h => ((h.cell (p := ⟨(ad1.add (k * 3)).block, (ad1.add (k * 3)).off + 2, none⟩) (Nat.lt_of_lt_of_le lc1 lw)).trans (HBc.out.cell (p := ⟨(ad1.add (k * 3)).block, (ad1.add (k * 3)).off + 2, none⟩) lc1)).trans e2
          have hHL := HRU.out.1
          have hHH := HRU.out.2.1
          have hot : (truL r.l os).length = os.length := by simp [truL]
          have cQ := HQc.out.cells
          clear e0 e1 e2 hr HO4 HO0 HO1
          go_wp2_with fail
          clear cQ lQ
          have hcur := (Below.refl wr.heap.size wr).drew
          refine wp_region_held_drew (S := fun W => Below wr.heap.size wr W) (by kernel_rfl) ((Below.refl _ _).drew) (fun hHeld => ?_)
          refine takeD 0 (some 229) (v := ?_) rfl rfl (by kernel_rfl) (by kernel_rfl) (by kernel_rfl) (fun _ _ _ h => h) (by rfl) ?_ (by assumption) ?_
          rotate_left
          · intro w hSw
            (try dsimp only at hSw)
            go_simp
            try with_reducible rfl
          try simp only [Act.put, List.setIfInBounds_toArray, List.set_cons_zero, List.set_cons_succ]
          refine takeD 1 (some 230) (v := ?_) rfl rfl (by kernel_rfl) (by kernel_rfl) (by kernel_rfl) (fun _ _ _ h => h) (by rfl) ?_ (by assumption) ?_
          rotate_left
          · intro w hSw
            (try dsimp only at hSw)
            go_simp
            try with_reducible rfl
          try simp only [Act.put, List.setIfInBounds_toArray, List.set_cons_zero, List.set_cons_succ]
          refine takeD 2 (some 231) (v := ?_) rfl rfl (by kernel_rfl) (by kernel_rfl) (by kernel_rfl) (fun _ _ _ h => h) (by rfl) ?_ (by assumption) ?_
          rotate_left
          · intro w hSw
            (try dsimp only at hSw)
            go_simp
            try with_reducible rfl
          try simp only [Act.put, List.setIfInBounds_toArray, List.set_cons_zero, List.set_cons_succ]
          refine takeD 3 (some 232) (v := ?_) rfl rfl (by kernel_rfl) (by kernel_rfl) (by kernel_rfl) (fun _ _ _ h => h) (by rfl) ?_ (by assumption) ?_
          rotate_left
          · intro w hSw
            (try dsimp only at hSw)
            go_simp
            try with_reducible rfl
          try simp only [Act.put, List.setIfInBounds_toArray, List.set_cons_zero, List.set_cons_succ]
          refine takeD 4 (some 233) (v := ?_) rfl rfl (by kernel_rfl) (by kernel_rfl) (by kernel_rfl) (fun _ _ _ h => h) (by rfl) ?_ (by assumption) ?_
          rotate_left
          · intro w hSw
            (try dsimp only at hSw)
            go_simp
            try with_reducible rfl
          try simp only [Act.put, List.setIfInBounds_toArray, List.set_cons_zero, List.set_cons_succ]
          refine takeD 5 (some 234) (v := ?_) rfl rfl (by kernel_rfl) (by kernel_rfl) (by kernel_rfl) (fun _ _ _ h => h) (by rfl) ?_ (by assumption) ?_
          rotate_left
          · intro w hSw
            (try dsimp only at hSw)
            go_simp
            try with_reducible rfl
          try simp only [Act.put, List.setIfInBounds_toArray, List.set_cons_zero, List.set_cons_succ]
          refine takeD 6 (some 235) (v := ?_) rfl rfl (by kernel_rfl) (by kernel_rfl) (by kernel_rfl) (fun _ _ _ h => h) (by rfl) ?_ (by assumption) ?_
          rotate_left
          · intro w hSw
            (try dsimp only at hSw)
            go_simp
            try with_reducible rfl
          try simp only [Act.put, List.setIfInBounds_toArray, List.set_cons_zero, List.set_cons_succ]
          refine takeD 7 (some 236) (v := ?_) rfl rfl (by kernel_rfl) (by kernel_rfl) (by kernel_rfl) (fun _ _ _ h => h) (by rfl) ?_ (by assumption) ?_
          rotate_left
          · intro w hSw
            (try dsimp only at hSw)
            go_simp
            try with_reducible rfl
          try simp only [Act.put, List.setIfInBounds_toArray, List.set_cons_zero, List.set_cons_succ]
          refine takeD 8 (some 237) (v := ?_) rfl rfl (by kernel_rfl) (by kernel_rfl) (by kernel_rfl) (fun _ _ _ h => h) (by rfl) ?_ (by assumption) ?_
          rotate_left
          · intro w hSw
            (try dsimp only at hSw)
            go_simp
            try with_reducible rfl
          try simp only [Act.put, List.setIfInBounds_toArray, List.set_cons_zero, List.set_cons_succ]
          refine takeD 9 (some 238) (v := ?_) rfl rfl (by kernel_rfl) (by kernel_rfl) (by kernel_rfl) (fun _ _ _ h => h) (by rfl) ?_ (by assumption) ?_
          rotate_left
          · intro w hSw
            (try dsimp only at hSw)
            go_simp
            try with_reducible rfl
          try simp only [Act.put, List.setIfInBounds_toArray, List.set_cons_zero, List.set_cons_succ]
          refine takeD 10 (some 239) (v := ?_) rfl rfl (by kernel_rfl) (by kernel_rfl) (by kernel_rfl) (fun _ _ _ h => h) (by rfl) ?_ (by assumption) ?_
          rotate_left
          · intro w hSw
            (try dsimp only at hSw)
            go_simp
            try with_reducible rfl
          try simp only [Act.put, List.setIfInBounds_toArray, List.set_cons_zero, List.set_cons_succ]
          refine takeD 11 (some 240) (v := ?_) rfl rfl (by kernel_rfl) (by kernel_rfl) (by kernel_rfl) (fun _ _ _ h => h) (by rfl) ?_ (by assumption) ?_
          rotate_left
          · intro w hSw
            (try dsimp only at hSw)
            go_simp
            try with_reducible rfl
          try simp only [Act.put, List.setIfInBounds_toArray, List.set_cons_zero, List.set_cons_succ]
          refine takeD 12 (some 241) (v := ?_) rfl rfl (by kernel_rfl) (by kernel_rfl) (by kernel_rfl) (fun _ _ _ h => h) (by rfl) ?_ (by assumption) ?_
          rotate_left
          · intro w hSw
            (try dsimp only at hSw)
            go_simp
            try with_reducible rfl
          try simp only [Act.put, List.setIfInBounds_toArray, List.set_cons_zero, List.set_cons_succ]
          refine takeD 13 (some 242) (v := ?_) rfl rfl (by kernel_rfl) (by kernel_rfl) (by kernel_rfl) (fun _ _ _ h => h) (by rfl) ?_ (by assumption) ?_
          rotate_left
          · intro w hSw
            (try dsimp only at hSw)
            go_simp
            try with_reducible rfl
          try simp only [Act.put, List.setIfInBounds_toArray, List.set_cons_zero, List.set_cons_succ]
          refine takeD 14 (some 243) (v := ?_) rfl rfl (by kernel_rfl) (by kernel_rfl) (by kernel_rfl) (fun _ _ _ h => h) (by rfl) ?_ (by assumption) ?_
          rotate_left
          · intro w hSw
            (try dsimp only at hSw)
            go_simp
            try with_reducible rfl
          try simp only [Act.put, List.setIfInBounds_toArray, List.set_cons_zero, List.set_cons_succ]
          refine takeD 15 (some 244) (v := ?_) rfl rfl (by kernel_rfl) (by kernel_rfl) (by kernel_rfl) (fun _ _ _ h => h) (by rfl) ?_ (by assumption) ?_
          rotate_left
          · intro w hSw
            (try dsimp only at hSw)
            go_simp
            try with_reducible rfl
          try simp only [Act.put, List.setIfInBounds_toArray, List.set_cons_zero, List.set_cons_succ]
          refine takeD 16 (some 245) (v := ?_) rfl rfl (by kernel_rfl) (by kernel_rfl) (by kernel_rfl) (fun _ _ _ h => h) (by rfl) ?_ (by assumption) ?_
          rotate_left
          · intro w hSw
            (try dsimp only at hSw)
            go_simp
            try with_reducible rfl
          try simp only [Act.put, List.setIfInBounds_toArray, List.set_cons_zero, List.set_cons_succ]
          refine wpAnyH_ready (rs := [17]) (by kernel_rfl) (by simp) ?_
          refine AllReadyH.cons rfl (fun K hK => ?_) AllReadyH.nil
          rw [if_pos (by rfl)]
          go_simp
          go_at_call 25
          refine (steps_any _ r.hold r.latch _ _ (truL r.l os) (akR k os) _ hHL (by omega) (Row.of_own (own_below HT0r.out hcur)) (Row.of_own (own_below HT1r.out hcur)) (by omega)).mono ?_
          rintro e V1 ⟨sv, rfl, hr1, hk⟩
          have hcur2 : Below wr.heap.size wr V1 := hcur.trans (hk.mono hcur.size)
          clear hcur hk
          have hcur := hcur2
          clear hcur2
          have HR1_ := Lib.hid hr1
          clear hr1
          have hS := hcur
          go_wp2_with fail
          refine hK.out _ _ ?_ (fun hHeld2 => ?_)
          · clear hK; exact hS
          clear hK K hHeld hS
          have hHeld := hHeld2
          clear hHeld2
          try simp only [Act.put, List.setIfInBounds_toArray, List.set_cons_zero, List.set_cons_succ]
          refine wpAnyH_ready (rs := [18]) (by kernel_rfl) (by simp) ?_
          refine AllReadyH.cons rfl (fun K hK => ?_) AllReadyH.nil
          rw [if_pos (by rfl)]
          go_simp
          go_at_call 22
          refine (same_any _ _ _ _ (tolR r k os) (tolR r k os) _ (RowN.of_own (own_below HT4r.out hcur)) HR1_.out).mono ?_
          rintro e V2 ⟨rfl, hk⟩
          rw [decide_eq_true rfl]
          have hcur2 : Below wr.heap.size wr V2 := hcur.trans (hk.mono hcur.size)
          clear hcur hk HR1_
          have hcur := hcur2
          clear hcur2
          have hS := hcur
          go_wp2_with fail
          refine hK.out _ _ ?_ (fun hHeld2 => ?_)
          · clear hK; exact hS
          clear hK K hHeld hS
          have hHeld := hHeld2
          clear hHeld2
          try simp only [Act.put, List.setIfInBounds_toArray, List.set_cons_zero, List.set_cons_succ]
          refine takeD 19 (some 248) (v := ?_) rfl rfl (by kernel_rfl) (by kernel_rfl) (by kernel_rfl) (fun _ _ _ h => h) (by rfl) ?_ (by assumption) ?_
          rotate_left
          · intro w hSw
            (try dsimp only at hSw)
            go_simp
            try with_reducible rfl
          try simp only [Act.put, List.setIfInBounds_toArray, List.set_cons_zero, List.set_cons_succ]
          refine wpAnyH_done (by kernel_rfl) ?_ _
          clear hHeld
          have HB7 := Lib.hid (HBc.out.trans (hcur.mono HBc.out.size))
          have HQ7 := Lib.hid (HQc.out.below hcur)
          have HJ7 := Lib.hid (HJc.out.below hcur)
          clear hcur dB d0 d1 d2 ds4 ds0 ds1 HT4r HT0r HT1r
          have lQ := HQ7.out.lt
          have cQ := HQ7.out.cells
          go_wp2
          go_roundw
          case rel => exact ⟨k + 1, by omega, by go_num, HB7.out, HQ7.out, HJ7.out⟩
          case measure => simp [intOf]; omega
        · obtain rfl : k = rs.length := by omega
          have cQ := HQc.out.cells
          have lQ := HQc.out.lt
          obtain ⟨u2, hu2⟩ : ∃ u, u = wr := ⟨wr, rfl⟩
          subst hu2
          go_wp2_with fail
          clear cQ lQ
          go_loopw [19] (fun i wk => ∃ (m : Nat), m ≤ N ∧ i = .int .i64 m ∧ Below w.heap.size w wk ∧ Blk wk w.heap.size 25 #[.int .i64 c.P, .int .i64 c.H, .int .i64 c.C, .int .i64 c.Mn, .int .i64 c.Mx, .int .i64 c.Rho, .int .i64 c.Bd, .int .i64 c.Win, .int .i64 c.St, .slice sA sn scap, .slice RA rs.length rc] ∧ Jar wk (T + 5) own (spec T rs.length N) (tabs rs c.St os)) (fun i _ => N - (intOf i).toNat)
          case atStart => exact ⟨0, Nat.zero_le _, rfl, HBc.out, HQc.out, HJc.out⟩
          case round =>
            clear HBc HQc HJc
            obtain ⟨m, hm, rfl, hb, hq, hJ⟩ := hrel
            have HBc := Lib.hid hb
            have HQc := Lib.hid hq
            have HJc := Lib.hid hJ
            clear hb hq hJ
            by_cases hmr : m < N
            · have gm1 : (m : Int) < (N : Int) := by omega
              have gm3 : ((rs.length : Int) + (m : Int)) < (rs.length : Int) + (N : Int) := by omega
              have gm4 : (0 : Int) ≤ (rs.length : Int) + (m : Int) := by omega
              have gm5 : ((rs.length : Int) + (m : Int)).toNat = rs.length + m := by omega
              have hwm : IntKind.i64.wrap ((rs.length : Int) + (m : Int)) = (rs.length : Int) + (m : Int) := IntWalk.i64_in _ (by omega)
              obtain ⟨A4, m4, c4, hs4, _, hl4, ho4, _⟩ := (HJc.out.tbl 4 (by decide)).slot (i := rs.length + m) (show rs.length + m < rs.length + N by omega)
              obtain rfl : m4 = os.length := by have := ho4.1; rw [tabs_len] at this; simp only [spec] at this; omega
              have HO4 := Lib.hid (show World.ownsRow wr (T + 5) 53 2 (.slice A4 os.length c4) os.length (tabs rs c.St os 4 (rs.length + m)) from ho4)
              have hl41 : t4 < wr.heap.size := by rw [HT4.out]; exact hl4
              have ds4 : ∀ W, Below wr.heap.size wr W → W.cell? ⟨t4, rs.length + m, none⟩ = some (.slice A4 os.length c4) := fun W h => (h.cell (p := ⟨t4, rs.length + m, none⟩) hl41).trans (by rw [HT4.out]; exact hs4)
              clear hs4 hl4 ho4
              obtain ⟨A2, m2, c2, hs2, _, hl2, ho2, _⟩ := (HJc.out.tbl 2 (by decide)).slot (i := m) (show m < N by omega)
              obtain rfl : m2 = os.length := by have := ho2.1; rw [tabs_len] at this; simp only [spec] at this; omega
              have HO2 := Lib.hid (show World.ownsRow wr (T + 5) 4 1 (.slice A2 os.length c2) os.length (tabs rs c.St os 2 (m)) from ho2)
              have hl21 : t2 < wr.heap.size := by rw [HT2.out]; exact hl2
              have ds2 : ∀ W, Below wr.heap.size wr W → W.cell? ⟨t2, m, none⟩ = some (.slice A2 os.length c2) := fun W h => (h.cell (p := ⟨t2, m, none⟩) hl21).trans (by rw [HT2.out]; exact hs2)
              clear hs2 hl2 ho2
              obtain ⟨A3, m3, c3, hs3, _, hl3, ho3, _⟩ := (HJc.out.tbl 3 (by decide)).slot (i := m) (show m < N by omega)
              obtain rfl : m3 = os.length := by have := ho3.1; rw [tabs_len] at this; simp only [spec] at this; omega
              have HO3 := Lib.hid (show World.ownsRow wr (T + 5) 4 1 (.slice A3 os.length c3) os.length (tabs rs c.St os 3 (m)) from ho3)
              have hl31 : t3 < wr.heap.size := by rw [HT3.out]; exact hl3
              have ds3 : ∀ W, Below wr.heap.size wr W → W.cell? ⟨t3, m, none⟩ = some (.slice A3 os.length c3) := fun W h => (h.cell (p := ⟨t3, m, none⟩) hl31).trans (by rw [HT3.out]; exact hs3)
              clear hs3 hl3 ho3
              have HT4r := Lib.hid (show World.ownsRow wr (T + 5) 53 2 (.slice A4 os.length c4) os.length (al2 (tolC c.St m os)) by have := HO4.out; rw [show tabs rs c.St os 4 (rs.length + m) = al2 (tolC c.St m os) by show al2 (if rs.length + m < rs.length then _ else _) = _; rw [if_neg (by omega), Nat.add_sub_cancel_left]] at this; exact this)
              have HT2r := Lib.hid (show World.ownsRow wr (T + 5) 4 1 (.slice A2 os.length c2) os.length ((smC m os).map .bool) from HO2.out)
              have HT3r := Lib.hid (show World.ownsRow wr (T + 5) 4 1 (.slice A3 os.length c3) os.length ((okC m os).map .bool) from HO3.out)
              have lQ := HQc.out.lt
              have dB : ∀ W, Below wr.heap.size wr W → ∀ i, W.cell? ⟨w.heap.size, i, none⟩ = (#[.int .i64 c.P, .int .i64 c.H, .int .i64 c.C, .int .i64 c.Mn, .int .i64 c.Mx, .int .i64 c.Rho, .int .i64 c.Bd, .int .i64 c.Win, .int .i64 c.St, .slice sA sn scap, .slice RA rs.length rc] : Array Value)[i]? := fun W h i => (h.cell (p := ⟨w.heap.size, i, none⟩) lQ).trans (HQc.out.cells i)
              have hot : (smC m os).length = os.length := by simp [smC]
              have cQ := HQc.out.cells
              clear HO4 HO2 HO3
              go_wp2_with fail
              clear cQ lQ
              have hcur := (Below.refl wr.heap.size wr).drew
              refine wp_region_held_drew (S := fun W => Below wr.heap.size wr W) (by kernel_rfl) ((Below.refl _ _).drew) (fun hHeld => ?_)
              refine takeD 0 (some 254) (v := ?_) rfl rfl (by kernel_rfl) (by kernel_rfl) (by kernel_rfl) (fun _ _ _ h => h) (by rfl) ?_ (by assumption) ?_
              rotate_left
              · intro w hSw
                (try dsimp only at hSw)
                go_simp
                try with_reducible rfl
              try simp only [Act.put, List.setIfInBounds_toArray, List.set_cons_zero, List.set_cons_succ]
              refine takeD 1 (some 255) (v := ?_) rfl rfl (by kernel_rfl) (by kernel_rfl) (by kernel_rfl) (fun _ _ _ h => h) (by rfl) ?_ (by assumption) ?_
              rotate_left
              · intro w hSw
                (try dsimp only at hSw)
                go_simp
                try with_reducible rfl
              try simp only [Act.put, List.setIfInBounds_toArray, List.set_cons_zero, List.set_cons_succ]
              refine takeD 2 (some 256) (v := ?_) rfl rfl (by kernel_rfl) (by kernel_rfl) (by kernel_rfl) (fun _ _ _ h => h) (by rfl) ?_ (by assumption) ?_
              rotate_left
              · intro w hSw
                (try dsimp only at hSw)
                go_simp
                try with_reducible rfl
              try simp only [Act.put, List.setIfInBounds_toArray, List.set_cons_zero, List.set_cons_succ]
              refine takeD 3 (some 257) (v := ?_) rfl rfl (by kernel_rfl) (by kernel_rfl) (by kernel_rfl) (fun _ _ _ h => h) (by rfl) ?_ (by assumption) ?_
              rotate_left
              · intro w hSw
                (try dsimp only at hSw)
                go_simp
                try with_reducible rfl
              try simp only [Act.put, List.setIfInBounds_toArray, List.set_cons_zero, List.set_cons_succ]
              refine takeD 4 (some 258) (v := ?_) rfl rfl (by kernel_rfl) (by kernel_rfl) (by kernel_rfl) (fun _ _ _ h => h) (by rfl) ?_ (by assumption) ?_
              rotate_left
              · intro w hSw
                (try dsimp only at hSw)
                go_simp
                try with_reducible rfl
              try simp only [Act.put, List.setIfInBounds_toArray, List.set_cons_zero, List.set_cons_succ]
              refine takeD 5 (some 259) (v := ?_) rfl rfl (by kernel_rfl) (by kernel_rfl) (by kernel_rfl) (fun _ _ _ h => h) (by rfl) ?_ (by assumption) ?_
              rotate_left
              · intro w hSw
                (try dsimp only at hSw)
                go_simp
                try with_reducible rfl
              try simp only [Act.put, List.setIfInBounds_toArray, List.set_cons_zero, List.set_cons_succ]
              refine takeD 6 (some 260) (v := ?_) rfl rfl (by kernel_rfl) (by kernel_rfl) (by kernel_rfl) (fun _ _ _ h => h) (by rfl) ?_ (by assumption) ?_
              rotate_left
              · intro w hSw
                (try dsimp only at hSw)
                go_simp
                try with_reducible rfl
              try simp only [Act.put, List.setIfInBounds_toArray, List.set_cons_zero, List.set_cons_succ]
              refine takeD 7 (some 261) (v := ?_) rfl rfl (by kernel_rfl) (by kernel_rfl) (by kernel_rfl) (fun _ _ _ h => h) (by rfl) ?_ (by assumption) ?_
              rotate_left
              · intro w hSw
                (try dsimp only at hSw)
                go_simp
                try with_reducible rfl
              try simp only [Act.put, List.setIfInBounds_toArray, List.set_cons_zero, List.set_cons_succ]
              refine takeD 8 (some 262) (v := ?_) rfl rfl (by kernel_rfl) (by kernel_rfl) (by kernel_rfl) (fun _ _ _ h => h) (by rfl) ?_ (by assumption) ?_
              rotate_left
              · intro w hSw
                (try dsimp only at hSw)
                go_simp
                try with_reducible rfl
              try simp only [Act.put, List.setIfInBounds_toArray, List.set_cons_zero, List.set_cons_succ]
              refine takeD 9 (some 263) (v := ?_) rfl rfl (by kernel_rfl) (by kernel_rfl) (by kernel_rfl) (fun _ _ _ h => h) (by rfl) ?_ (by assumption) ?_
              rotate_left
              · intro w hSw
                (try dsimp only at hSw)
                go_simp
                try with_reducible rfl
              try simp only [Act.put, List.setIfInBounds_toArray, List.set_cons_zero, List.set_cons_succ]
              refine takeD 10 (some 264) (v := ?_) rfl rfl (by kernel_rfl) (by kernel_rfl) (by kernel_rfl) (fun _ _ _ h => h) (by rfl) ?_ (by assumption) ?_
              rotate_left
              · intro w hSw
                (try dsimp only at hSw)
                go_simp
                try with_reducible rfl
              try simp only [Act.put, List.setIfInBounds_toArray, List.set_cons_zero, List.set_cons_succ]
              refine takeD 11 (some 265) (v := ?_) rfl rfl (by kernel_rfl) (by kernel_rfl) (by kernel_rfl) (fun _ _ _ h => h) (by rfl) ?_ (by assumption) ?_
              rotate_left
              · intro w hSw
                (try dsimp only at hSw)
                go_simp
                try with_reducible rfl
              try simp only [Act.put, List.setIfInBounds_toArray, List.set_cons_zero, List.set_cons_succ]
              refine takeD 12 (some 266) (v := ?_) rfl rfl (by kernel_rfl) (by kernel_rfl) (by kernel_rfl) (fun _ _ _ h => h) (by rfl) ?_ (by assumption) ?_
              rotate_left
              · intro w hSw
                (try dsimp only at hSw)
                go_simp
                try with_reducible rfl
              try simp only [Act.put, List.setIfInBounds_toArray, List.set_cons_zero, List.set_cons_succ]
              refine takeD 13 (some 267) (v := ?_) rfl rfl (by kernel_rfl) (by kernel_rfl) (by kernel_rfl) (fun _ _ _ h => h) (by rfl) ?_ (by assumption) ?_
              rotate_left
              · intro w hSw
                (try dsimp only at hSw)
                go_simp
                try with_reducible rfl
              try simp only [Act.put, List.setIfInBounds_toArray, List.set_cons_zero, List.set_cons_succ]
              refine takeD 14 (some 268) (v := ?_) rfl rfl (by kernel_rfl) (by kernel_rfl) (by kernel_rfl) (fun _ _ _ h => h) (by rfl) ?_ (by assumption) ?_
              rotate_left
              · intro w hSw
                (try dsimp only at hSw)
                go_simp
                try with_reducible rfl
              try simp only [Act.put, List.setIfInBounds_toArray, List.set_cons_zero, List.set_cons_succ]
              refine takeD 15 (some 269) (v := ?_) rfl rfl (by kernel_rfl) (by kernel_rfl) (by kernel_rfl) (fun _ _ _ h => h) (by rfl) ?_ (by assumption) ?_
              rotate_left
              · intro w hSw
                (try dsimp only at hSw)
                go_simp
                try with_reducible rfl
              try simp only [Act.put, List.setIfInBounds_toArray, List.set_cons_zero, List.set_cons_succ]
              refine takeD 16 (some 270) (v := ?_) rfl rfl (by kernel_rfl) (by kernel_rfl) (by kernel_rfl) (fun _ _ _ h => h) (by rfl) ?_ (by assumption) ?_
              rotate_left
              · intro w hSw
                (try dsimp only at hSw)
                go_simp
                try with_reducible rfl
              try simp only [Act.put, List.setIfInBounds_toArray, List.set_cons_zero, List.set_cons_succ]
              refine takeD 17 (some 271) (v := ?_) rfl rfl (by kernel_rfl) (by kernel_rfl) (by kernel_rfl) (fun _ _ _ h => h) (by rfl) ?_ (by assumption) ?_
              rotate_left
              · intro w hSw
                (try dsimp only at hSw)
                go_simp
                try with_reducible rfl
              try simp only [Act.put, List.setIfInBounds_toArray, List.set_cons_zero, List.set_cons_succ]
              refine wpAnyH_ready (rs := [18]) (by kernel_rfl) (by simp) ?_
              refine AllReadyH.cons rfl (fun K hK => ?_) AllReadyH.nil
              rw [if_pos (by rfl)]
              go_simp
              go_at_call 26
              refine (tsteps_any c.St _ _ (smC m os) (okC m os) _ hst.1 (by omega) (Row.of_own (own_below HT2r.out hcur)) (Row.of_own (own_below HT3r.out hcur)) (by omega)).mono ?_
              rintro e V1 ⟨sv, rfl, hr1, hk⟩
              have hcur2 : Below wr.heap.size wr V1 := hcur.trans (hk.mono hcur.size)
              clear hcur hk
              have hcur := hcur2
              clear hcur2
              have HR1_ := Lib.hid hr1
              clear hr1
              have hS := hcur
              go_wp2_with fail
              refine hK.out _ _ ?_ (fun hHeld2 => ?_)
              · clear hK; exact hS
              clear hK K hHeld hS
              have hHeld := hHeld2
              clear hHeld2
              try simp only [Act.put, List.setIfInBounds_toArray, List.set_cons_zero, List.set_cons_succ]
              refine wpAnyH_ready (rs := [19]) (by kernel_rfl) (by simp) ?_
              refine AllReadyH.cons rfl (fun K hK => ?_) AllReadyH.nil
              rw [if_pos (by rfl)]
              go_simp
              go_at_call 22
              refine (same_any _ _ _ _ (tolC c.St m os) (tolC c.St m os) _ (RowN.of_own (own_below HT4r.out hcur)) HR1_.out).mono ?_
              rintro e V2 ⟨rfl, hk⟩
              rw [decide_eq_true rfl]
              have hcur2 : Below wr.heap.size wr V2 := hcur.trans (hk.mono hcur.size)
              clear hcur hk HR1_
              have hcur := hcur2
              clear hcur2
              have hS := hcur
              go_wp2_with fail
              refine hK.out _ _ ?_ (fun hHeld2 => ?_)
              · clear hK; exact hS
              clear hK K hHeld hS
              have hHeld := hHeld2
              clear hHeld2
              try simp only [Act.put, List.setIfInBounds_toArray, List.set_cons_zero, List.set_cons_succ]
              refine takeD 20 (some 274) (v := ?_) rfl rfl (by kernel_rfl) (by kernel_rfl) (by kernel_rfl) (fun _ _ _ h => h) (by rfl) ?_ (by assumption) ?_
              rotate_left
              · intro w hSw
                (try dsimp only at hSw)
                go_simp
                try with_reducible rfl
              try simp only [Act.put, List.setIfInBounds_toArray, List.set_cons_zero, List.set_cons_succ]
              refine wpAnyH_done (by kernel_rfl) ?_ _
              clear hHeld
              have HB7 := Lib.hid (HBc.out.trans (hcur.mono HBc.out.size))
              have HQ7 := Lib.hid (HQc.out.below hcur)
              have HJ7 := Lib.hid (HJc.out.below hcur)
              clear hcur dB ds4 ds2 ds3 HT4r HT2r HT3r
              have lQ := HQ7.out.lt
              have cQ := HQ7.out.cells
              go_wp2
              go_roundw
              case rel => exact ⟨m + 1, by omega, by go_num, HB7.out, HQ7.out, HJ7.out⟩
              case measure => simp [intOf]; omega
            · obtain rfl : m = N := by omega
              have cQ := HQc.out.cells
              have lQ := HQc.out.lt
              go_wp2
              go_ret
              exact ⟨by first | rfl | simp, HBc.out⟩
theorem walk_AlarmFolds (vc : Value) (z : Cf × List Rl) (vl : Value) (l : List Ol) (w : World) (h0 : ConfV w vc z) (h1 : OpsV w vl l) :
    Calls Try.prog 4 #[vc, vl] w fun e w' => e = .returned (.bool true) ∧ Below w.heap.size w w' := walkH_AlarmFolds head_any vc z vl l w h0 h1
end Go.Proofs.Ytcdmojimdiiepaa
