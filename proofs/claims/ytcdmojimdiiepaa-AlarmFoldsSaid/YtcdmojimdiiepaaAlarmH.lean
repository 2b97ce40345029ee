/- Layer 21: is a setting great, or what is done; the base setting. -/
import Derived.Test.YtcdmojimdiiepaaAlarmR
import Derived.StillTailTactics
import Derived.Handy
import Derived.Laws.Rows
import Derived.Laws.Tables
namespace Go.Proofs.Ytcdmojimdiiepaa
open Go.ChangeShapes Go.WideShapes Go.ChangeAt Go.RowKit
set_option linter.unusedVariables false
set_option linter.unusedSimpArgs false

theorem o3_at (l : List Ol) (i : Nat) (o : Ol) (h : l[i]? = some o) : (o3 l)[i * 3]? = some (.int .i64 o.R) ∧ (o3 l)[i * 3 + 1]? = some (.int .i64 o.C) ∧ (o3 l)[i * 3 + 2]? = some (.slice o.A o.cs.length o.cc) := t3_at _ l i o h
theorem rowO_at {w : World} {A : Option Addr} {c m : Nat} {ks : List Ol} {a : Ol} (h : RowN 3 w (.slice A ks.length c) ks.length (o3 ks)) (hm : ks[m]? = some a) :
    ∃ ad, A = some ad ∧ ad.block < w.heap.size ∧ w.cell? (ad.add (m * 3)) = some (.int .i64 a.R) ∧ w.cell? ⟨(ad.add (m * 3)).block, (ad.add (m * 3)).off + 1, none⟩ = some (.int .i64 a.C) ∧ w.cell? ⟨(ad.add (m * 3)).block, (ad.add (m * 3)).off + 2, none⟩ = some (.slice a.A a.cs.length a.cc) := by
  obtain ⟨_, A', c', e1, _, _, hA⟩ := h
  injection e1 with e1 _ _
  subst e1
  obtain ⟨q1, q2, q3⟩ := o3_at ks m a hm
  have hl := (List.getElem?_eq_some_iff.1 hm).1
  rcases hA with ⟨rfl, h0⟩ | ⟨ad, rfl, h1, h2⟩
  · omega
  · have g : ∀ i v, 0 < i → (o3 ks)[m * 3 + i]? = some v → w.cell? ⟨(ad.add (m * 3)).block, (ad.add (m * 3)).off + i, none⟩ = some v := fun i v hi hv => by
      have := h2 _ _ hv
      rwa [← Go.Deep.add_add, addk _ i hi] at this
    exact ⟨ad, rfl, h1 (by rw [show (o3 ks).length = ks.length * 3 from t3_len _ _]; omega), h2 _ _ q1, g 1 _ (by omega) q2, g 2 _ (by omega) q3⟩
set_option maxRecDepth 100000 in
set_option maxHeartbeats 1000000 in
theorem great21_any (v : Value) (c : Cf) (rs : List Rl) (w : World) (h : ConfR w v c rs) :
    Calls Try.prog 10 #[v] w fun e w' => e = .returned (.bool (greatA c rs)) ∧ Below w.heap.size w w' := by
  have HC := Lib.hid h
  obtain ⟨sA, sn, scap, RA, rc, rfl, hrc, hrr, hts⟩ := h.shape
  have HRR := Lib.hid hrr
  clear h hrr hts
  have HAL := Lib.hid ((Below.refl w.heap.size w).alloc (Nat.le_refl _) (.cells #[.int .i64 c.P, .int .i64 c.H, .int .i64 c.C, .int .i64 c.Mn, .int .i64 c.Mx, .int .i64 c.Rho, .int .i64 c.Bd, .int .i64 c.Win, .int .i64 c.St, .slice sA sn scap, .slice RA rs.length rc] 25))
  have HCB := Lib.hid (Blk.new w 25 #[.int .i64 c.P, .int .i64 c.H, .int .i64 c.C, .int .i64 c.Mn, .int .i64 c.Mx, .int .i64 c.Rho, .int .i64 c.Bd, .int .i64 c.Win, .int .i64 c.St, .slice sA sn scap, .slice RA rs.length rc] w.heap.size rfl)
  obtain ⟨co, HCO⟩ : ∃ co, RowKit.Hid (co = greatB c.rows) := ⟨_, Lib.hid rfl⟩
  have hR : greatA c rs = (co || decide (50 < rs.length) || rs.any fun r => decide (100 < r.l.length)) := by rw [HCO.out]; rfl
  rw [hR]
  clear hR
  go_enter Try.func10, Try.ntmps10
  go_wp2_with fail
  refine (great_any _ c _ (HC.out.conf.below HAL.out)).mono ?_
  rintro e w1 ⟨rfl, hk⟩
  rw [← HCO.out]
  have HB1 := Lib.hid (Btrans HAL.out hk)
  have HC1 := Lib.hid (HCB.out.below hk)
  have cC := HC1.out.cells
  have lC := HC1.out.lt
  clear hk
  cases co with
  | true =>
    go_wp2
    go_ret
    exact ⟨by first | rfl | simp, HB1.out⟩
  | false =>
  by_cases h8 : rs.length > 50
  · have g1 : decide ((rs.length : Int) > 50) = true := decide_eq_true (by omega)
    have HD := Lib.hid (show decide (50 < rs.length) = true from decide_eq_true (by omega))
    clear h8
    go_wp2
    go_ret
    exact ⟨ret_bool (by rw [HD.out]; simp), HB1.out⟩
  have g1 : decide ((rs.length : Int) > 50) = false := decide_eq_false (by omega)
  have HBIG := Lib.hid (show decide (50 < rs.length) = false from decide_eq_false (by omega))
  go_wp2_with fail
  go_loopw [3] (fun i wr => ∃ j : Nat, j ≤ rs.length ∧ i = .int .i64 j ∧ (∀ r ∈ rs.take j, decide (100 < r.l.length) = false) ∧ Below w.heap.size w wr ∧ Blk wr w.heap.size 25 #[.int .i64 c.P, .int .i64 c.H, .int .i64 c.C, .int .i64 c.Mn, .int .i64 c.Mx, .int .i64 c.Rho, .int .i64 c.Bd, .int .i64 c.Win, .int .i64 c.St, .slice sA sn scap, .slice RA rs.length rc]) (fun i _ => rs.length - (intOf i).toNat)
  case atStart => exact ⟨0, by omega, rfl, by simp, HB1.out, HC1.out⟩
  case round =>
    obtain ⟨j, hj, rfl, hall, hb, hB⟩ := hrel
    have HB := Lib.hid hb
    have HA := Lib.hid hall
    have HCW := Lib.hid hB
    clear cC lC
    have cC := HCW.out.cells
    have lC := HCW.out.lt
    clear hB
    clear hall hb
    by_cases hlt : j < rs.length
    · obtain ⟨r, hr⟩ : ∃ r, rs[j]? = some r := ⟨_, List.getElem?_eq_getElem hlt⟩
      obtain ⟨ad, rfl, had, e0, e1, e2⟩ := rowR_at HRR.out hr
      have c0 : wr.cell? (ad.add (j * 3)) = some (.slice r.A r.l.length r.rc) := by rw [HB.out.cell (by show (ad.add (j * 3)).block < _; rw [block_add]; exact had)]; exact e0
      have hjl : (j : Int) < (rs.length : Int) := by omega
      have HTK := Lib.hid (show rs.take (j + 1) = rs.take j ++ [r] by rw [List.take_add_one, hr]; rfl)
      have HMEM := Lib.hid (List.mem_of_getElem? hr)
      clear e0 e1 e2 hr
      by_cases hbig : r.l.length > 100
      · have g3 : decide ((r.l.length : Int) > 100) = true := decide_eq_true (by omega)
        have HT := Lib.hid (show rs.any (fun r => decide (100 < r.l.length)) = true from List.any_eq_true.2 ⟨r, HMEM.out, decide_eq_true hbig⟩)
        clear hbig
        go_wp2
        go_ret
        exact ⟨ret_bool (by rw [HT.out]; simp), HB.out⟩
      · have g3 : decide ((r.l.length : Int) > 100) = false := decide_eq_false (by omega)
        have HT := Lib.hid (show decide (100 < r.l.length) = false from decide_eq_false hbig)
        clear hbig
        go_wp2
        go_roundw
        case rel => exact ⟨j + 1, by omega, by go_num, fun x hx => by rw [HTK.out] at hx; rcases List.mem_append.1 hx with hx | hx; exact HA.out x hx; simp at hx; subst hx; exact HT.out, HB.out, HCW.out⟩
        case measure => simp [intOf]; omega
    · obtain rfl : j = rs.length := by omega
      have hA := HA.out
      rw [List.take_length] at hA
      have HALL := Lib.hid (show rs.any (fun r => decide (100 < r.l.length)) = false from List.any_eq_false.2 (fun x hx => by rw [hA x hx]; decide))
      clear hA
      go_wp2
      go_ret
      exact ⟨ret_bool (by rw [HALL.out, HBIG.out]; simp), HB.out⟩
set_option maxRecDepth 100000 in
set_option maxHeartbeats 1000000 in
theorem greatO_any (v : Value) (l : List Ol) (w : World) (h : OpsV w v l) :
    Calls Try.prog 11 #[v] w fun e w' => e = .returned (.bool (greatO l)) ∧ Below w.heap.size w w' := by
  obtain ⟨RA, rc, rfl, hrr, hts⟩ := h
  have HRR := Lib.hid hrr
  clear hrr hts
  have hR : greatO l = (decide (60 < l.length) || l.any fun r => decide (40 < r.cs.length)) := rfl
  rw [hR]
  clear hR
  by_cases h8 : l.length > 60
  · have g1 : decide ((l.length : Int) > 60) = true := decide_eq_true (by omega)
    have HD := Lib.hid (show decide (60 < l.length) = true from decide_eq_true (by omega))
    clear h8
    go_enter Try.func11, Try.ntmps11
    go_wp2
    go_ret
    exact ⟨ret_bool (by rw [HD.out]; simp), Below.refl _ _⟩
  have g1 : decide ((l.length : Int) > 60) = false := decide_eq_false (by omega)
  have HBIG := Lib.hid (show decide (60 < l.length) = false from decide_eq_false (by omega))
  go_enter Try.func11, Try.ntmps11
  go_wp2_with fail
  go_loopw [3] (fun i wr => ∃ j : Nat, j ≤ l.length ∧ i = .int .i64 j ∧ (∀ r ∈ l.take j, decide (40 < r.cs.length) = false) ∧ Below w.heap.size w wr) (fun i _ => l.length - (intOf i).toNat)
  case atStart => exact ⟨0, by omega, rfl, by simp, Below.refl _ _⟩
  case round =>
    obtain ⟨j, hj, rfl, hall, hb⟩ := hrel
    have HB := Lib.hid hb
    have HA := Lib.hid hall
    clear hall hb
    by_cases hlt : j < l.length
    · obtain ⟨r, hr⟩ : ∃ r, l[j]? = some r := ⟨_, List.getElem?_eq_getElem hlt⟩
      obtain ⟨ad, rfl, had, e0, e1, e2⟩ := rowO_at HRR.out hr
      have c0 : wr.cell? ⟨(ad.add (j * 3)).block, (ad.add (j * 3)).off + 2, none⟩ = some (.slice r.A r.cs.length r.cc) := by rw [HB.out.cell (by show (ad.add (j * 3)).block < _; rw [block_add]; exact had)]; exact e2
      have hjl : (j : Int) < (l.length : Int) := by omega
      have HTK := Lib.hid (show l.take (j + 1) = l.take j ++ [r] by rw [List.take_add_one, hr]; rfl)
      have HMEM := Lib.hid (List.mem_of_getElem? hr)
      clear e0 e1 e2 hr
      by_cases hbig : r.cs.length > 40
      · have g3 : decide ((r.cs.length : Int) > 40) = true := decide_eq_true (by omega)
        have HT := Lib.hid (show l.any (fun r => decide (40 < r.cs.length)) = true from List.any_eq_true.2 ⟨r, HMEM.out, decide_eq_true hbig⟩)
        clear hbig
        go_wp2
        go_ret
        exact ⟨ret_bool (by rw [HT.out]; simp), HB.out⟩
      · have g3 : decide ((r.cs.length : Int) > 40) = false := decide_eq_false (by omega)
        have HT := Lib.hid (show decide (40 < r.cs.length) = false from decide_eq_false hbig)
        clear hbig
        go_wp2
        go_roundw
        case rel => exact ⟨j + 1, by omega, by go_num, fun x hx => by rw [HTK.out] at hx; rcases List.mem_append.1 hx with hx | hx; exact HA.out x hx; simp at hx; subst hx; exact HT.out, HB.out⟩
        case measure => simp [intOf]; omega
    · obtain rfl : j = l.length := by omega
      have hA := HA.out
      rw [List.take_length] at hA
      have HALL := Lib.hid (show l.any (fun r => decide (40 < r.cs.length)) = false from List.any_eq_false.2 (fun x hx => by rw [hA x hx]; decide))
      clear hA
      go_wp2
      go_ret
      exact ⟨ret_bool (by rw [HALL.out, HBIG.out]; simp), HB.out⟩
def baseRules (A : Option Addr) (rc : Nat) : List Rl := [⟨A, rc, 2, false, oneL⟩]
theorem oneL_cells : (c3c oneL).toArray = #[.int .i64 1, .int .i64 1, .int .i64 5, .int .i64 2, .int .i64 0, .int .i64 2, .int .i64 5, .int .i64 0, .int .i64 0, .int .i64 3, .int .i64 0, .int .i64 0] := by rfl
set_option maxRecDepth 100000 in
set_option maxHeartbeats 1000000 in
theorem oneX_any (w : World) : Calls Try.prog 52 #[] w fun e w' => ∃ t0, w.heap.size ≤ t0 ∧ e = .returned (.agg #[.slice (some ⟨t0, 0, none⟩) 4 4, .int .i64 2, .bool false]) ∧ Blk w' t0 103 (c3c oneL).toArray ∧ Below w.heap.size w w' := by
  go_enter Try.func52, Try.ntmps52
  go_wp2
  refine bodyPost_ret (v := .agg #[.slice (some ⟨w.heap.size + 1, 0, none⟩) 4 4, .int .i64 2, .bool false]) (by simp [results, Try.results52, go_sem]) rfl ⟨w.heap.size + 1, by omega, rfl, ?_, by go_grown⟩
  rw [oneL_cells]
  exact Blk.new _ _ _ _ (by simp)
set_option maxRecDepth 100000 in
set_option maxHeartbeats 1000000 in
theorem baseL_any (w : World) :
    Calls Try.prog 51 #[] w fun e w' => ∃ g0 g1 g2, w.heap.size ≤ g0 ∧ w.heap.size ≤ g1 ∧ w.heap.size ≤ g2 ∧ e = .returned (.agg #[.int .i64 10, .int .i64 3, .int .i64 8, .int .i64 0, .int .i64 15, .int .i64 100, .int .i64 40, .int .i64 16, .int .i64 2, .slice (some ⟨g0, 0, none⟩) 2 2, .slice none 0 0]) ∧ Blk w' g0 46 #[.slice (some ⟨g1, 0, none⟩) 2 2, .slice (some ⟨g2, 0, none⟩) 1 1] ∧ Blk w' g1 3 #[.int .i64 10, .int .i64 5] ∧ Blk w' g2 3 #[.int .i64 20] ∧ Below w.heap.size w w' := by
  go_enter Try.func51, Try.ntmps51
  go_wp2
  go_returns
  refine ⟨_, w.heap.size + 1, w.heap.size + 1 + 1, ?_, by omega, by omega, rfl, Blk.new _ _ _ _ (by simp), ?_, ?_, by go_grown⟩
  · first | omega | (simp; omega)
  · exact (((Blk.new _ _ _ _ (by simp)).al _).al _)
  · exact ((Blk.new _ _ _ _ (by simp)).al _)
theorem Blk.setRow {w : World} {b c : Nat} {t : TypeId} {cs ds : Array Value} (h : Blk w b t cs) (hne : b ≠ c) : Blk (w.setRow c ds) b t cs := (setRow_other w c b ds hne).trans h
set_option maxRecDepth 100000 in
set_option maxHeartbeats 1000000 in
theorem base21_any (w : World) :
    Calls Try.prog 28 #[] w fun e w' => ∃ v A rc, e = .returned v ∧ ConfR w' v baseC (baseRules A rc) ∧ Below w.heap.size w w' := by
  go_enter Try.func28, Try.ntmps28
  go_wp2_with fail
  refine (baseL_any _).mono ?_
  rintro e w1 ⟨g0, g1, g2, z0, z1, z2, rfl, hg0, hg1, hg2, hk⟩
  simp only [World.size_alloc] at z0 z1 z2
  have HB1 := Lib.hid (show Below w.heap.size w w1 from ((Below.refl w.heap.size w).alloc (Nat.le_refl _) _).trans (hk.mono (by simp)))
  have HR := Lib.hid ((Blk.new w 25 #[.int .i64 0, .int .i64 0, .int .i64 0, .int .i64 0, .int .i64 0, .int .i64 0, .int .i64 0, .int .i64 0, .int .i64 0, .slice none 0 0, .slice none 0 0] w.heap.size rfl).below hk)
  have hww : w.heap.size < w1.heap.size := HR.out.lt
  have HG0 := Lib.hid hg0
  have HG1 := Lib.hid hg1
  have HG2 := Lib.hid hg2
  have y0 := hg0.lt
  have y1 := hg1.lt
  have y2 := hg2.lt
  clear hk hg0 hg1 hg2
  go_wp2_with fail
  refine calls_world (fun W => Below w1.heap.size w1 W ∧ Blk W w1.heap.size 25 #[.int .i64 10, .int .i64 3, .int .i64 8, .int .i64 0, .int .i64 15, .int .i64 100, .int .i64 40, .int .i64 16, .int .i64 2, .slice (some ⟨g0, 0, none⟩) 2 2, .slice none 0 0] ∧ w1.heap.size < W.heap.size) ⟨(Below.refl _ _).alloc (Nat.le_refl _) _, Blk.new w1 _ _ _ rfl, by simp⟩ fun W2 ⟨hb2, hq2, hz2⟩ => ?_
  refine (oneX_any W2).mono ?_
  rintro e w3 ⟨t0, zt, rfl, ht0, hk3⟩
  have HB3 := Lib.hid (Btrans hb2 hk3)
  have HQ3 := Lib.hid (hq2.below hk3)
  have HT := Lib.hid ht0
  have ylt := ht0.lt
  have HR3 := Lib.hid (HR.out.below HB3.out)
  have HG03 := Lib.hid (HG0.out.below HB3.out)
  have HG13 := Lib.hid (HG1.out.below HB3.out)
  have HG23 := Lib.hid (HG2.out.below HB3.out)
  have hlt3 : w1.heap.size < w3.heap.size := HQ3.out.lt
  clear hb2 hq2 ht0 hk3 HR HG0 HG1 HG2
  have cQ := HQ3.out.cells
  have fQ := HQ3.out.froz
  have lQ := HQ3.out.lt
  have hwn : w1.heap.size ≠ w.heap.size := by omega
  have hwm : w.heap.size ≠ w1.heap.size := by omega
  have hi11 : (Try.prog.info? 25).map (·.size) = some 11 := by kernel_rfl
  go_wp2_with (first | ((with_reducible show wpList _ _ _ _ _ _); refine wpList_load_row (by rfl) 25 (.tmp 1) (by rfl) w1.heap.size (by rfl) 25 #[.int .i64 10, .int .i64 3, .int .i64 8, .int .i64 0, .int .i64 15, .int .i64 100, .int .i64 40, .int .i64 16, .int .i64 2, .slice (some ⟨g0, 0, none⟩) 2 2, .slice (some ⟨w3.heap.size, 0, none⟩) 1 1] (0, 0) _ (show Blk _ w1.heap.size 25 #[.int .i64 10, .int .i64 3, .int .i64 8, .int .i64 0, .int .i64 15, .int .i64 100, .int .i64 40, .int .i64 16, .int .i64 2, .slice (some ⟨g0, 0, none⟩) 2 2, .slice (some ⟨w3.heap.size, 0, none⟩) 1 1] from ((HQ3.out.set 10 _).al _)) Try.underlying25 (by rfl) hi11 ?_) | ((with_reducible show wpList _ _ _ _ _ _); refine wpList_store_row (by rfl) 25 (.tmp 0) (.tmp 6) (by rfl) w.heap.size #[.int .i64 10, .int .i64 3, .int .i64 8, .int .i64 0, .int .i64 15, .int .i64 100, .int .i64 40, .int .i64 16, .int .i64 2, .slice (some ⟨g0, 0, none⟩) 2 2, .slice (some ⟨w3.heap.size, 0, none⟩) 1 1] (by rfl) (by rfl) 25 #[.int .i64 0, .int .i64 0, .int .i64 0, .int .i64 0, .int .i64 0, .int .i64 0, .int .i64 0, .int .i64 0, .int .i64 0, .slice none 0 0, .slice none 0 0] (show Blk _ w.heap.size 25 #[.int .i64 0, .int .i64 0, .int .i64 0, .int .i64 0, .int .i64 0, .int .i64 0, .int .i64 0, .int .i64 0, .int .i64 0, .slice none 0 0, .slice none 0 0] from ((HR3.out.setO hwm 10 _).al _)) hi11 (by rfl) (by simp [Value.oneCell']) ?_))
  simp only [Act.put, List.setIfInBounds_toArray, List.set_cons_zero, List.set_cons_succ]
  have HRX := Lib.hid (show Blk ((w3.setCell ⟨w1.heap.size, 10, none⟩ (.slice (some ⟨w3.heap.size, 0, none⟩) 1 1)).alloc (.cells #[.slice (some ⟨t0, 0, none⟩) 4 4, .int .i64 2, .bool false] 50)) w.heap.size 25 #[.int .i64 0, .int .i64 0, .int .i64 0, .int .i64 0, .int .i64 0, .int .i64 0, .int .i64 0, .int .i64 0, .int .i64 0, .slice none 0 0, .slice none 0 0] from ((HR3.out.setO hwm 10 _).al _))
  refine bodyPost_ret (v := .agg #[.int .i64 10, .int .i64 3, .int .i64 8, .int .i64 0, .int .i64 15, .int .i64 100, .int .i64 40, .int .i64 16, .int .i64 2, .slice (some ⟨g0, 0, none⟩) 2 2, .slice (some ⟨w3.heap.size, 0, none⟩) 1 1]) (results_cell_row rfl _ _ w.heap.size 25 #[.int .i64 10, .int .i64 3, .int .i64 8, .int .i64 0, .int .i64 15, .int .i64 100, .int .i64 40, .int .i64 16, .int .i64 2, .slice (some ⟨g0, 0, none⟩) 2 2, .slice (some ⟨w3.heap.size, 0, none⟩) 1 1] (0, 0) _ rfl (setRow_heap _ _ _ _ _ _ HRX.out) Try.underlying25 rfl hi11) rfl ⟨_, some ⟨t0, 0, none⟩, 4, rfl, ⟨_, _, _, rfl, ⟨[.slice (some ⟨g1, 0, none⟩) 2 2, .slice (some ⟨g2, 0, none⟩) 1 1], ?_, rfl, ?_⟩, ?_, ?_⟩, ?_⟩
  · exact Row.of_block (((HG03.out.setO (by omega) 10 _).al _).setRow (by omega)) rfl rfl (Nat.le_refl _) (by decide)
  · intro i r hr
    match i, hr with
    | 0, hr =>
      cases hr
      exact ⟨_, rfl, Row.of_block (cur := #[.int .i64 10, .int .i64 5]) (t := 3) (((HG13.out.setO (by omega) 10 _).al _).setRow (by omega)) rfl rfl (Nat.le_refl _) (by decide)⟩
    | 1, hr =>
      cases hr
      exact ⟨_, rfl, Row.of_block (cur := #[.int .i64 20]) (t := 3) (((HG23.out.setO (by omega) 10 _).al _).setRow (by omega)) rfl rfl (Nat.le_refl _) (by decide)⟩
  · exact RowN.of_blk ((show Blk ((w3.setCell ⟨w1.heap.size, 10, none⟩ (.slice (some ⟨w3.heap.size, 0, none⟩) 1 1)).alloc (.cells #[.slice (some ⟨t0, 0, none⟩) 4 4, .int .i64 2, .bool false] 50)) w3.heap.size 50 #[.slice (some ⟨t0, 0, none⟩) 4 4, .int .i64 2, .bool false] from Blk.new _ _ _ _ (by simp)).setRow (by omega)) rfl rfl (Nat.le_refl _) (by decide)
  · intro r hr
    simp [baseRules] at hr
    subst hr
    exact RowN.of_blk (((HT.out.setO (by omega) 10 _).al _).setRow (by omega)) (by show (c3c oneL).take _ = _; rfl) rfl (Nat.le_refl _) (by show (4 : Nat) ≤ maxLen; decide)
  · have h1 : Below w.heap.size w ((w3.setCell ⟨w1.heap.size, 10, none⟩ (.slice (some ⟨w3.heap.size, 0, none⟩) 1 1)).alloc (.cells #[.slice (some ⟨t0, 0, none⟩) 4 4, .int .i64 2, .bool false] 50)) := ((HB1.out.trans (HB3.out.mono HB1.out.size)).setCell (p := ⟨w1.heap.size, 10, none⟩) (by show w.heap.size ≤ w1.heap.size; omega) _).alloc (by have := HB1.out.size; simp; omega) _
    exact ⟨h1.os, h1.tape, h1.output, by simpa using h1.size, fun k hk => (setRow_other _ _ _ _ (by omega)).trans (h1.block k hk)⟩
end Go.Proofs.Ytcdmojimdiiepaa
