/- Layer 21: may a setting be so, and is it great. -/
import Derived.Test.YtcdmojimdiiepaaAlarmG
import Derived.Test.YtcdmojimdiiepaaAlarmQ
import Derived.Test.YtcdmojimdiiepaaConfD
import Derived.Test.YtcdmojimdiiepaaConfR
import Derived.Test.YtcdmojimdiiepaaRuleFV
import Derived.Test.YtcdmojimdiiepaaReg
import Derived.StillTailTactics
import Derived.Handy
namespace Go.Proofs.Ytcdmojimdiiepaa
open Go.ChangeShapes Go.WideShapes Go.ChangeAt Go.RowKit
set_option linter.unusedVariables false
set_option linter.unusedSimpArgs false

def ruleOk (c : Cf) (r : Rl) : Bool := ruleB r.hold r.l ((chansOf c.rows).length : Int)
def rightA (c : Cf) (rs : List Rl) : Bool := confO c && decide (rs.length ≤ 8) && rs.all (ruleOk c)
def greatA (c : Cf) (rs : List Rl) : Bool := greatB c.rows || decide (50 < rs.length) || rs.any fun r => decide (100 < r.l.length)
def greatO (l : List Ol) : Bool := decide (60 < l.length) || l.any fun o => decide (40 < o.cs.length)
theorem ConfR.shape {w : World} {v : Value} {c : Cf} {rs : List Rl} (h : ConfR w v c rs) : ∃ sA sn scap RA rc, v = .agg #[.int .i64 c.P, .int .i64 c.H, .int .i64 c.C, .int .i64 c.Mn, .int .i64 c.Mx, .int .i64 c.Rho, .int .i64 c.Bd, .int .i64 c.Win, .int .i64 c.St, .slice sA sn scap, .slice RA rs.length rc] ∧ rs.length ≤ rc ∧ RowN 3 w (.slice RA rs.length rc) rs.length (r3 rs) ∧ (∀ r ∈ rs, RowN 3 w (.slice r.A r.l.length r.rc) r.l.length (c3c r.l)) := by
  obtain ⟨sv, RA, rc, e, hsv, hrr, hts⟩ := h
  obtain ⟨sA, sn, scap, rfl⟩ : ∃ A n c, sv = .slice A n c := by obtain ⟨vs, h1, _⟩ := hsv; obtain ⟨A, c, e, _⟩ := h1; exact ⟨A, _, c, e⟩
  exact ⟨sA, sn, scap, RA, rc, e, hrr.caps.1, hrr, hts⟩
set_option maxRecDepth 100000 in
set_option maxHeartbeats 1000000 in
theorem right21_any (v : Value) (c : Cf) (rs : List Rl) (w : World) (h : ConfR w v c rs) (hN : (chansOf c.rows).length ≤ 1000000) :
    Calls Try.prog 12 #[v] w fun e w' => e = .returned (.bool (rightA c rs)) ∧ Below w.heap.size w w' := by
  have HC := Lib.hid h
  obtain ⟨sA, sn, scap, RA, rc, rfl, hrc, hrr, hts⟩ := h.shape
  have HRR := Lib.hid hrr
  have HTS := Lib.hid hts
  clear h hrr hts
  have HAL := Lib.hid ((Below.refl w.heap.size w).alloc (Nat.le_refl _) (.cells #[.int .i64 c.P, .int .i64 c.H, .int .i64 c.C, .int .i64 c.Mn, .int .i64 c.Mx, .int .i64 c.Rho, .int .i64 c.Bd, .int .i64 c.Win, .int .i64 c.St, .slice sA sn scap, .slice RA rs.length rc] 25))
  have HCB := Lib.hid (Blk.new w 25 #[.int .i64 c.P, .int .i64 c.H, .int .i64 c.C, .int .i64 c.Mn, .int .i64 c.Mx, .int .i64 c.Rho, .int .i64 c.Bd, .int .i64 c.Win, .int .i64 c.St, .slice sA sn scap, .slice RA rs.length rc] w.heap.size rfl)
  obtain ⟨co, HCO⟩ : ∃ co, RowKit.Hid (co = confO c) := ⟨_, Lib.hid rfl⟩
  have hR : rightA c rs = (co && decide (rs.length ≤ 8) && rs.all (ruleOk c)) := by rw [HCO.out]; rfl
  rw [hR]
  clear hR
  go_enter Try.func12, Try.ntmps12
  go_wp2_with fail
  refine (right_any _ c _ (HC.out.conf.below HAL.out)).mono ?_
  rintro e w1 ⟨rfl, hk⟩
  rw [← HCO.out]
  have HB1 := Lib.hid (Btrans HAL.out hk)
  have HC1 := Lib.hid (HCB.out.below hk)
  have cC := HC1.out.cells
  have lC := HC1.out.lt
  clear hk
  cases co with
  | false =>
    go_wp2
    go_ret
    exact ⟨by first | rfl | simp, HB1.out⟩
  | true =>
  by_cases h8 : rs.length > 8
  · have g1 : decide ((rs.length : Int) > 8) = true := decide_eq_true (by omega)
    have HD := Lib.hid (show decide (rs.length ≤ 8) = false from decide_eq_false (by omega))
    clear h8
    go_wp2
    go_ret
    exact ⟨ret_bool (by rw [HD.out]; first | rfl | simp), HB1.out⟩
  have g1 : decide ((rs.length : Int) > 8) = false := decide_eq_false (by omega)
  have HRB := Lib.hid (show (true && decide (rs.length ≤ 8) && rs.all (ruleOk c)) = rs.all (ruleOk c) by rw [decide_eq_true (by omega)]; rfl)
  go_wp2_with fail
  go_loopw [17] (fun i wr => ∃ j : Nat, j ≤ rs.length ∧ i = .int .i64 j ∧ (∀ r ∈ rs.take j, ruleOk c r = true) ∧ Below w.heap.size w wr ∧ Blk wr w.heap.size 25 #[.int .i64 c.P, .int .i64 c.H, .int .i64 c.C, .int .i64 c.Mn, .int .i64 c.Mx, .int .i64 c.Rho, .int .i64 c.Bd, .int .i64 c.Win, .int .i64 c.St, .slice sA sn scap, .slice RA rs.length rc]) (fun i _ => rs.length - (intOf i).toNat)
  case atStart => exact ⟨0, by omega, rfl, by simp, HB1.out, HC1.out⟩
  case round =>
    clear cC lC
    obtain ⟨j, hj, rfl, hall, hb, hB⟩ := hrel
    have HB := Lib.hid hb
    have HA := Lib.hid hall
    have HCW := Lib.hid hB
    have cC := HCW.out.cells
    have lC := HCW.out.lt
    clear hB hall hb
    by_cases hlt : j < rs.length
    · obtain ⟨r, hr⟩ : ∃ r, rs[j]? = some r := ⟨_, List.getElem?_eq_getElem hlt⟩
      obtain ⟨ad, rfl, had, e0, e1, e2⟩ := rowR_at HRR.out hr
      have c0 : wr.cell? (ad.add (j * 3)) = some (.slice r.A r.l.length r.rc) := by rw [HB.out.cell (by rw [block_add]; exact had)]; exact e0
      have c1 : wr.cell? ⟨(ad.add (j * 3)).block, (ad.add (j * 3)).off + 1, none⟩ = some (.int .i64 r.hold) := by rw [HB.out.cell (by show (ad.add (j * 3)).block < _; rw [block_add]; exact had)]; exact e1
      have c2 : wr.cell? ⟨(ad.add (j * 3)).block, (ad.add (j * 3)).off + 2, none⟩ = some (.bool r.latch) := by rw [HB.out.cell (by show (ad.add (j * 3)).block < _; rw [block_add]; exact had)]; exact e2
      have had2 : (ad.add (j * 3)).block < wr.heap.size := by rw [block_add]; exact Nat.lt_of_lt_of_le had HB.out.size
      have hjl : (j : Int) < (rs.length : Int) := by omega
      have HTK := Lib.hid (show rs.take (j + 1) = rs.take j ++ [r] by rw [List.take_add_one, hr]; rfl)
      have HMEM := Lib.hid (List.mem_of_getElem? hr)
      have HTR := Lib.hid (HTS.out r HMEM.out)
      obtain ⟨gd, HGD⟩ : ∃ gd, RowKit.Hid (gd = ruleB r.hold r.l ((chansOf c.rows).length : Int)) := ⟨_, Lib.hid rfl⟩
      clear e0 e1 e2 hr
      go_wp2_with fail
      refine wp_world (fun X => Below wr.heap.size wr X ∧ Blk X wr.heap.size 50 #[.slice r.A r.l.length r.rc, .int .i64 r.hold, .bool r.latch]) ⟨by go_grown, Blk.new _ _ _ _ rfl⟩ fun X ⟨hbX, hrX⟩ => ?_
      have HRX := Lib.hid hrX
      have dR : ∀ w', Below X.heap.size X w' → ∀ i, w'.cell? ⟨wr.heap.size, i, none⟩ = (#[.slice r.A r.l.length r.rc, .int .i64 r.hold, .bool r.latch] : Array Value)[i]? := fun w' hb => (HRX.out.below hb).cells
      have HBX := Lib.hid (HB.out.trans (hbX.mono HB.out.size))
      have HCX := Lib.hid (HCW.out.below hbX)
      have dX : ∀ w', Below X.heap.size X w' → ∀ i, w'.cell? ⟨w.heap.size, i, none⟩ = (#[.int .i64 c.P, .int .i64 c.H, .int .i64 c.C, .int .i64 c.Mn, .int .i64 c.Mx, .int .i64 c.Rho, .int .i64 c.Bd, .int .i64 c.Win, .int .i64 c.St, .slice sA sn scap, .slice (some ad) rs.length rc] : Array Value)[i]? := fun w' hb => (HCX.out.below hb).cells
      clear cC lC c0 c1 c2 hbX
      refine wp_region_held_drew (S := fun w' => Below X.heap.size X w') (by kernel_rfl) ((Below.refl _ _).drew) (fun hHeld => ?_)
      refine takeD 0 (some 21) (v := ?_) rfl rfl (by kernel_rfl) (by kernel_rfl) (by kernel_rfl) (fun _ _ _ h => h) (by rfl) ?_ (by assumption) ?_
      rotate_left
      · intro w hSw
        (try dsimp only at hSw)
        go_simp
        try with_reducible rfl
      try simp only [Act.put, List.setIfInBounds_toArray, List.set_cons_zero, List.set_cons_succ]
      refine takeD 1 (some 22) (v := ?_) rfl rfl (by kernel_rfl) (by kernel_rfl) (by kernel_rfl) (fun _ _ _ h => h) (by rfl) ?_ (by assumption) ?_
      rotate_left
      · intro w hSw
        (try dsimp only at hSw)
        go_simp
        try with_reducible rfl
      try simp only [Act.put, List.setIfInBounds_toArray, List.set_cons_zero, List.set_cons_succ]
      refine wpAnyH_ready (rs := [2]) (by kernel_rfl) (by simp) ?_
      refine AllReadyH.cons rfl (fun K hK => ?_) AllReadyH.nil
      rw [if_pos (by rfl)]
      go_simp
      go_at_call 32
      refine (many_any _ c _ (HC.out.conf.below (HBX.out.trans (hHeld.mono HBX.out.size))) hN).mono ?_
      rintro e w1 ⟨rfl, hk⟩
      have hS : Below X.heap.size X _ := hHeld.trans (hk.mono hHeld.size)
      clear hk
      go_wp2_with fail
      refine hK.out _ _ ?_ (fun hHeld2 => ?_)
      · clear hK; exact hS
      clear hK K hHeld hS
      have hHeld := hHeld2
      clear hHeld2
      try simp only [Act.put, List.setIfInBounds_toArray, List.set_cons_zero, List.set_cons_succ]
      refine wpAnyH_ready (rs := [3]) (by kernel_rfl) (by simp) ?_
      refine AllReadyH.cons rfl (fun K hK => ?_) AllReadyH.nil
      rw [if_pos (by rfl)]
      go_simp
      go_at_call 31
      refine (rule_right_any _ r.hold r.latch r.l _ _ ⟨r.A, r.rc, rfl, HTR.out.below (HBX.out.trans (hHeld.mono HBX.out.size))⟩).mono ?_
      rintro e w1 ⟨rfl, hk⟩
      rw [← HGD.out]
      have hS : Below X.heap.size X _ := hHeld.trans (hk.mono hHeld.size)
      clear hk
      go_wp2_with fail
      refine hK.out _ _ ?_ (fun hHeld2 => ?_)
      · clear hK; exact hS
      clear hK K hHeld hS
      have hHeld := hHeld2
      clear hHeld2
      try simp only [Act.put, List.setIfInBounds_toArray, List.set_cons_zero, List.set_cons_succ]
      refine takeD 4 (some 25) (v := ?_) rfl rfl (by kernel_rfl) (by kernel_rfl) (by kernel_rfl) (fun _ _ _ h => h) (by rfl) ?_ (by assumption) ?_
      rotate_left
      · intro w hSw
        (try dsimp only at hSw)
        go_simp
        try with_reducible rfl
      try simp only [Act.put, List.setIfInBounds_toArray, List.set_cons_zero, List.set_cons_succ]
      refine wpAnyH_done (by kernel_rfl) ?_ _
      refine nameV (fun W => Below X.heap.size X W) hHeld fun W6 h6 => ?_
      have HBF := Lib.hid (HBX.out.trans (h6.mono HBX.out.size))
      have HXF := Lib.hid (HCX.out.below h6)
      clear hHeld h6 dX
      cases gd with
      | true =>
        go_wp2
        go_roundw
        case rel => exact ⟨j + 1, by omega, by go_num, fun x hx => by rw [HTK.out] at hx; rcases List.mem_append.1 hx with hx | hx; exact HA.out x hx; simp at hx; subst hx; exact HGD.out.symm, HBF.out, HXF.out⟩
        case measure => simp [intOf]; omega
      | false =>
        go_wp2
        go_ret
        refine ⟨ret_bool ?_, HBF.out⟩
        rw [HRB.out]
        have : rs.all (ruleOk c) = false := List.all_eq_false.2 ⟨r, HMEM.out, by rw [show ruleOk c r = false from HGD.out.symm]; decide⟩
        rw [this]
    · obtain rfl : j = rs.length := by omega
      have hA := HA.out
      rw [List.take_length] at hA
      have HALL := Lib.hid (List.all_eq_true.2 hA)
      clear hA
      go_wp2
      go_ret
      exact ⟨ret_bool (by rw [HRB.out, HALL.out]), HB.out⟩
set_option maxRecDepth 100000 in
set_option maxHeartbeats 1000000 in
theorem rright21_any (v : Value) (c : Cf) (rs : List Rl) (w : World) (h : ConfR w v c rs) (hN : (chansOf c.rows).length ≤ 1000000) :
    Calls Try.prog 13 #[v] w fun e w' => e = .returned (.bool (rightA c rs)) ∧ Below w.heap.size w w' := by
  have HC := Lib.hid h
  obtain ⟨sA, sn, scap, RA, rc, rfl, hrc, hrr, hts⟩ := h.shape
  have HRR := Lib.hid hrr
  have HTS := Lib.hid hts
  clear h hrr hts
  have HAL := Lib.hid ((Below.refl w.heap.size w).alloc (Nat.le_refl _) (.cells #[.int .i64 c.P, .int .i64 c.H, .int .i64 c.C, .int .i64 c.Mn, .int .i64 c.Mx, .int .i64 c.Rho, .int .i64 c.Bd, .int .i64 c.Win, .int .i64 c.St, .slice sA sn scap, .slice RA rs.length rc] 25))
  have HCB := Lib.hid (Blk.new w 25 #[.int .i64 c.P, .int .i64 c.H, .int .i64 c.C, .int .i64 c.Mn, .int .i64 c.Mx, .int .i64 c.Rho, .int .i64 c.Bd, .int .i64 c.Win, .int .i64 c.St, .slice sA sn scap, .slice RA rs.length rc] w.heap.size rfl)
  obtain ⟨co, HCO⟩ : ∃ co, RowKit.Hid (co = confO c) := ⟨_, Lib.hid rfl⟩
  have hR : rightA c rs = (co && decide (rs.length ≤ 8) && rs.all (ruleOk c)) := by rw [HCO.out]; rfl
  rw [hR]
  clear hR
  go_enter Try.func13, Try.ntmps13
  go_wp2_with fail
  refine (rright_any _ c _ (HC.out.conf.below HAL.out)).mono ?_
  rintro e w1 ⟨rfl, hk⟩
  rw [← HCO.out]
  have HB1 := Lib.hid (Btrans HAL.out hk)
  have HC1 := Lib.hid (HCB.out.below hk)
  have cC := HC1.out.cells
  have lC := HC1.out.lt
  clear hk
  cases co with
  | false =>
    go_wp2
    go_ret
    exact ⟨by first | rfl | simp, HB1.out⟩
  | true =>
  by_cases h8 : rs.length > 8
  · have g1 : decide ((rs.length : Int) > 8) = true := decide_eq_true (by omega)
    have HD := Lib.hid (show decide (rs.length ≤ 8) = false from decide_eq_false (by omega))
    clear h8
    go_wp2
    go_ret
    exact ⟨ret_bool (by rw [HD.out]; first | rfl | simp), HB1.out⟩
  have g1 : decide ((rs.length : Int) > 8) = false := decide_eq_false (by omega)
  have HRB := Lib.hid (show (true && decide (rs.length ≤ 8) && rs.all (ruleOk c)) = rs.all (ruleOk c) by rw [decide_eq_true (by omega)]; rfl)
  go_wp2_with fail
  go_loopw [3] (fun i wr => ∃ j : Nat, j ≤ rs.length ∧ i = .int .i64 j ∧ (∀ r ∈ rs.take j, ruleOk c r = true) ∧ Below w.heap.size w wr ∧ Blk wr w.heap.size 25 #[.int .i64 c.P, .int .i64 c.H, .int .i64 c.C, .int .i64 c.Mn, .int .i64 c.Mx, .int .i64 c.Rho, .int .i64 c.Bd, .int .i64 c.Win, .int .i64 c.St, .slice sA sn scap, .slice RA rs.length rc]) (fun i _ => rs.length - (intOf i).toNat)
  case atStart => exact ⟨0, by omega, rfl, by simp, HB1.out, HC1.out⟩
  case round =>
    clear cC lC
    obtain ⟨j, hj, rfl, hall, hb, hB⟩ := hrel
    have HB := Lib.hid hb
    have HA := Lib.hid hall
    have HCW := Lib.hid hB
    have cC := HCW.out.cells
    have lC := HCW.out.lt
    clear hB hall hb
    by_cases hlt : j < rs.length
    · obtain ⟨r, hr⟩ : ∃ r, rs[j]? = some r := ⟨_, List.getElem?_eq_getElem hlt⟩
      obtain ⟨ad, rfl, had, e0, e1, e2⟩ := rowR_at HRR.out hr
      have c0 : wr.cell? (ad.add (j * 3)) = some (.slice r.A r.l.length r.rc) := by rw [HB.out.cell (by rw [block_add]; exact had)]; exact e0
      have c1 : wr.cell? ⟨(ad.add (j * 3)).block, (ad.add (j * 3)).off + 1, none⟩ = some (.int .i64 r.hold) := by rw [HB.out.cell (by show (ad.add (j * 3)).block < _; rw [block_add]; exact had)]; exact e1
      have c2 : wr.cell? ⟨(ad.add (j * 3)).block, (ad.add (j * 3)).off + 2, none⟩ = some (.bool r.latch) := by rw [HB.out.cell (by show (ad.add (j * 3)).block < _; rw [block_add]; exact had)]; exact e2
      have had2 : (ad.add (j * 3)).block < wr.heap.size := by rw [block_add]; exact Nat.lt_of_lt_of_le had HB.out.size
      have hjl : (j : Int) < (rs.length : Int) := by omega
      have HTK := Lib.hid (show rs.take (j + 1) = rs.take j ++ [r] by rw [List.take_add_one, hr]; rfl)
      have HMEM := Lib.hid (List.mem_of_getElem? hr)
      have HTR := Lib.hid (HTS.out r HMEM.out)
      obtain ⟨gd, HGD⟩ : ∃ gd, RowKit.Hid (gd = ruleB r.hold r.l ((chansOf c.rows).length : Int)) := ⟨_, Lib.hid rfl⟩
      clear e0 e1 e2 hr
      go_wp2_with fail
      refine wp_world (fun X => Below wr.heap.size wr X) (Below.refl _ _) fun X hbX => ?_
      have dR0 : ∀ w', Below X.heap.size X w' → w'.cell? (ad.add (j * 3)) = some (.slice r.A r.l.length r.rc) := fun w' hb => by rw [(hb.cell (p := ad.add (j * 3)) (Nat.lt_of_lt_of_le had2 hbX.size)), hbX.cell had2]; exact c0
      have dR1 : ∀ w', Below X.heap.size X w' → w'.cell? ⟨(ad.add (j * 3)).block, (ad.add (j * 3)).off + 1, none⟩ = some (.int .i64 r.hold) := fun w' hb => by rw [(hb.cell (p := ⟨(ad.add (j * 3)).block, (ad.add (j * 3)).off + 1, none⟩) (Nat.lt_of_lt_of_le had2 hbX.size)), hbX.cell (p := ⟨(ad.add (j * 3)).block, (ad.add (j * 3)).off + 1, none⟩) had2]; exact c1
      have dR2 : ∀ w', Below X.heap.size X w' → w'.cell? ⟨(ad.add (j * 3)).block, (ad.add (j * 3)).off + 2, none⟩ = some (.bool r.latch) := fun w' hb => by rw [(hb.cell (p := ⟨(ad.add (j * 3)).block, (ad.add (j * 3)).off + 2, none⟩) (Nat.lt_of_lt_of_le had2 hbX.size)), hbX.cell (p := ⟨(ad.add (j * 3)).block, (ad.add (j * 3)).off + 2, none⟩) had2]; exact c2
      have HBX := Lib.hid (HB.out.trans (hbX.mono HB.out.size))
      have HCX := Lib.hid (HCW.out.below hbX)
      have dX : ∀ w', Below X.heap.size X w' → ∀ i, w'.cell? ⟨w.heap.size, i, none⟩ = (#[.int .i64 c.P, .int .i64 c.H, .int .i64 c.C, .int .i64 c.Mn, .int .i64 c.Mx, .int .i64 c.Rho, .int .i64 c.Bd, .int .i64 c.Win, .int .i64 c.St, .slice sA sn scap, .slice (some ad) rs.length rc] : Array Value)[i]? := fun w' hb => (HCX.out.below hb).cells
      clear cC lC c0 c1 c2 hbX
      refine wp_region_held_drew (S := fun w' => Below X.heap.size X w') (by kernel_rfl) ((Below.refl _ _).drew) (fun hHeld => ?_)
      refine takeD 0 (some 20) (v := ?_) rfl rfl (by kernel_rfl) (by kernel_rfl) (by kernel_rfl) (fun _ _ _ h => h) (by rfl) ?_ (by assumption) ?_
      rotate_left
      · intro w hSw
        (try dsimp only at hSw)
        go_simp
        try with_reducible rfl
      try simp only [Act.put, List.setIfInBounds_toArray, List.set_cons_zero, List.set_cons_succ]
      refine takeD 1 (some 21) (v := ?_) rfl rfl (by kernel_rfl) (by kernel_rfl) (by kernel_rfl) (fun _ _ _ h => h) (by rfl) ?_ (by assumption) ?_
      rotate_left
      · intro w hSw
        (try dsimp only at hSw)
        go_simp
        try with_reducible rfl
      try simp only [Act.put, List.setIfInBounds_toArray, List.set_cons_zero, List.set_cons_succ]
      refine takeD 2 (some 22) (v := ?_) rfl rfl (by kernel_rfl) (by kernel_rfl) (by kernel_rfl) (fun _ _ _ h => h) (by rfl) ?_ (by assumption) ?_
      rotate_left
      · intro w hSw
        (try dsimp only at hSw)
        go_simp
        try with_reducible rfl
      try simp only [Act.put, List.setIfInBounds_toArray, List.set_cons_zero, List.set_cons_succ]
      refine takeD 3 (some 23) (v := ?_) rfl rfl (by kernel_rfl) (by kernel_rfl) (by kernel_rfl) (fun _ _ _ h => h) (by rfl) ?_ (by assumption) ?_
      rotate_left
      · intro w hSw
        (try dsimp only at hSw)
        go_simp
        try with_reducible rfl
      try simp only [Act.put, List.setIfInBounds_toArray, List.set_cons_zero, List.set_cons_succ]
      refine takeD 4 (some 24) (v := ?_) rfl rfl (by kernel_rfl) (by kernel_rfl) (by kernel_rfl) (fun _ _ _ h => h) (by rfl) ?_ (by assumption) ?_
      rotate_left
      · intro w hSw
        (try dsimp only at hSw)
        go_simp
        try with_reducible rfl
      try simp only [Act.put, List.setIfInBounds_toArray, List.set_cons_zero, List.set_cons_succ]
      refine takeD 5 (some 25) (v := ?_) rfl rfl (by kernel_rfl) (by kernel_rfl) (by kernel_rfl) (fun _ _ _ h => h) (by rfl) ?_ (by assumption) ?_
      rotate_left
      · intro w hSw
        (try dsimp only at hSw)
        go_simp
        try with_reducible rfl
      try simp only [Act.put, List.setIfInBounds_toArray, List.set_cons_zero, List.set_cons_succ]
      refine wpAnyH_ready (rs := [6]) (by kernel_rfl) (by simp) ?_
      refine AllReadyH.cons rfl (fun K hK => ?_) AllReadyH.nil
      rw [if_pos (by rfl)]
      go_simp
      go_at_call 23
      refine (rmany_any _ c _ (HC.out.conf.below (HBX.out.trans (hHeld.mono HBX.out.size))) hN).mono ?_
      rintro e w1 ⟨rfl, hk⟩
      have hS : Below X.heap.size X _ := hHeld.trans (hk.mono hHeld.size)
      clear hk
      go_wp2_with fail
      refine hK.out _ _ ?_ (fun hHeld2 => ?_)
      · clear hK; exact hS
      clear hK K hHeld hS
      have hHeld := hHeld2
      clear hHeld2
      try simp only [Act.put, List.setIfInBounds_toArray, List.set_cons_zero, List.set_cons_succ]
      refine wpAnyH_ready (rs := [7]) (by kernel_rfl) (by simp) ?_
      refine AllReadyH.cons rfl (fun K hK => ?_) AllReadyH.nil
      rw [if_pos (by rfl)]
      go_simp
      go_at_call 34
      refine (rule_rright_any _ r.hold r.latch r.l _ _ ⟨r.A, r.rc, rfl, HTR.out.below (HBX.out.trans (hHeld.mono HBX.out.size))⟩).mono ?_
      rintro e w1 ⟨rfl, hk⟩
      rw [← HGD.out]
      have hS : Below X.heap.size X _ := hHeld.trans (hk.mono hHeld.size)
      clear hk
      go_wp2_with fail
      refine hK.out _ _ ?_ (fun hHeld2 => ?_)
      · clear hK; exact hS
      clear hK K hHeld hS
      have hHeld := hHeld2
      clear hHeld2
      try simp only [Act.put, List.setIfInBounds_toArray, List.set_cons_zero, List.set_cons_succ]
      refine takeD 8 (some 28) (v := ?_) rfl rfl (by kernel_rfl) (by kernel_rfl) (by kernel_rfl) (fun _ _ _ h => h) (by rfl) ?_ (by assumption) ?_
      rotate_left
      · intro w hSw
        (try dsimp only at hSw)
        go_simp
        try with_reducible rfl
      try simp only [Act.put, List.setIfInBounds_toArray, List.set_cons_zero, List.set_cons_succ]
      refine wpAnyH_done (by kernel_rfl) ?_ _
      refine nameV (fun W => Below X.heap.size X W) hHeld fun W6 h6 => ?_
      have HBF := Lib.hid (HBX.out.trans (h6.mono HBX.out.size))
      have HXF := Lib.hid (HCX.out.below h6)
      clear hHeld h6 dX
      cases gd with
      | true =>
        go_wp2
        go_roundw
        case rel => exact ⟨j + 1, by omega, by go_num, fun x hx => by rw [HTK.out] at hx; rcases List.mem_append.1 hx with hx | hx; exact HA.out x hx; simp at hx; subst hx; exact HGD.out.symm, HBF.out, HXF.out⟩
        case measure => simp [intOf]; omega
      | false =>
        go_wp2
        go_ret
        refine ⟨ret_bool ?_, HBF.out⟩
        rw [HRB.out]
        have : rs.all (ruleOk c) = false := List.all_eq_false.2 ⟨r, HMEM.out, by rw [show ruleOk c r = false from HGD.out.symm]; decide⟩
        rw [this]
    · obtain rfl : j = rs.length := by omega
      have hA := HA.out
      rw [List.take_length] at hA
      have HALL := Lib.hid (List.all_eq_true.2 hA)
      clear hA
      go_wp2
      go_ret
      exact ⟨ret_bool (by rw [HRB.out, HALL.out]), HB.out⟩
end Go.Proofs.Ytcdmojimdiiepaa
