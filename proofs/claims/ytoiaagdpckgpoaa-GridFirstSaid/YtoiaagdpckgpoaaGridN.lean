/- Layer 13: laws, walked: the first of many. -/
import Derived.Test.YtoiaagdpckgpoaaGridM
import Derived.StillTailTactics
namespace Go.Proofs.Ytoiaagdpckgpoaa
open Go.ChangeShapes Go.WideShapes Go.ChangeAt Go.RowKit
set_option linter.unusedVariables false
set_option linter.unusedSimpArgs false

/-- a grid of which just one sample is placed, at P of channel n, j ticks on -/
def R1 (j P n N k : Nat) (x : Int × Int) : List (Nat × List SB) := (G0 j N k).set n (j, (List.replicate k ((0, 0), false)).set (P - j) (x, true))
theorem R1_len (j P n N k : Nat) (x : Int × Int) : (R1 j P n N k x).length = N := by simp [R1, G0_len]
theorem R1_at (j P n N k : Nat) (x : Int × Int) (h : n < N) : (R1 j P n N k x)[n]? = some (j, (List.replicate k ((0, 0), false)).set (P - j) (x, true)) := by
  unfold R1
  rw [List.getElem?_set_self (by rw [G0_len]; exact h)]
theorem R1_ok (j P n N k : Nat) (x : Int × Int) (h : j < 4611686018427387904) : ∀ r ∈ R1 j P n N k x, r.1 < 4611686018427387904 := by
  intro r hr
  rcases List.mem_or_eq_of_mem_set hr with hr | rfl
  · exact G0_ok j N k h r hr
  · exact h
theorem R1_put (P n N k : Nat) (x : Int × Int) (hn : n < N) (hP : P < k) : gputC k (G0 0 N k) (n : Int) (P : Int) = 9 ∧ gputR k (G0 0 N k) (n : Int) (P : Int) x = R1 0 P n N k x := by
  have hc : putC 0 k (List.replicate k (((0 : Int), (0 : Int)), false)) (P : Int) = 9 := by
    have := putC_rep 0 k (P : Int) (by omega)
    rw [if_neg (by omega), if_neg (by omega)] at this
    simpa using this
  refine ⟨(gputC_in k (G0 0 N k) n (P : Int) _ (G0_at 0 N k n hn)).trans hc, (gputR_in k (G0 0 N k) n (P : Int) x _ (G0_at 0 N k n hn)).trans ?_⟩
  unfold putQ R1
  rw [if_pos hc]
  simp
theorem R1_taken (P n N k : Nat) (x y : Int × Int) (hn : n < N) (hP : P < k) : gputC k (R1 0 P n N k x) (n : Int) (P : Int) = 8 ∧ gputR k (R1 0 P n N k x) (n : Int) (P : Int) y = R1 0 P n N k x := by
  have hc : putC 0 k ((List.replicate k (((0 : Int), (0 : Int)), false)).set (P - 0) (x, true)) (P : Int) = 8 := by
    unfold putC
    rw [if_neg (by omega), if_neg (by simp; omega)]
    simp [hP]
  refine ⟨(gputC_in k _ n (P : Int) _ (R1_at 0 P n N k x hn)).trans hc, (gputR_in k _ n (P : Int) y _ (R1_at 0 P n N k x hn)).trans ?_⟩
  unfold putQ
  rw [hc, if_neg (by decide)]
  have h1 := R1_at 0 P n N k x hn
  have h2 : n < (R1 0 P n N k x).length := (List.getElem?_eq_some_iff.1 h1).1
  have h3 := (List.getElem?_eq_some_iff.1 h1).2
  rw [← h3]
  exact List.set_getElem_self h2
theorem R1_adv (j P n N k : Nat) (x : Int × Int) (hj : j < P) (hP : P < k) : (R1 j P n N k x).map adv = R1 (j + 1) P n N k x := by
  unfold R1
  rw [List.map_set, G0_adv _ _ _ (by omega)]
  congr 1
  obtain ⟨m, rfl⟩ : ∃ m, k = m + 1 := ⟨k - 1, by omega⟩
  obtain ⟨d, hd⟩ : ∃ d, P - j = d + 1 := ⟨P - j - 1, by omega⟩
  rw [hd, show P - (j + 1) = d by omega]
  show (j + 1, ((List.replicate (m + 1) ((0, 0), false)).set (d + 1) (x, true)).tail ++ [((0, 0), false)]) = _
  rw [List.replicate_succ, List.set_cons_succ, List.tail_cons, ← List.replicate_succ, List.replicate_succ', List.set_append_left _ _ (by simp; omega)]
theorem R1_tell (P n N k : Nat) (x : Int × Int) (hn : n < N) (hP : P < k) : (tellC (reasonsL N 0) (R1 P P n N k x))[n]? = some (1, x.1, x.2) := by
  obtain ⟨y, hy⟩ : ∃ y, (reasonsL N 0)[n]? = some y := ⟨_, List.getElem?_eq_getElem (by rw [reasonsL_len]; exact hn)⟩
  rw [tellC_at _ _ n y _ hy (R1_at P P n N k x hn), Nat.sub_self]
  obtain ⟨m, rfl⟩ : ∃ m, k = m + 1 := ⟨k - 1, by omega⟩
  rfl

set_option maxRecDepth 100000 in
set_option maxHeartbeats 4000000 in
theorem walk_GridFirst (v : Value) (c : Cf) (ch kk x1 x2 : Int) (vm : Value) (more : List (Int × Int)) (w : World) (hc : IsConf w v c) (wc : (Lit.int .i64 c.P).wf = true ∧ (Lit.int .i64 c.H).wf = true ∧ (Lit.int .i64 c.C).wf = true ∧ (Lit.int .i64 c.Mn).wf = true ∧ (Lit.int .i64 c.Mx).wf = true ∧ (Lit.int .i64 c.Rho).wf = true ∧ (Lit.int .i64 c.Bd).wf = true ∧ (Lit.int .i64 c.Win).wf = true ∧ (Lit.int .i64 c.St).wf = true) (wr : ∀ r ∈ c.rows, ∀ z ∈ r, (Lit.int .i64 z).wf = true) (w0 : (Lit.int .u8 ch).wf = true) (w1 : (Lit.int .u8 kk).wf = true) (w2 : (Lit.int .i64 x1).wf = true) (w3 : (Lit.int .i64 x2).wf = true) (hm : SamRow w vm more) :
    Calls Try.prog 5 #[v, .int .u8 ch, .int .u8 kk, .agg #[.int .i64 x1, .int .i64 x2], vm] w fun e w' => e = .returned (.bool true) ∧ Below w.heap.size w w' := by
  obtain ⟨s, r, rfl, hs⟩ := hc
  have HS := Lib.hid hs
  obtain ⟨A, cp, rfl, _, _, q⟩ := hs.src
  clear hs q wc wr
  have hc8 := bounds_u8 w0
  have hk8 := bounds_u8 w1
  obtain ⟨Am, cm, rfl, hcm, hcmm, hAm⟩ := hm
  have HM := Lib.hid hAm
  clear w0 w1 w2 w3 hAm
  go_enter Try.func5, Try.ntmps5
  go_wp2_with fail
  refine calls_world (fun W1 => Below w.heap.size w W1 ∧ Blk W1 w.heap.size 25 #[.int .i64 c.P, .int .i64 c.H, .int .i64 c.C, .int .i64 c.Mn, .int .i64 c.Mx, .int .i64 c.Rho, .int .i64 c.Bd, .int .i64 c.Win, .int .i64 c.St, .slice A c.rows.length cp, r] ∧ Blk W1 (w.heap.size + 1) 39 #[.int .i64 x1, .int .i64 x2]) ⟨(by go_grown), ((Blk.new _ _ _ _ (by first | rfl | simp)).al _), (Blk.new _ _ _ _ (by first | rfl | simp))⟩ fun W1 ⟨hb1, qB, qX⟩ => ?_
  have B1 := Lib.hid qB
  have X1 := Lib.hid qX
  (try clear cB); (try clear lB); (try clear dB); (try clear cX); (try clear lX); (try clear dX)
  clear qB qX
  refine (head_any _).mono ?_
  rintro e W2 ⟨rfl, hk⟩
  (try clear cB); (try clear lB); (try clear dB); (try clear cX); (try clear lX); (try clear dX)
  have hb2 := Btrans hb1 hk
  have B2 := Lib.hid (B1.out.below hk)
  have X2 := Lib.hid (X1.out.below hk)
  clear hk B1 X1 hb1
  have cB := B2.out.cells
  have lB := B2.out.lt
  have cX := X2.out.cells
  have lX := X2.out.lt
  go_wp2_with fail
  refine (right_c _ c _ ⟨_, _, rfl, HS.out.below hb2⟩).mono ?_
  rintro e W3 ⟨rfl, hk⟩
  (try clear cB); (try clear lB); (try clear dB); (try clear cX); (try clear lX); (try clear dX)
  have hb3 := Btrans hb2 hk
  have B3 := Lib.hid (B2.out.below hk)
  have X3 := Lib.hid (X2.out.below hk)
  clear hk B2 X2 hb2
  have cB := B3.out.cells
  have lB := B3.out.lt
  have cX := X3.out.cells
  have lX := X3.out.lt
  obtain ⟨ok, hok⟩ : ∃ b, b = (!greatB c.rows && confO c) := ⟨_, rfl⟩
  rw [← hok]
  cases ok with
  | false =>
    clear hok
    go_wp2
    go_ret
    exact ⟨by first | rfl | simp, hb3⟩
  | true =>
    obtain ⟨k, hC, hk1, hk64, hN0, hN⟩ := conf_facts hok.symm
    obtain ⟨N, hNN⟩ : ∃ N, N = (chansOf c.rows).length := ⟨_, rfl⟩
    rw [← hNN] at hN0 hN
    have HNN := Lib.hid hNN
    have HCK := Lib.hid hC
    clear hok hNN hC
    by_cases hbig : 60 < more.length
    · have g1 : decide (((more.length : Nat) : Int) > 60) = true := decide_eq_true (by omega)
      go_wp2
      go_ret
      exact ⟨by first | rfl | simp, hb3⟩
    have g1 : decide (((more.length : Nat) : Int) > 60) = false := decide_eq_false (by omega)
    go_wp2_with fail
    refine (gnew_any _ c _ ⟨_, _, rfl, HS.out.below hb3⟩ k HCK.out (by omega) (by rw [← HNN.out]; omega)).mono ?_
    rintro e W4 ⟨Gg, Gab, Gbs, rfl, hbl, hg, hk, hlo⟩
    (try clear cB); (try clear lB); (try clear dB); (try clear cX); (try clear lX); (try clear dX)
    have hzz := hb3.size
    rw [← HNN.out] at hbl hg
    have HLG := Lib.hid hlo
    have HBG := Lib.hid hbl
    have hlGB := B3.out.lt
    have hlGX := X3.out.lt
    obtain ⟨limG, hlim⟩ : ∃ m, m = W3.heap.size := ⟨_, rfl⟩
    rw [← hlim] at HLG hzz hlGB hlGX
    clear hlim hlo hbl
    have hb4 := Btrans hb3 hk
    have B4 := Lib.hid (B3.out.below hk)
    have X4 := Lib.hid (X3.out.below hk)
    clear hk B3 X3 hb3
    have G4 := Lib.hid (show GridS W4 Gg Gab Gbs k (G0 0 N k) from hg)
    clear hg
    have cB := B4.out.cells
    have lB := B4.out.lt
    have cX := X4.out.cells
    have lX := X4.out.lt
    go_wp2_with fail
    refine (rmany_any _ c _ ⟨_, _, rfl, HS.out.below hb4⟩ (by rw [← HNN.out]; omega)).mono ?_
    rintro e W5 ⟨rfl, hk⟩
    (try clear cB); (try clear lB); (try clear dB); (try clear cX); (try clear lX); (try clear dX)
    try rw [← HNN.out]
    have hb5 := Btrans hb4 hk
    have B5 := Lib.hid (B4.out.below hk)
    have X5 := Lib.hid (X4.out.below hk)
    have G5 := Lib.hid (G4.out.below hk)
    clear hk B4 X4 G4 hb4
    have cB := B5.out.cells
    have lB := B5.out.lt
    have cX := X5.out.cells
    have lX := X5.out.lt
    obtain ⟨n, hn⟩ : ∃ n : Nat, ch % (N : Int) = (n : Int) := ⟨(ch % (N : Int)).toNat, by have := Int.emod_nonneg ch (show (N : Int) ≠ 0 by omega); omega⟩
    have hnN : n < N := by have := Int.emod_lt_of_pos ch (show 0 < (N : Int) by omega); omega
    obtain ⟨P, hP⟩ : ∃ P : Nat, kk % (k : Int) = (P : Int) := ⟨(kk % (k : Int)).toNat, by have := Int.emod_nonneg kk (show (k : Int) ≠ 0 by omega); omega⟩
    have hPk : P < k := by have := Int.emod_lt_of_pos kk (show 0 < (k : Int) by omega); omega
    have hN1 : (N : Int) ≠ 0 := by omega
    have hN2 : (0 : Int) < (N : Int) := by omega
    have hC1 : c.C ≠ 0 := by rw [HCK.out]; omega
    have hC2 : 0 < c.C := by rw [HCK.out]; omega
    have hP' : kk % c.C = (P : Int) := by rw [HCK.out]; exact hP
    have hn1 : ch.tmod (N : Int) = (n : Int) := by rw [Int.tmod_eq_emod_of_nonneg hc8.1]; exact hn
    have hP1 : kk.tmod c.C = (P : Int) := by rw [Int.tmod_eq_emod_of_nonneg hk8.1]; exact hP'
    clear hP
    go_wp2_with fail
    obtain ⟨hpc, hpr⟩ := R1_put P n N k (x1, x2) hnN hPk
    have HPC := Lib.hid hpc
    have HPR := Lib.hid hpr
    clear hpc hpr
    try rw [hn]
    try rw [hn1]
    try rw [hP']
    try rw [hP1]
    clear hn hn1 hP' hP1
    refine (gput_any _ Gg Gab k Gbs (G0 0 N k) (n : Int) (P : Int) (x1, x2) G5.out (by omega)).mono ?_
    rintro e W6 ⟨rfl, hG, hO⟩
    (try clear cB); (try clear lB); (try clear dB); (try clear cX); (try clear lX); (try clear dX)
    rw [HPR.out] at hG
    rw [HPC.out]
    have hb6 := Only.below hb5 hb5.size hO (fun x hx => by have := HLG.out x hx; omega)
    have G6 := Lib.hid (show GridS W6 Gg Gab Gbs k (R1 0 P n N k (x1, x2)) from hG)
    have B6 := Lib.hid (B5.out.only hO (fun hm => by have := HLG.out _ hm; omega))
    have X6 := Lib.hid (X5.out.only hO (fun hm => by have := HLG.out _ hm; omega))
    clear hG hO B5 X5 G5 hb5
    have cB := B6.out.cells
    have lB := B6.out.lt
    have cX := X6.out.cells
    have lX := X6.out.lt
    go_wp2_with fail
    have HLW := Lib.hid (show ∀ x ∈ gblocks Gg Gab Gbs, w.heap.size ≤ x from fun x hx => by have := HLG.out x hx; omega)
    go_loopw [15] (fun i wr => ∃ j : Nat, j ≤ more.length ∧ i = .int .i64 j ∧ Below w.heap.size w wr ∧ Blk wr w.heap.size 25 #[.int .i64 c.P, .int .i64 c.H, .int .i64 c.C, .int .i64 c.Mn, .int .i64 c.Mx, .int .i64 c.Rho, .int .i64 c.Bd, .int .i64 c.Win, .int .i64 c.St, .slice A c.rows.length cp, r] ∧ Blk wr (w.heap.size + 1) 39 #[.int .i64 x1, .int .i64 x2] ∧ GridS wr Gg Gab Gbs k (R1 0 P n N k (x1, x2))) (fun i _ => more.length - (intOf i).toNat)
    case atStart => exact ⟨0, by omega, rfl, hb6, B6.out, X6.out, G6.out⟩
    case round =>
      clear hb6 B6 X6 G6 cB lB cX lX
      obtain ⟨j, hj, rfl, hb, hB, hX, hG⟩ := hrel
      have HB := Lib.hid hB
      have HX := Lib.hid hX
      have HG := Lib.hid hG
      have lB := hB.lt
      clear hB hX hG
      by_cases hlt : j < more.length
      · obtain ⟨o, ho⟩ : ∃ o, more[j]? = some o := ⟨_, List.getElem?_eq_getElem hlt⟩
        obtain ⟨ad, rfl, had, hc0, hc1⟩ := HM.out j o ho
        have e0 : wr.cell? (ad.add (j * 2)) = some (.int .i64 o.1) := by rw [hb.cell (by rw [block_add]; exact had)]; exact hc0
        have e1 : wr.cell? ⟨(ad.add (j * 2)).block, (ad.add (j * 2)).off + 1, none⟩ = some (.int .i64 o.2) := by
          have h2 : wr.cell? (ad.add (j * 2 + 1)) = some (.int .i64 o.2) := by rw [hb.cell (by rw [block_add]; exact had)]; exact hc1
          rwa [← Go.Deep.add_add] at h2
        clear hc0 hc1 ho
        obtain ⟨hpc, hpr⟩ := R1_taken P n N k (x1, x2) (o.1, o.2) hnN hPk
        have HPC := Lib.hid hpc
        have HPR := Lib.hid hpr
        clear hpc hpr
        go_wp2_with fail
        refine (gput_any _ Gg Gab k Gbs (R1 0 P n N k (x1, x2)) (n : Int) (P : Int) (o.1, o.2) HG.out (by omega)).mono ?_
        rintro e W5 ⟨rfl, hg5, ho5⟩
        rw [HPR.out] at hg5
        rw [HPC.out]
        have hb5 := Only.below hb hb.size ho5 HLW.out
        have HB5 := Lib.hid (HB.out.onlyG ho5 HLG.out hlGB)
        have HX5 := Lib.hid (HX.out.onlyG ho5 HLG.out hlGX)
        have HG5 := Lib.hid hg5
        clear hg5 ho5 e0 e1
        go_wp2
        go_roundw
        case rel => exact ⟨j + 1, by omega, by go_num, hb5, HB5.out, HX5.out, HG5.out⟩
        case measure => simp [intOf]; omega
      · have he : j = more.length := by omega
        subst he
        go_wp2_with fail
        go_loopw [16] (fun i wr => ∃ j : Nat, j ≤ P ∧ i = .int .i64 j ∧ Below w.heap.size w wr ∧ Blk wr w.heap.size 25 #[.int .i64 c.P, .int .i64 c.H, .int .i64 c.C, .int .i64 c.Mn, .int .i64 c.Mx, .int .i64 c.Rho, .int .i64 c.Bd, .int .i64 c.Win, .int .i64 c.St, .slice A c.rows.length cp, r] ∧ Blk wr (w.heap.size + 1) 39 #[.int .i64 x1, .int .i64 x2] ∧ GridS wr Gg Gab Gbs k (R1 j P n N k (x1, x2))) (fun i _ => P - (intOf i).toNat)
        case atStart => exact ⟨0, by omega, rfl, hb, HB.out, HX.out, HG.out⟩
        case round =>
          clear hb HB HX HG
          obtain ⟨j, hj, rfl, hb, hB, hX, hG⟩ := hrel
          have HB := Lib.hid hB
          have HX := Lib.hid hX
          have HG := Lib.hid hG
          have lB := hB.lt
          clear hB hX hG
          by_cases hlt : j < P
          · have dB : ∀ w', Only (gblocks Gg Gab Gbs) wr w' → ∀ i, w'.cell? ⟨w.heap.size, i, none⟩ = (#[.int .i64 c.P, .int .i64 c.H, .int .i64 c.C, .int .i64 c.Mn, .int .i64 c.Mx, .int .i64 c.Rho, .int .i64 c.Bd, .int .i64 c.Win, .int .i64 c.St, .slice A c.rows.length cp, r] : Array Value)[i]? := fun w' hh i => (HB.out.onlyG hh HLG.out hlGB).cells i
            have HGc := Lib.hid (HG.out.below (Bdrew (Below.refl _ _) 1))
            go_wp2_with fail
            refine wp_region_held_drew (S := fun w' => Only (gblocks Gg Gab Gbs) wr w') (by kernel_rfl) ((Only.refl _ _).drew 1) (fun hHeld => ?_)
            refine takeD 0 (some 66) (v := ?_) rfl rfl (by kernel_rfl) (by kernel_rfl) (by kernel_rfl) (fun _ _ _ h => h) (by rfl) ?_ (by assumption) ?_
            rotate_left
            · intro w hSw
              (try dsimp only at hSw)
              go_simp
              try with_reducible rfl
            try simp only [Act.put, List.setIfInBounds_toArray, List.set_cons_zero, List.set_cons_succ]
            refine takeD 1 (some 67) (v := ?_) rfl rfl (by kernel_rfl) (by kernel_rfl) (by kernel_rfl) (fun _ _ _ h => h) (by rfl) ?_ (by assumption) ?_
            rotate_left
            · intro w hSw
              (try dsimp only at hSw)
              go_simp
              try with_reducible rfl
            try simp only [Act.put, List.setIfInBounds_toArray, List.set_cons_zero, List.set_cons_succ]
            refine takeD 2 (some 68) (v := ?_) rfl rfl (by kernel_rfl) (by kernel_rfl) (by kernel_rfl) (fun _ _ _ h => h) (by rfl) ?_ (by assumption) ?_
            rotate_left
            · intro w hSw
              (try dsimp only at hSw)
              go_simp
              try with_reducible rfl
            try simp only [Act.put, List.setIfInBounds_toArray, List.set_cons_zero, List.set_cons_succ]
            refine takeD 6 (some 72) (v := ?_) rfl rfl (by kernel_rfl) (by kernel_rfl) (by kernel_rfl) (fun _ _ _ h => h) (by rfl) ?_ (by assumption) ?_
            rotate_left
            · intro w hSw
              (try dsimp only at hSw)
              go_simp
              try with_reducible rfl
            try simp only [Act.put, List.setIfInBounds_toArray, List.set_cons_zero, List.set_cons_succ]
            refine wpAnyH_ready (rs := [3]) (by kernel_rfl) (by simp) ?_
            refine AllReadyH.cons rfl (fun K hK => ?_) AllReadyH.nil
            rw [if_pos (by rfl)]
            go_simp
            go_at_call 14
            refine (reasons_any _ c j _ ⟨_, _, rfl, HS.out.below (Only.below hb hb.size hHeld HLW.out)⟩ (by omega) (by rw [← HNN.out]; omega)).mono ?_
            rintro e w1 ⟨Ar, cr, rfl, hrow, hoff, hk⟩
            rw [← HNN.out] at hrow hoff
            try rw [← HNN.out]
            have HROW := Lib.hid hrow
            have HOFF := Lib.hid (hoff (gblocks Gg Gab Gbs) HGc.out.lt)
            have HGd := Lib.hid (HGc.out.below hk)
            have hS := hHeld.trans (Only.of_below (gblocks Gg Gab Gbs) hk)
            clear hrow hoff hk HGc
            have HGc := Lib.hid HGd.out
            clear HGd
            go_wp2_with fail
            refine hK.out _ _ ?_ (fun hHeld2 => ?_)
            · clear hK; exact hS
            clear hK K hHeld hS
            have hHeld := hHeld2
            clear hHeld2
            try simp only [Act.put, List.setIfInBounds_toArray, List.set_cons_zero, List.set_cons_succ]
            refine wpAnyH_ready (rs := [4]) (by kernel_rfl) (by simp) ?_
            refine AllReadyH.cons rfl (fun K hK => ?_) AllReadyH.nil
            rw [if_pos (by rfl)]
            go_simp
            go_at_call 16
            refine (gtell_any _ Gg Gab k cr Gbs (R1 j P n N k (x1, x2)) Ar (reasonsL N j) HGc.out (R1_ok _ _ _ _ _ _ (by omega)) HROW.out (by rw [reasonsL_len, HBG.out]) HOFF.out).mono ?_
            rintro e w1 ⟨cb, rfl, hcb, hcl, hg, ho⟩
            rw [R1_adv _ _ _ _ _ _ hlt hPk] at hg
            rw [HBG.out]
            have hS := hHeld.trans ho
            clear hcb hcl ho HGc
            have HGc := Lib.hid (show GridS w1 Gg Gab Gbs k (R1 (j + 1) P n N k (x1, x2)) from hg)
            clear hg HROW HOFF
            go_wp2_with fail
            refine hK.out _ _ ?_ (fun hHeld2 => ?_)
            · clear hK; exact hS
            clear hK K hHeld hS
            have hHeld := hHeld2
            clear hHeld2
            try simp only [Act.put, List.setIfInBounds_toArray, List.set_cons_zero, List.set_cons_succ]
            refine takeD 5 (some 71) (v := ?_) rfl rfl (by kernel_rfl) (by kernel_rfl) (by kernel_rfl) (fun _ _ _ h => h) (by rfl) ?_ (by assumption) ?_
            rotate_left
            · intro w hSw
              (try dsimp only at hSw)
              go_simp
              try with_reducible rfl
            try simp only [Act.put, List.setIfInBounds_toArray, List.set_cons_zero, List.set_cons_succ]
            refine wpAnyH_ready (rs := [7]) (by kernel_rfl) (by simp) ?_
            refine AllReadyH.cons rfl (fun K hK => ?_) AllReadyH.nil
            rw [if_pos (by rfl)]
            go_simp
            go_at_call 20
            refine (rmany_any _ c _ ⟨_, _, rfl, HS.out.below (Only.below hb hb.size hHeld HLW.out)⟩ (by rw [← HNN.out]; omega)).mono ?_
            rintro e w1 ⟨rfl, hk⟩
            rw [← HNN.out]
            have HGd := Lib.hid (HGc.out.below hk)
            have hS := hHeld.trans (Only.of_below (gblocks Gg Gab Gbs) hk)
            clear hk HGc
            have HGc := Lib.hid HGd.out
            clear HGd
            go_wp2_with fail
            refine hK.out _ _ ?_ (fun hHeld2 => ?_)
            · clear hK; exact hS
            clear hK K hHeld hS
            have hHeld := hHeld2
            clear hHeld2
            try simp only [Act.put, List.setIfInBounds_toArray, List.set_cons_zero, List.set_cons_succ]
            refine takeD 8 (some 74) (v := ?_) rfl rfl (by kernel_rfl) (by kernel_rfl) (by kernel_rfl) (fun _ _ _ h => h) (by rfl) ?_ (by assumption) ?_
            rotate_left
            · intro w hSw
              (try dsimp only at hSw)
              go_simp
              try with_reducible rfl
            try simp only [Act.put, List.setIfInBounds_toArray, List.set_cons_zero, List.set_cons_succ]
            refine wpAnyH_done (by kernel_rfl) ?_ _
            have hb' := Only.below hb hb.size hHeld HLW.out
            have HB' := Lib.hid (HB.out.onlyG hHeld HLG.out hlGB)
            have HX' := Lib.hid (HX.out.onlyG hHeld HLG.out hlGX)
            clear dB hHeld
            go_wp2
            go_roundw
            case rel => exact ⟨j + 1, by omega, by go_num, hb', HB'.out, HX'.out, HGc.out⟩
            case measure => simp [intOf]; omega
          · have he : j = P := by omega
            subst he
            have cB := HB.out.cells
            go_wp2_with fail
            refine (reasons_any _ c 0 _ ⟨_, _, rfl, HS.out.below hb⟩ (by omega) (by rw [← HNN.out]; omega)).mono ?_
            rintro e W5 ⟨Ar, cr, rfl, hrow, hoff, hk⟩
            rw [← HNN.out] at hrow hoff
            try rw [← HNN.out]
            have HROW := Lib.hid hrow
            have HOFF := Lib.hid (hoff (gblocks Gg Gab Gbs) HG.out.lt)
            have hb5 := Btrans hb hk
            have HB5 := Lib.hid (HB.out.below hk)
            have HX5 := Lib.hid (HX.out.below hk)
            have HG5 := Lib.hid (HG.out.below hk)
            clear hrow hoff hk HB HX HG cB hb
            go_wp2_with fail
            refine (gtell_any _ Gg Gab k cr Gbs (R1 j j n N k (x1, x2)) Ar (reasonsL N 0) HG5.out (R1_ok _ _ _ _ _ _ (by omega)) HROW.out (by rw [reasonsL_len, HBG.out]) HOFF.out).mono ?_
            rintro e W6 ⟨cb, rfl, hcb, hcl, hg, ho⟩
            rw [HBG.out]
            have hb6 := Only.below hb5 hb5.size ho HLW.out
            have HB6 := Lib.hid (HB5.out.onlyG ho HLG.out hlGB)
            have HX6 := Lib.hid (HX5.out.onlyG ho HLG.out hlGX)
            have hlc := hcb.lt
            have HC6 := Lib.hid hcb
            obtain ⟨q0, q1, q2⟩ := c3_at _ n _ (R1_tell j n N k (x1, x2) hnN hPk)
            have HQ0 := Lib.hid q0
            have HQ1 := Lib.hid q1
            have HQ2 := Lib.hid q2
            clear hcb hcl hg ho HB5 HX5 HG5 hb5 HROW HOFF q0 q1 q2
            have dB : ∀ w', Below W6.heap.size W6 w' → ∀ i, w'.cell? ⟨w.heap.size, i, none⟩ = (#[.int .i64 c.P, .int .i64 c.H, .int .i64 c.C, .int .i64 c.Mn, .int .i64 c.Mx, .int .i64 c.Rho, .int .i64 c.Bd, .int .i64 c.Win, .int .i64 c.St, .slice A c.rows.length cp, r] : Array Value)[i]? := fun w' hb i => (HB6.out.below hb).cells i
            have dX : ∀ w', Below W6.heap.size W6 w' → ∀ i, w'.cell? ⟨w.heap.size + 1, i, none⟩ = (#[.int .i64 x1, .int .i64 x2] : Array Value)[i]? := fun w' hb i => (HX6.out.below hb).cells i
            have dC0 : ∀ w', Below W6.heap.size W6 w' → w'.cell? ⟨cb, n * 3, none⟩ = some (.int .i64 1) := fun w' hb => by rw [(HC6.out.below hb).cells, List.getElem?_toArray, HQ0.out]
            have dC1 : ∀ w', Below W6.heap.size W6 w' → w'.cell? ⟨cb, n * 3 + 1, none⟩ = some (.int .i64 x1) := fun w' hb => by rw [(HC6.out.below hb).cells, List.getElem?_toArray, HQ1.out]
            have dC2 : ∀ w', Below W6.heap.size W6 w' → w'.cell? ⟨cb, n * 3 + 2, none⟩ = some (.int .i64 x2) := fun w' hb => by rw [(HC6.out.below hb).cells, List.getElem?_toArray, HQ2.out]
            have hge := guardC
            have heqC : ∀ w : World, (binOp .eql 51 (.agg #[.int .i64 1, .int .i64 x1, .int .i64 x2]) (.agg #[.int .i64 1, .int .i64 x1, .int .i64 x2])).run Try.prog w = .ok (.bool true) w := fun w => by rw [eqlC]; simp
            have hnNi : (n : Int) < (N : Int) := by omega
            go_wp2_with fail
            refine wp_region_held_drew (S := fun w' => Below W6.heap.size W6 w') (by kernel_rfl) (by go_grown) (fun hHeld => ?_)
            refine takeD 0 (some 79) (v := ?_) rfl rfl (by kernel_rfl) (by kernel_rfl) (by kernel_rfl) (fun _ _ _ h => h) (by rfl) ?_ (by assumption) ?_
            rotate_left
            · intro w hSw
              (try dsimp only at hSw)
              go_simp
              try with_reducible rfl
            try simp only [Act.put, List.setIfInBounds_toArray, List.set_cons_zero, List.set_cons_succ]
            refine takeD 1 (some 80) (v := ?_) rfl rfl (by kernel_rfl) (by kernel_rfl) (by kernel_rfl) (fun _ _ _ h => h) (by rfl) ?_ (by assumption) ?_
            rotate_left
            · intro w hSw
              (try dsimp only at hSw)
              go_simp
              try with_reducible rfl
            try simp only [Act.put, List.setIfInBounds_toArray, List.set_cons_zero, List.set_cons_succ]
            refine takeD 2 (some 81) (v := ?_) rfl rfl (by kernel_rfl) (by kernel_rfl) (by kernel_rfl) (fun _ _ _ h => h) (by rfl) ?_ (by assumption) ?_
            rotate_left
            · intro w hSw
              (try dsimp only at hSw)
              go_simp
              try with_reducible rfl
            try simp only [Act.put, List.setIfInBounds_toArray, List.set_cons_zero, List.set_cons_succ]
            refine takeD 3 (some 82) (v := ?_) rfl rfl (by kernel_rfl) (by kernel_rfl) (by kernel_rfl) (fun _ _ _ h => h) (by rfl) ?_ (by assumption) ?_
            rotate_left
            · intro w hSw
              (try dsimp only at hSw)
              go_simp
              try with_reducible rfl
            try simp only [Act.put, List.setIfInBounds_toArray, List.set_cons_zero, List.set_cons_succ]
            refine takeD 4 (some 83) (v := ?_) rfl rfl (by kernel_rfl) (by kernel_rfl) (by kernel_rfl) (fun _ _ _ h => h) (by rfl) ?_ (by assumption) ?_
            rotate_left
            · intro w hSw
              (try dsimp only at hSw)
              go_simp
              try with_reducible rfl
            try simp only [Act.put, List.setIfInBounds_toArray, List.set_cons_zero, List.set_cons_succ]
            refine wpAnyH_ready (rs := [5]) (by kernel_rfl) (by simp) ?_
            refine AllReadyH.cons rfl (fun K hK => ?_) AllReadyH.nil
            rw [if_pos (by rfl)]
            go_simp
            go_at_call 20
            refine (rmany_any _ c _ ⟨_, _, rfl, HS.out.below (hb6.trans (hHeld.mono hb6.size))⟩ (by rw [← HNN.out]; omega)).mono ?_
            rintro e w1 ⟨rfl, hk⟩
            rw [← HNN.out]
            go_wp2_with fail
            refine hK.out _ _ ?_ (fun hHeld2 => ?_)
            · first | exact hHeld.trans (hk.mono hHeld.size) | (clear hK; have hz := hHeld.size; go_grown)
            clear hK K hHeld
            have hHeld := hHeld2
            clear hHeld2
            try clear hk
            try simp only [Act.put, List.setIfInBounds_toArray, List.set_cons_zero, List.set_cons_succ]
            refine takeD 6 (some 85) (v := ?_) rfl rfl (by kernel_rfl) (by kernel_rfl) (by kernel_rfl) (fun _ _ _ h => h) (by rfl) ?_ (by assumption) ?_
            rotate_left
            · intro w hSw
              (try dsimp only at hSw)
              go_simp
              try with_reducible rfl
            try simp only [Act.put, List.setIfInBounds_toArray, List.set_cons_zero, List.set_cons_succ]
            refine takeD 7 (some 86) (v := ?_) rfl rfl (by kernel_rfl) (by kernel_rfl) (by kernel_rfl) (fun _ _ _ h => h) (by rfl) ?_ (by assumption) ?_
            rotate_left
            · intro w hSw
              (try dsimp only at hSw)
              go_simp
              try with_reducible rfl
            try simp only [Act.put, List.setIfInBounds_toArray, List.set_cons_zero, List.set_cons_succ]
            refine takeD 8 (some 87) (v := ?_) rfl rfl (by kernel_rfl) (by kernel_rfl) (by kernel_rfl) (fun _ _ _ h => h) (by rfl) ?_ (by assumption) ?_
            rotate_left
            · intro w hSw
              (try dsimp only at hSw)
              go_simp
              try with_reducible rfl
            try simp only [Act.put, List.setIfInBounds_toArray, List.set_cons_zero, List.set_cons_succ]
            refine takeD 9 (some 88) (v := ?_) rfl rfl (by kernel_rfl) (by kernel_rfl) (by kernel_rfl) (fun _ _ _ h => h) (by rfl) ?_ (by assumption) ?_
            rotate_left
            · intro w hSw
              (try dsimp only at hSw)
              go_simp
              try with_reducible rfl
            try simp only [Act.put, List.setIfInBounds_toArray, List.set_cons_zero, List.set_cons_succ]
            refine takeD 10 (some 89) (v := ?_) rfl rfl (by kernel_rfl) (by kernel_rfl) (by kernel_rfl) (fun _ _ _ h => h) (by rfl) ?_ (by assumption) ?_
            rotate_left
            · intro w hSw
              (try dsimp only at hSw)
              go_simp
              try with_reducible rfl
            try simp only [Act.put, List.setIfInBounds_toArray, List.set_cons_zero, List.set_cons_succ]
            refine takeD 11 (some 90) (v := ?_) rfl rfl (by kernel_rfl) (by kernel_rfl) (by kernel_rfl) (fun _ _ _ h => h) (by rfl) ?_ (by assumption) ?_
            rotate_left
            · intro w hSw
              (try dsimp only at hSw)
              go_simp
              try with_reducible rfl
            try simp only [Act.put, List.setIfInBounds_toArray, List.set_cons_zero, List.set_cons_succ]
            refine takeD 12 (some 91) (v := ?_) rfl rfl (by kernel_rfl) (by kernel_rfl) (by kernel_rfl) (fun _ _ _ h => h) (by rfl) ?_ (by assumption) ?_
            rotate_left
            · intro w hSw
              (try dsimp only at hSw)
              go_simp
              try with_reducible rfl
            try simp only [Act.put, List.setIfInBounds_toArray, List.set_cons_zero, List.set_cons_succ]
            refine takeD 13 (some 92) (v := ?_) rfl rfl (by kernel_rfl) (by kernel_rfl) (by kernel_rfl) (fun _ _ _ h => h) (by rfl) ?_ (by assumption) ?_
            rotate_left
            · intro w hSw
              (try dsimp only at hSw)
              go_simp
              try with_reducible rfl
            try simp only [Act.put, List.setIfInBounds_toArray, List.set_cons_zero, List.set_cons_succ]
            refine takeD 14 (some 93) (v := ?_) rfl rfl (by kernel_rfl) (by kernel_rfl) (by kernel_rfl) (fun _ _ _ h => h) (by rfl) ?_ (by assumption) ?_
            rotate_left
            · intro w hSw
              (try dsimp only at hSw)
              go_simp
              try with_reducible rfl
            try simp only [Act.put, List.setIfInBounds_toArray, List.set_cons_zero, List.set_cons_succ]
            refine takeD 15 (some 94) (v := ?_) rfl rfl (by kernel_rfl) (by kernel_rfl) (by kernel_rfl) (fun _ _ _ h => h) (by rfl) ?_ (by assumption) ?_
            rotate_left
            · intro w hSw
              (try dsimp only at hSw)
              go_simp
              try with_reducible rfl
            try simp only [Act.put, List.setIfInBounds_toArray, List.set_cons_zero, List.set_cons_succ]
            refine takeD 16 (some 95) (v := ?_) rfl rfl (by kernel_rfl) (by kernel_rfl) (by kernel_rfl) (fun _ _ _ h => h) (by rfl) ?_ (by assumption) ?_
            rotate_left
            · intro w hSw
              (try dsimp only at hSw)
              go_simp
              try with_reducible rfl
            try simp only [Act.put, List.setIfInBounds_toArray, List.set_cons_zero, List.set_cons_succ]
            refine takeD 17 (some 96) (v := ?_) rfl rfl (by kernel_rfl) (by kernel_rfl) (by kernel_rfl) (fun _ _ _ h => h) (by rfl) ?_ (by assumption) ?_
            rotate_left
            · intro w hSw
              (try dsimp only at hSw)
              go_simp
              try with_reducible rfl
            try simp only [Act.put, List.setIfInBounds_toArray, List.set_cons_zero, List.set_cons_succ]
            refine takeD 18 (some 97) (v := ?_) rfl rfl (by kernel_rfl) (by kernel_rfl) (by kernel_rfl) (fun _ _ _ h => h) (by rfl) ?_ (by assumption) ?_
            rotate_left
            · intro w hSw
              (try dsimp only at hSw)
              go_simp
              try with_reducible rfl
            try simp only [Act.put, List.setIfInBounds_toArray, List.set_cons_zero, List.set_cons_succ]
            refine takeD 19 (some 98) (v := ?_) rfl rfl (by kernel_rfl) (by kernel_rfl) (by kernel_rfl) (fun _ _ _ h => h) (by rfl) ?_ (by assumption) ?_
            rotate_left
            · intro w hSw
              (try dsimp only at hSw)
              go_simp
              try with_reducible rfl
            try simp only [Act.put, List.setIfInBounds_toArray, List.set_cons_zero, List.set_cons_succ]
            refine takeD 20 (some 10) (v := ?_) rfl rfl (by kernel_rfl) (by kernel_rfl) (by kernel_rfl) (fun _ _ _ h => h) (by rfl) ?_ (by assumption) ?_
            rotate_left
            · intro w hSw
              (try dsimp only at hSw)
              go_simp
              try with_reducible rfl
            try simp only [Act.put, List.setIfInBounds_toArray, List.set_cons_zero, List.set_cons_succ]
            refine wpAnyH_done (by kernel_rfl) ?_ _
            go_wp2
            go_ret
            exact ⟨by first | rfl | simp, hb6.trans (hHeld.mono hb6.size)⟩
end Go.Proofs.Ytoiaagdpckgpoaa
