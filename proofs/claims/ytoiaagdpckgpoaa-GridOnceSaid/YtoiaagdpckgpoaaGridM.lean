/- Layer 13: laws, walked: ticks that are told; the first of many. -/
import Derived.Test.YtoiaagdpckgpoaaGridL
import Derived.StillTailTactics
namespace Go.Proofs.Ytoiaagdpckgpoaa
open Go.ChangeShapes Go.WideShapes Go.ChangeAt Go.RowKit
set_option linter.unusedVariables false
set_option linter.unusedSimpArgs false

theorem Blk.onlyG {w w' : World} {g ab b : Nat} {bs : List (Nat × Nat)} {t : TypeId} {cs : Array Value} {lim : Nat} (h : Blk w b t cs) (k : Only (gblocks g ab bs) w w') (hl : ∀ x ∈ gblocks g ab bs, lim ≤ x) (hb : b < lim) : Blk w' b t cs :=
  h.only k (fun hm => by have := hl _ hm; omega)
set_option maxRecDepth 100000 in
set_option maxHeartbeats 4000000 in
theorem walk_GridWindow (v : Value) (c : Cf) (t ch p : Int) (w : World) (hc : IsConf w v c) (wc : (Lit.int .i64 c.P).wf = true ∧ (Lit.int .i64 c.H).wf = true ∧ (Lit.int .i64 c.C).wf = true ∧ (Lit.int .i64 c.Mn).wf = true ∧ (Lit.int .i64 c.Mx).wf = true ∧ (Lit.int .i64 c.Rho).wf = true ∧ (Lit.int .i64 c.Bd).wf = true ∧ (Lit.int .i64 c.Win).wf = true ∧ (Lit.int .i64 c.St).wf = true) (wr : ∀ r ∈ c.rows, ∀ z ∈ r, (Lit.int .i64 z).wf = true) (w0 : (Lit.int .u8 t).wf = true) (w1 : (Lit.int .i64 ch).wf = true) (w2 : (Lit.int .i16 p).wf = true) :
    Calls Try.prog 6 #[v, .int .u8 t, .int .i64 ch, .int .i16 p] w fun e w' => e = .returned (.bool true) ∧ Below w.heap.size w w' := by
  obtain ⟨s, r, rfl, hs⟩ := hc
  have HS := Lib.hid hs
  obtain ⟨A, cp, rfl, _, _, q⟩ := hs.src
  clear hs q wc wr
  have ht8 := bounds_u8 w0
  have hp16 := bounds_i16 w2
  have hc64 := bounds_i64 w1
  clear w0 w1 w2
  go_enter Try.func6, Try.ntmps6
  go_wp2_with fail
  refine calls_world (fun W1 => Below w.heap.size w W1 ∧ Blk W1 w.heap.size 25 #[.int .i64 c.P, .int .i64 c.H, .int .i64 c.C, .int .i64 c.Mn, .int .i64 c.Mx, .int .i64 c.Rho, .int .i64 c.Bd, .int .i64 c.Win, .int .i64 c.St, .slice A c.rows.length cp, r]) ⟨(by go_grown), (Blk.new _ _ _ _ (by first | rfl | simp))⟩ fun W1 ⟨hb1, qB⟩ => ?_
  have B1 := Lib.hid qB
  (try clear cB); (try clear lB); (try clear dB)
  clear qB
  refine (head_any _).mono ?_
  rintro e W2 ⟨rfl, hk⟩
  (try clear cB); (try clear lB); (try clear dB)
  have hb2 := Btrans hb1 hk
  have B2 := Lib.hid (B1.out.below hk)
  clear hk B1 hb1
  have cB := B2.out.cells
  have lB := B2.out.lt
  go_wp2_with fail
  refine (right_c _ c _ ⟨_, _, rfl, HS.out.below hb2⟩).mono ?_
  rintro e W3 ⟨rfl, hk⟩
  (try clear cB); (try clear lB); (try clear dB)
  have hb3 := Btrans hb2 hk
  have B3 := Lib.hid (B2.out.below hk)
  clear hk B2 hb2
  have cB := B3.out.cells
  have lB := B3.out.lt
  obtain ⟨ok, hok⟩ : ∃ b, b = (!greatB c.rows && confO c) := ⟨_, rfl⟩
  rw [← hok]
  cases ok with
  | false =>
    clear hok
    go_wp2
    go_ret
    exact ⟨by first | rfl | simp, hb3⟩
  | true =>
    obtain ⟨k, hC, hk1, hk64, hN0, hN⟩ := conf_facts hok.symm
    obtain ⟨N, hNN⟩ : ∃ N, N = (chansOf c.rows).length := ⟨_, rfl⟩
    rw [← hNN] at hN0 hN
    have HNN := Lib.hid hNN
    have HCK := Lib.hid hC
    clear hok hNN hC
    obtain ⟨T, hT⟩ : ∃ T : Nat, t % 40 = (T : Int) := ⟨(t % 40).toNat, by omega⟩
    have hT40 : T < 40 := by omega
    go_wp2_with fail
    refine (gnew_any _ c _ ⟨_, _, rfl, HS.out.below hb3⟩ k HCK.out (by omega) (by rw [← HNN.out]; omega)).mono ?_
    rintro e W4 ⟨Gg, Gab, Gbs, rfl, hbl, hg, hk, hlo⟩
    (try clear cB); (try clear lB); (try clear dB)
    have hzz := hb3.size
    rw [← HNN.out] at hbl hg
    have HLG := Lib.hid hlo
    have HBG := Lib.hid hbl
    have hlGB := B3.out.lt
    obtain ⟨limG, hlim⟩ : ∃ m, m = W3.heap.size := ⟨_, rfl⟩
    rw [← hlim] at HLG hzz hlGB
    clear hlim hlo hbl
    have hb4 := Btrans hb3 hk
    have B4 := Lib.hid (B3.out.below hk)
    clear hk B3 hb3
    have G4 := Lib.hid (show GridS W4 Gg Gab Gbs k (G0 0 N k) from hg)
    clear hg
    have cB := B4.out.cells
    have lB := B4.out.lt
    go_wp2_with fail
    have HLW := Lib.hid (show ∀ x ∈ gblocks Gg Gab Gbs, w.heap.size ≤ x from fun x hx => by have := HLG.out x hx; omega)
    try rw [hT]
    clear hT
    go_loopw [12] (fun i wr => ∃ j : Nat, j ≤ T ∧ i = .int .i64 j ∧ Below w.heap.size w wr ∧ Blk wr w.heap.size 25 #[.int .i64 c.P, .int .i64 c.H, .int .i64 c.C, .int .i64 c.Mn, .int .i64 c.Mx, .int .i64 c.Rho, .int .i64 c.Bd, .int .i64 c.Win, .int .i64 c.St, .slice A c.rows.length cp, r] ∧ GridS wr Gg Gab Gbs k (G0 j N k)) (fun i _ => T - (intOf i).toNat)
    case atStart => exact ⟨0, by omega, rfl, hb4, B4.out, G4.out⟩
    case round =>
      clear hb4 B4 G4 cB lB
      obtain ⟨j, hj, rfl, hb, hB, hG⟩ := hrel
      have HB := Lib.hid hB
      have HG := Lib.hid hG
      have lB := hB.lt
      clear hB hG
      by_cases hlt : j < T
      · have dB : ∀ w', Only (gblocks Gg Gab Gbs) wr w' → ∀ i, w'.cell? ⟨w.heap.size, i, none⟩ = (#[.int .i64 c.P, .int .i64 c.H, .int .i64 c.C, .int .i64 c.Mn, .int .i64 c.Mx, .int .i64 c.Rho, .int .i64 c.Bd, .int .i64 c.Win, .int .i64 c.St, .slice A c.rows.length cp, r] : Array Value)[i]? := fun w' hh i => (HB.out.onlyG hh HLG.out hlGB).cells i
        have HGc := Lib.hid (HG.out.below (Bdrew (Below.refl _ _) 1))
        go_wp2_with fail
        refine wp_region_held_drew (S := fun w' => Only (gblocks Gg Gab Gbs) wr w') (by kernel_rfl) ((Only.refl _ _).drew 1) (fun hHeld => ?_)
        refine takeD 0 (some 29) (v := ?_) rfl rfl (by kernel_rfl) (by kernel_rfl) (by kernel_rfl) (fun _ _ _ h => h) (by rfl) ?_ (by assumption) ?_
        rotate_left
        · intro w hSw
          (try dsimp only at hSw)
          go_simp
          try with_reducible rfl
        try simp only [Act.put, List.setIfInBounds_toArray, List.set_cons_zero, List.set_cons_succ]
        refine takeD 1 (some 30) (v := ?_) rfl rfl (by kernel_rfl) (by kernel_rfl) (by kernel_rfl) (fun _ _ _ h => h) (by rfl) ?_ (by assumption) ?_
        rotate_left
        · intro w hSw
          (try dsimp only at hSw)
          go_simp
          try with_reducible rfl
        try simp only [Act.put, List.setIfInBounds_toArray, List.set_cons_zero, List.set_cons_succ]
        refine takeD 2 (some 31) (v := ?_) rfl rfl (by kernel_rfl) (by kernel_rfl) (by kernel_rfl) (fun _ _ _ h => h) (by rfl) ?_ (by assumption) ?_
        rotate_left
        · intro w hSw
          (try dsimp only at hSw)
          go_simp
          try with_reducible rfl
        try simp only [Act.put, List.setIfInBounds_toArray, List.set_cons_zero, List.set_cons_succ]
        refine takeD 6 (some 35) (v := ?_) rfl rfl (by kernel_rfl) (by kernel_rfl) (by kernel_rfl) (fun _ _ _ h => h) (by rfl) ?_ (by assumption) ?_
        rotate_left
        · intro w hSw
          (try dsimp only at hSw)
          go_simp
          try with_reducible rfl
        try simp only [Act.put, List.setIfInBounds_toArray, List.set_cons_zero, List.set_cons_succ]
        refine wpAnyH_ready (rs := [3]) (by kernel_rfl) (by simp) ?_
        refine AllReadyH.cons rfl (fun K hK => ?_) AllReadyH.nil
        rw [if_pos (by rfl)]
        go_simp
        go_at_call 14
        refine (reasons_any _ c j _ ⟨_, _, rfl, HS.out.below (Only.below hb hb.size hHeld HLW.out)⟩ (by omega) (by rw [← HNN.out]; omega)).mono ?_
        rintro e w1 ⟨Ar, cr, rfl, hrow, hoff, hk⟩
        rw [← HNN.out] at hrow hoff
        try rw [← HNN.out]
        have HROW := Lib.hid hrow
        have HOFF := Lib.hid (hoff (gblocks Gg Gab Gbs) HGc.out.lt)
        have HGd := Lib.hid (HGc.out.below hk)
        have hS := hHeld.trans (Only.of_below (gblocks Gg Gab Gbs) hk)
        clear hrow hoff hk HGc
        have HGc := Lib.hid HGd.out
        clear HGd
        go_wp2_with fail
        refine hK.out _ _ ?_ (fun hHeld2 => ?_)
        · clear hK; exact hS
        clear hK K hHeld hS
        have hHeld := hHeld2
        clear hHeld2
        try simp only [Act.put, List.setIfInBounds_toArray, List.set_cons_zero, List.set_cons_succ]
        refine wpAnyH_ready (rs := [4]) (by kernel_rfl) (by simp) ?_
        refine AllReadyH.cons rfl (fun K hK => ?_) AllReadyH.nil
        rw [if_pos (by rfl)]
        go_simp
        go_at_call 16
        refine (gtell_any _ Gg Gab k cr Gbs (G0 j N k) Ar (reasonsL N j) HGc.out (G0_ok _ _ _ (by omega)) HROW.out (by rw [reasonsL_len, HBG.out]) HOFF.out).mono ?_
        rintro e w1 ⟨cb, rfl, hcb, hcl, hg, ho⟩
        rw [G0_adv _ _ _ (by omega)] at hg
        rw [HBG.out]
        have hS := hHeld.trans ho
        clear hcb hcl ho HGc
        have HGc := Lib.hid (show GridS w1 Gg Gab Gbs k (G0 (j + 1) N k) from hg)
        clear hg HROW HOFF
        go_wp2_with fail
        refine hK.out _ _ ?_ (fun hHeld2 => ?_)
        · clear hK; exact hS
        clear hK K hHeld hS
        have hHeld := hHeld2
        clear hHeld2
        try simp only [Act.put, List.setIfInBounds_toArray, List.set_cons_zero, List.set_cons_succ]
        refine takeD 5 (some 34) (v := ?_) rfl rfl (by kernel_rfl) (by kernel_rfl) (by kernel_rfl) (fun _ _ _ h => h) (by rfl) ?_ (by assumption) ?_
        rotate_left
        · intro w hSw
          (try dsimp only at hSw)
          go_simp
          try with_reducible rfl
        try simp only [Act.put, List.setIfInBounds_toArray, List.set_cons_zero, List.set_cons_succ]
        refine wpAnyH_ready (rs := [7]) (by kernel_rfl) (by simp) ?_
        refine AllReadyH.cons rfl (fun K hK => ?_) AllReadyH.nil
        rw [if_pos (by rfl)]
        go_simp
        go_at_call 20
        refine (rmany_any _ c _ ⟨_, _, rfl, HS.out.below (Only.below hb hb.size hHeld HLW.out)⟩ (by rw [← HNN.out]; omega)).mono ?_
        rintro e w1 ⟨rfl, hk⟩
        rw [← HNN.out]
        have HGd := Lib.hid (HGc.out.below hk)
        have hS := hHeld.trans (Only.of_below (gblocks Gg Gab Gbs) hk)
        clear hk HGc
        have HGc := Lib.hid HGd.out
        clear HGd
        go_wp2_with fail
        refine hK.out _ _ ?_ (fun hHeld2 => ?_)
        · clear hK; exact hS
        clear hK K hHeld hS
        have hHeld := hHeld2
        clear hHeld2
        try simp only [Act.put, List.setIfInBounds_toArray, List.set_cons_zero, List.set_cons_succ]
        refine takeD 8 (some 37) (v := ?_) rfl rfl (by kernel_rfl) (by kernel_rfl) (by kernel_rfl) (fun _ _ _ h => h) (by rfl) ?_ (by assumption) ?_
        rotate_left
        · intro w hSw
          (try dsimp only at hSw)
          go_simp
          try with_reducible rfl
        try simp only [Act.put, List.setIfInBounds_toArray, List.set_cons_zero, List.set_cons_succ]
        refine wpAnyH_done (by kernel_rfl) ?_ _
        have hb' := Only.below hb hb.size hHeld HLW.out
        have HB' := Lib.hid (HB.out.onlyG hHeld HLG.out hlGB)
        clear dB hHeld
        go_wp2
        go_roundw
        case rel => exact ⟨j + 1, by omega, by go_num, hb', HB'.out, HGc.out⟩
        case measure => simp [intOf]; omega
      · have he : j = T := by omega
        subst he
        have cB := HB.out.cells
        have hsum : IntKind.i64.wrap ((j : Int) + p) = (j : Int) + p := IntWalk.i64_in _ (by omega)
        go_wp2_with fail
        refine (gput_any _ Gg Gab k Gbs (G0 j N k) ch ((j : Int) + p) (1, 0) HG.out (by omega)).mono ?_
        rintro e W5 ⟨rfl, hg5, ho5⟩
        have hb5 := Only.below hb hb.size ho5 HLW.out
        have HB5 := Lib.hid (HB.out.onlyG ho5 HLG.out hlGB)
        have HF5 := Lib.hid (gfirst_from _ j (gputR_from k (G0 j N k) ch ((j : Int) + p) (1, 0) j (fun r hr => by rw [List.eq_of_mem_replicate hr])) (by rw [gputR_len, G0_len]; omega))
        have HG5 := Lib.hid hg5
        clear hg5 ho5 HG HB cB hsum
        have cB := HB5.out.cells
        have lB := HB5.out.lt
        by_cases h1 : ch < 0
        · have f1 : decide (ch < 0) = true := decide_eq_true h1
          rw [gputC_out k (G0 j N k) ch _ (.inl h1)]
          go_wp2_with fail
          refine (gfirst_any _ Gg Gab k Gbs _ HG5.out (by rw [HBG.out]; omega)).mono ?_
          rintro e W6 ⟨rfl, hk⟩
          rw [HF5.out]
          clear cB lB
          go_wp2
          go_ret
          exact ⟨by first | rfl | simp, Btrans hb5 hk⟩
        have f1 : decide (ch < 0) = false := decide_eq_false h1
        by_cases h2 : (N : Int) ≤ ch
        · have f2 : decide (ch ≥ (N : Int)) = true := decide_eq_true h2
          rw [gputC_out k (G0 j N k) ch _ (.inr (by rw [G0_len]; exact h2))]
          go_wp2_with fail
          refine (rmany_any _ c _ ⟨_, _, rfl, HS.out.below hb5⟩ (by rw [← HNN.out]; omega)).mono ?_
          rintro e W6 ⟨rfl, hk⟩
          rw [← HNN.out]
          have hb6 := Btrans hb5 hk
          have HG6 := Lib.hid (HG5.out.below hk)
          clear cB lB hk HG5
          go_wp2_with fail
          refine (gfirst_any _ Gg Gab k Gbs _ HG6.out (by rw [HBG.out]; omega)).mono ?_
          rintro e W7 ⟨rfl, hk⟩
          rw [HF5.out]
          go_wp2
          go_ret
          exact ⟨by first | rfl | simp, Btrans hb6 hk⟩
        have f2 : decide (ch ≥ (N : Int)) = false := decide_eq_false (by omega)
        obtain ⟨i, rfl⟩ : ∃ i : Nat, ch = (i : Int) := ⟨ch.toNat, by omega⟩
        rw [gputC_in k (G0 j N k) i _ _ (G0_at j N k i (by omega)), putC_rep j k p (by omega)]
        by_cases h3 : p < 0
        · have f3 : decide (p < 0) = true := decide_eq_true h3
          rw [if_pos h3]
          go_wp2_with fail
          refine (rmany_any _ c _ ⟨_, _, rfl, HS.out.below hb5⟩ (by rw [← HNN.out]; omega)).mono ?_
          rintro e W6 ⟨rfl, hk⟩
          rw [← HNN.out]
          have hb6 := Btrans hb5 hk
          have HG6 := Lib.hid (HG5.out.below hk)
          have HB6 := Lib.hid (HB5.out.below hk)
          clear cB lB hk HG5 HB5
          go_wp2_with fail
          refine (gfirst_any _ Gg Gab k Gbs _ HG6.out (by rw [HBG.out]; omega)).mono ?_
          rintro e W7 ⟨rfl, hk⟩
          rw [HF5.out]
          have cB := (HB6.out.below hk).cells
          go_wp2
          go_ret
          exact ⟨by first | rfl | simp, Btrans hb6 hk⟩
        have h3a := h3
        clear h3
        by_cases h3 : (k : Int) ≤ p
        · have f3 : decide (p < 0) = false := decide_eq_false (by omega)
          have f4 : decide (p ≥ 0) = true := decide_eq_true (by omega)
          have f5 : decide (p < c.C) = false := decide_eq_false (by rw [HCK.out]; omega)
          have f6 : decide (p ≥ c.C) = true := decide_eq_true (by rw [HCK.out]; omega)
          rw [if_neg h3a, if_pos h3]
          go_wp2_with fail
          refine (rmany_any _ c _ ⟨_, _, rfl, HS.out.below hb5⟩ (by rw [← HNN.out]; omega)).mono ?_
          rintro e W6 ⟨rfl, hk⟩
          rw [← HNN.out]
          have hb6 := Btrans hb5 hk
          have HG6 := Lib.hid (HG5.out.below hk)
          have HB6 := Lib.hid (HB5.out.below hk)
          clear cB lB hk HG5 HB5
          go_wp2_with fail
          refine (gfirst_any _ Gg Gab k Gbs _ HG6.out (by rw [HBG.out]; omega)).mono ?_
          rintro e W7 ⟨rfl, hk⟩
          rw [HF5.out]
          have cB := (HB6.out.below hk).cells
          go_wp2
          go_ret
          exact ⟨by first | rfl | simp, Btrans hb6 hk⟩
        have h3b := h3
        clear h3
        have f3 : decide (p < 0) = false := decide_eq_false (by omega)
        have f4 : decide (p ≥ 0) = true := decide_eq_true (by omega)
        have f5 : decide (p < c.C) = true := decide_eq_true (by rw [HCK.out]; omega)
        rw [if_neg h3a, if_neg h3b]
        go_wp2_with fail
        refine (rmany_any _ c _ ⟨_, _, rfl, HS.out.below hb5⟩ (by rw [← HNN.out]; omega)).mono ?_
        rintro e W6 ⟨rfl, hk⟩
        rw [← HNN.out]
        have hb6 := Btrans hb5 hk
        have HG6 := Lib.hid (HG5.out.below hk)
        have HB6 := Lib.hid (HB5.out.below hk)
        clear cB lB hk HG5 HB5
        go_wp2_with fail
        refine (gfirst_any _ Gg Gab k Gbs _ HG6.out (by rw [HBG.out]; omega)).mono ?_
        rintro e W7 ⟨rfl, hk⟩
        rw [HF5.out]
        have cB := (HB6.out.below hk).cells
        go_wp2
        go_ret
        exact ⟨by first | rfl | simp, Btrans hb6 hk⟩
end Go.Proofs.Ytoiaagdpckgpoaa
