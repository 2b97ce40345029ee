/- Layer 23: the law RenderApart. -/
import Derived.Test.YtaelhgkodcgmnaaDoorRendAM
import Derived.Handy
import Derived.IntWalk
namespace Go.Proofs.YtaelhgkodcgmnaaDoor
open Go.ChangeShapes Go.WideShapes Go.ChangeAt Go.RowKit Go.Deep
open Go.Shelf
set_option linter.unusedVariables false
set_option linter.unusedSimpArgs false

theorem cmp_lines {t u : Td} (ht : tdR t) (hu : tdR u) (h6 : td64 t) (h7 : td64 u) : ((strB (lineR t)).toList == (strB (lineR u)).toList) = decide (t = u) := by
  rw [toList_data, toList_data, strB_data, strB_data]
  by_cases h : t = u
  · subst h
    rw [decide_eq_true rfl]
    exact beq_self_eq_true _
  · rw [decide_eq_false h, beq_eq_false_iff_ne]
    exact fun e => h (line_inj ht hu h6 h7 e)
set_option maxRecDepth 100000 in
set_option maxHeartbeats 8000000 in
theorem walk_RenderApart (v : Value) (t : Td) (v2 : Value) (u : Td) (w : World) (hE : Env w) (h0 : ToldV w v t ∧ td64 t) (h1 : ToldV w v2 u ∧ td64 u) :
    Calls Tryd.prog 6 #[v, v2] w fun e w' => e = .returned (.bool true) ∧ Below w.heap.size w w' := by
  obtain ⟨hT, h6⟩ := h0
  obtain ⟨hU, h7⟩ := h1
  obtain ⟨CA, cc, RA, rc, HA, hc, rfl⟩ := hT.shape
  obtain ⟨CAu, ccu, RAu, rcu, HAu, hcu, rfl⟩ := hU.shape
  have HT := Lib.hid hT
  have HU := Lib.hid hU
  have HE := Lib.hid hE
  have H6 := Lib.hid h6
  have H7 := Lib.hid h7
  clear hT hU hE h6 h7
  go_enter Tryd.func6, Tryd.ntmps6
  go_wp2_with fail
  go_at_call 9
  refine calls_world (fun W => Below w.heap.size w W ∧ Blk W w.heap.size 25 #[.int .i64 t.tick, .slice CA t.cells.length cc, .slice RA t.rules.length rc, .slice HA t.chans.length hc] ∧ Blk W (w.heap.size + 1) 25 #[.int .i64 u.tick, .slice CAu u.cells.length ccu, .slice RAu u.rules.length rcu, .slice HAu u.chans.length hcu]) ⟨by go_grown, (Blk.new _ _ _ _ rfl).al _, Blk.new _ _ _ _ (by simp)⟩ fun W0 ⟨hb, hq, hp⟩ => ?_
  refine (head_any _ (HE.out.below hb)).mono ?_
  rintro e W1 ⟨rfl, hk⟩
  have HB1 := Lib.hid (Btrans hb hk)
  have HQ1 := Lib.hid (hq.below hk)
  have HP1 := Lib.hid (hp.below hk)
  clear hb hq hp hk
  have cQ := HQ1.out.cells
  have lQ := HQ1.out.lt
  have cP := HP1.out.cells
  have lP := HP1.out.lt
  go_wp2_with fail
  go_at_call 10
  refine (great_any _ t _ (HT.out.below HB1.out)).mono ?_
  rintro e W2 ⟨rfl, hk⟩
  have HB2 := Lib.hid (Btrans HB1.out hk)
  have HQ2 := Lib.hid (HQ1.out.below hk)
  have HP2 := Lib.hid (HP1.out.below hk)
  clear hk cQ lQ cP lP HB1 HQ1 HP1
  by_cases hs : smallT t
  · rw [great_no hs]
    have HS := Lib.hid hs
    clear hs
    have cQ := HQ2.out.cells
    have lQ := HQ2.out.lt
    have cP := HP2.out.cells
    have lP := HP2.out.lt
    go_wp2_with fail
    go_at_call 10
    refine (great_any _ u _ (HU.out.below HB2.out)).mono ?_
    rintro e W3 ⟨rfl, hk⟩
    have HB3 := Lib.hid (Btrans HB2.out hk)
    have HQ3 := Lib.hid (HQ2.out.below hk)
    have HP3 := Lib.hid (HP2.out.below hk)
    clear hk cQ lQ cP lP HB2 HQ2 HP2
    by_cases hs : smallT u
    · rw [great_no hs]
      have HSU := Lib.hid hs
      clear hs
      have cQ := HQ3.out.cells
      have lQ := HQ3.out.lt
      have cP := HP3.out.cells
      have lP := HP3.out.lt
      go_wp2_with fail
      go_at_call 13
      refine (right_any _ t _ (HT.out.below HB3.out)).mono ?_
      rintro e W4 ⟨rfl, hk⟩
      have HB4 := Lib.hid (Btrans HB3.out hk)
      have HQ4 := Lib.hid (HQ3.out.below hk)
      have HP4 := Lib.hid (HP3.out.below hk)
      clear hk cQ lQ cP lP HB3 HQ3 HP3
      by_cases hr : tdR t
      · rw [decide_eq_true hr]
        have HR := Lib.hid hr
        clear hr
        have cQ := HQ4.out.cells
        have lQ := HQ4.out.lt
        have cP := HP4.out.cells
        have lP := HP4.out.lt
        go_wp2_with fail
        go_at_call 13
        refine (right_any _ u _ (HU.out.below HB4.out)).mono ?_
        rintro e W5 ⟨rfl, hk⟩
        have HB5 := Lib.hid (Btrans HB4.out hk)
        have HQ5 := Lib.hid (HQ4.out.below hk)
        have HP5 := Lib.hid (HP4.out.below hk)
        clear hk cQ lQ cP lP HB4 HQ4 HP4
        by_cases hr : tdR u
        · rw [decide_eq_true hr]
          have HRU := Lib.hid hr
          clear hr
          go_wp2_with fail
          have d1 : ∀ V, Below W5.heap.size W5 V → ∀ i, V.cell? ⟨w.heap.size, i, none⟩ = (#[.int .i64 t.tick, .slice CA t.cells.length cc, .slice RA t.rules.length rc, .slice HA t.chans.length hc] : Array Value)[i]? := fun V hV => (HQ5.out.below hV).cells
          have d2 : ∀ V, Below W5.heap.size W5 V → ∀ i, V.cell? ⟨w.heap.size + 1, i, none⟩ = (#[.int .i64 u.tick, .slice CAu u.cells.length ccu, .slice RAu u.rules.length rcu, .slice HAu u.chans.length hcu] : Array Value)[i]? := fun V hV => (HP5.out.below hV).cells
          obtain ⟨b, hb⟩ : ∃ b, b = decide (t = u) := ⟨_, rfl⟩
          have hcmp := cmp_lines HR.out HRU.out H6.out H7.out
          rw [← hb] at hcmp
          have HBQ := Lib.hid hb
          clear hb
          refine wp_region_held_drew (S := fun V => Below W5.heap.size W5 V) (by kernel_rfl) (by exact below_drew1 _) (fun hHeld => ?_)
          refine takeD 0 (some 24) (v := ?_) rfl rfl (by kernel_rfl) (by kernel_rfl) (by kernel_rfl) (fun _ _ _ h => h) (by rfl) ?_ (by assumption) ?_
          rotate_left
          · intro w hSw
            (try dsimp only at hSw)
            go_simp
            try with_reducible rfl
          try simp only [Act.put, List.setIfInBounds_toArray, List.set_cons_zero, List.set_cons_succ]
          refine takeD 1 (some 25) (v := ?_) rfl rfl (by kernel_rfl) (by kernel_rfl) (by kernel_rfl) (fun _ _ _ h => h) (by rfl) ?_ (by assumption) ?_
          rotate_left
          · intro w hSw
            (try dsimp only at hSw)
            go_simp
            try with_reducible rfl
          try simp only [Act.put, List.setIfInBounds_toArray, List.set_cons_zero, List.set_cons_succ]
          refine takeD 2 (some 26) (v := ?_) rfl rfl (by kernel_rfl) (by kernel_rfl) (by kernel_rfl) (fun _ _ _ h => h) (by rfl) ?_ (by assumption) ?_
          rotate_left
          · intro w hSw
            (try dsimp only at hSw)
            go_simp
            try with_reducible rfl
          try simp only [Act.put, List.setIfInBounds_toArray, List.set_cons_zero, List.set_cons_succ]
          refine takeD 4 (some 28) (v := ?_) rfl rfl (by kernel_rfl) (by kernel_rfl) (by kernel_rfl) (fun _ _ _ h => h) (by rfl) ?_ (by assumption) ?_
          rotate_left
          · intro w hSw
            (try dsimp only at hSw)
            go_simp
            try with_reducible rfl
          try simp only [Act.put, List.setIfInBounds_toArray, List.set_cons_zero, List.set_cons_succ]
          refine takeD 7 (some 31) (v := ?_) rfl rfl (by kernel_rfl) (by kernel_rfl) (by kernel_rfl) (fun _ _ _ h => h) (by rfl) ?_ (by assumption) ?_
          rotate_left
          · intro w hSw
            (try dsimp only at hSw)
            go_simp
            try with_reducible rfl
          try simp only [Act.put, List.setIfInBounds_toArray, List.set_cons_zero, List.set_cons_succ]
          refine takeD 8 (some 32) (v := ?_) rfl rfl (by kernel_rfl) (by kernel_rfl) (by kernel_rfl) (fun _ _ _ h => h) (by rfl) ?_ (by assumption) ?_
          rotate_left
          · intro w hSw
            (try dsimp only at hSw)
            go_simp
            try with_reducible rfl
          try simp only [Act.put, List.setIfInBounds_toArray, List.set_cons_zero, List.set_cons_succ]
          refine wpAnyH_ready (rs := [3]) (by kernel_rfl) (by simp) ?_
          refine AllReadyH.cons rfl (fun K hK => ?_) AllReadyH.nil
          rw [if_pos (by rfl)]
          go_simp
          go_at_call 15
          refine (line_any _ t _ ((HT.out.below HB5.out).below hHeld) H6.out ((HE.out.below HB5.out).below hHeld) (small_sz HS.out)).mono ?_
          rintro e V1 ⟨rfl, hk⟩
          have hS := Btrans hHeld hk
          clear hk
          go_simp
          refine hK.out _ _ ?_ (fun hHeld2 => ?_)
          · clear hK; exact hS
          clear hK K hHeld hS
          have hHeld := hHeld2
          clear hHeld2
          try simp only [Act.put, List.setIfInBounds_toArray, List.set_cons_zero, List.set_cons_succ]
          refine wpAnyH_ready (rs := [5]) (by kernel_rfl) (by simp) ?_
          refine AllReadyH.cons rfl (fun K hK => ?_) AllReadyH.nil
          rw [if_pos (by rfl)]
          go_simp
          go_at_call 15
          refine (line_any _ u _ ((HU.out.below HB5.out).below hHeld) H7.out ((HE.out.below HB5.out).below hHeld) (small_sz HSU.out)).mono ?_
          rintro e V2 ⟨rfl, hk⟩
          have hS := Btrans hHeld hk
          clear hk
          go_simp
          refine hK.out _ _ ?_ (fun hHeld2 => ?_)
          · clear hK; exact hS
          clear hK K hHeld hS
          have hHeld := hHeld2
          clear hHeld2
          try simp only [Act.put, List.setIfInBounds_toArray, List.set_cons_zero, List.set_cons_succ]
          refine takeD 6 (some 30) (v := ?_) rfl rfl (by kernel_rfl) (by kernel_rfl) (by kernel_rfl) (fun _ _ _ h => h) (by rfl) ?_ (by assumption) ?_
          rotate_left
          · intro w hSw
            (try dsimp only at hSw)
            go_simp
            try with_reducible rfl
          try simp only [Act.put, List.setIfInBounds_toArray, List.set_cons_zero, List.set_cons_succ]
          refine wpAnyH_ready (rs := [9]) (by kernel_rfl) (by simp) ?_
          refine AllReadyH.cons rfl (fun K hK => ?_) AllReadyH.nil
          rw [if_pos (by rfl)]
          go_simp
          go_at_call 17
          refine (sameT_any _ _ t u _ ((HT.out.below HB5.out).below hHeld) ((HU.out.below HB5.out).below hHeld)).mono ?_
          rintro e V3 ⟨rfl, hk⟩
          rw [← HBQ.out]
          have hS := Btrans hHeld hk
          clear hk
          go_simp
          refine hK.out _ _ ?_ (fun hHeld2 => ?_)
          · clear hK; exact hS
          clear hK K hHeld hS
          have hHeld := hHeld2
          clear hHeld2
          try simp only [Act.put, List.setIfInBounds_toArray, List.set_cons_zero, List.set_cons_succ]
          refine takeD 10 (some 34) (v := ?_) rfl rfl (by kernel_rfl) (by kernel_rfl) (by kernel_rfl) (fun _ _ _ h => h) (by rfl) ?_ (by assumption) ?_
          rotate_left
          · intro w hSw
            (try dsimp only at hSw)
            go_simp
            try with_reducible rfl
          try simp only [Act.put, List.setIfInBounds_toArray, List.set_cons_zero, List.set_cons_succ]
          refine takeD 11 (some 35) (v := ?_) rfl rfl (by kernel_rfl) (by kernel_rfl) (by kernel_rfl) (fun _ _ _ h => h) (by rfl) ?_ (by assumption) ?_
          rotate_left
          · intro w hSw
            (try dsimp only at hSw)
            go_simp
            try with_reducible rfl
          try simp only [Act.put, List.setIfInBounds_toArray, List.set_cons_zero, List.set_cons_succ]
          refine takeD 12 (some 4) (v := ?_) rfl rfl (by kernel_rfl) (by kernel_rfl) (by kernel_rfl) (fun _ _ _ h => h) (by rfl) ?_ (by assumption) ?_
          rotate_left
          · intro w hSw
            (try dsimp only at hSw)
            go_simp
            try with_reducible rfl
          try simp only [Act.put, List.setIfInBounds_toArray, List.set_cons_zero, List.set_cons_succ]
          refine wpAnyH_done (by kernel_rfl) ?_ _
          have HF := Lib.hid hHeld
          clear hHeld d1 d2
          go_wp2_with fail
          go_ret
          exact ⟨by first | rfl | simp, HB5.out.trans (HF.out.mono HB5.out.size)⟩
        · rw [decide_eq_false hr]
          clear hr
          go_wp2
          go_ret
          exact ⟨by rfl, HB5.out⟩
      · rw [decide_eq_false hr]
        clear hr
        go_wp2
        go_ret
        exact ⟨by rfl, HB4.out⟩
    · rw [great_yes hs]
      clear hs
      go_wp2
      go_ret
      exact ⟨by rfl, HB3.out⟩
  · rw [great_yes hs]
    clear hs
    go_wp2
    go_ret
    exact ⟨by rfl, HB2.out⟩
end Go.Proofs.YtaelhgkodcgmnaaDoor
