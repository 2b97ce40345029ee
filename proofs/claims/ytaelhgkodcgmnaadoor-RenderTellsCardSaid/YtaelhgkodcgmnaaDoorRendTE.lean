/- Layer 23: the law RenderTells. -/
import Derived.Test.YtaelhgkodcgmnaaDoorRendAM
import Derived.Handy
import Derived.IntWalk
namespace Go.Proofs.YtaelhgkodcgmnaaDoor
open Go.ChangeShapes Go.WideShapes Go.ChangeAt Go.RowKit Go.Deep
open Go.Shelf
set_option linter.unusedVariables false
set_option linter.unusedSimpArgs false

theorem ReadQ.val {w : World} {s : Str} {e : Ending} (h : ReadQ w s e) : ∃ v, e = .returned (.tuple #[v, .bool (readR s).isSome]) ∧ ToldV w v ((readR s).getD Td.zero) := by
  obtain ⟨v, u, o, rfl, hv, ⟨rfl, h2⟩ | ⟨rfl, h2, h3⟩⟩ := h
  · rw [h2]
    exact ⟨v, rfl, hv⟩
  · rw [h2]
    subst h3
    exact ⟨v, rfl, hv⟩
set_option maxRecDepth 100000 in
set_option maxHeartbeats 8000000 in
theorem walk_RenderTells (v : Value) (t : Td) (s : ByteArray) (v2 : Value) (l : List TdV) (w : World) (hE : Env w) (h0 : ToldV w v t ∧ td64 t) (w1 : s.size ≤ maxLen) (hL : TRow w v2 l) :
    Calls Tryd.prog 3 #[v, .string s, v2] w fun e w' => e = .returned (.bool true) ∧ Below w.heap.size w w' := by
  obtain ⟨hT, h6⟩ := h0
  obtain ⟨CA, cc, RA, rc, HA, hc, rfl⟩ := hT.shape
  obtain ⟨A, c, rfl⟩ := hL.1
  have HT := Lib.hid hT
  have HL := Lib.hid hL
  have HE := Lib.hid hE
  have H6 := Lib.hid h6
  clear hT hE h6 w1 hL
  go_enter Tryd.func3, Tryd.ntmps3
  go_wp2_with fail
  go_at_call 9
  refine calls_world (fun W => Below w.heap.size w W ∧ Blk W w.heap.size 25 #[.int .i64 t.tick, .slice CA t.cells.length cc, .slice RA t.rules.length rc, .slice HA t.chans.length hc]) ⟨by go_grown, Blk.new _ _ _ _ rfl⟩ fun W0 ⟨hb, hq⟩ => ?_
  refine (head_any _ (HE.out.below hb)).mono ?_
  rintro e W1 ⟨rfl, hk⟩
  have HB1 := Lib.hid (Btrans hb hk)
  have HQ1 := Lib.hid (hq.below hk)
  clear hb hq hk
  have cQ := HQ1.out.cells
  have lQ := HQ1.out.lt
  go_wp2_with fail
  go_at_call 10
  refine (great_any _ t _ (HT.out.below HB1.out)).mono ?_
  rintro e W2 ⟨rfl, hk⟩
  have HB2 := Lib.hid (Btrans HB1.out hk)
  have HQ2 := Lib.hid (HQ1.out.below hk)
  clear hk cQ lQ HB1 HQ1
  by_cases hs : smallT t
  · rw [great_no hs]
    have HS := Lib.hid hs
    clear hs
    by_cases hz : (2000 : Int) < (s.size : Int)
    · go_wp2
      go_ret
      exact ⟨by rfl, HB2.out⟩
    by_cases hn : (30 : Int) < (l.length : Int)
    · go_wp2
      go_ret
      exact ⟨by rfl, HB2.out⟩
    go_wp2_with fail
    go_loopw [8] (fun i wr => ∃ k : Nat, k ≤ l.length ∧ i = .int .i64 k ∧ Below W2.heap.size W2 wr ∧ ∀ x ∈ l.take k, smallT x.t) (fun i _ => l.length - (intOf i).toNat)
    case atStart => exact ⟨0, Nat.zero_le _, rfl, Below.refl _ _, by simp⟩
    case round =>
      obtain ⟨k, hk, rfl, hb, hsm⟩ := hrel
      have HC := Lib.hid hb
      have HB := Lib.hid (HB2.out.trans (hb.mono HB2.out.size))
      have HSM := Lib.hid hsm
      clear hb hsm
      by_cases hlt : k < l.length
      · obtain ⟨x, hx⟩ : ∃ x, l[k]? = some x := ⟨_, List.getElem?_eq_getElem hlt⟩
        have HM := Lib.hid (List.mem_of_getElem? hx)
        obtain ⟨ad, e1, hab, c0, c1, c2, c3⟩ := HL.out.atw hx
        subst e1
        have hkl : (k : Int) < (l.length : Int) := by omega
        have k0 := (HB.out.cell hab).trans c0
        have k1 := (HB.out.cell (p := ⟨(ad.add (k * 4)).block, (ad.add (k * 4)).off + 1, none⟩) hab).trans c1
        have k2 := (HB.out.cell (p := ⟨(ad.add (k * 4)).block, (ad.add (k * 4)).off + 2, none⟩) hab).trans c2
        have k3 := (HB.out.cell (p := ⟨(ad.add (k * 4)).block, (ad.add (k * 4)).off + 3, none⟩) hab).trans c3
        have HTK := Lib.hid (show l.take (k + 1) = l.take k ++ [x] by rw [List.take_add_one, hx]; rfl)
        clear c0 c1 c2 c3 hx
        go_wp2_with fail
        go_at_call 10
        refine (great_any _ x.t _ ((HL.out.2.2 x HM.out).told.below HB.out)).mono ?_
        rintro e W3 ⟨rfl, hk2⟩
        have HC2 := Lib.hid (Btrans HC.out hk2)
        have HB3 := Lib.hid (Btrans HB.out hk2)
        clear hk2 k0 k1 k2 k3
        by_cases hs : smallT x.t
        · rw [great_no hs]
          have HSX := Lib.hid hs
          clear hs
          go_wp2
          go_roundw
          case rel => exact ⟨k + 1, by omega, by go_num, HC2.out, fun y hy => by
            rw [HTK.out] at hy
            rcases List.mem_append.1 hy with h | h
            · exact HSM.out y h
            · rw [List.mem_singleton] at h; subst h; exact HSX.out⟩
          case measure => simp [intOf]; omega
        · rw [great_yes hs]
          clear hs
          go_wp2
          go_ret
          exact ⟨by rfl, HB3.out⟩
      · obtain rfl : k = l.length := by omega
        rw [List.take_length] at HSM
        have HQ3 := Lib.hid (HQ2.out.below HC.out)
        go_wp2_with fail
        go_at_call 11
        refine (read_any s _ (by omega) (HE.out.below HB.out)).mono ?_
        rintro e W3 ⟨hR, hk⟩
        obtain ⟨va, rfl, hva⟩ := hR.val
        obtain ⟨u, hu⟩ : ∃ u, u = (readR s.data.toList).getD Td.zero := ⟨_, rfl⟩
        obtain ⟨o, ho⟩ : ∃ o, o = (readR s.data.toList).isSome := ⟨_, rfl⟩
        rw [← hu] at hva
        rw [← ho]
        have HUV := Lib.hid hu
        have HOV := Lib.hid ho
        obtain ⟨CAu, ccu, RAu, rcu, HAu, hcu, rfl⟩ := hva.shape
        have HB3 := Lib.hid (Btrans HB.out hk)
        have HQ4 := Lib.hid (HQ3.out.below hk)
        have HVA := Lib.hid hva
        clear hR hva hu ho hk
        go_wp2_with fail
        go_at_call 12
        refine calls_world (fun W => Below W3.heap.size W3 W ∧ Blk W W3.heap.size 25 #[.int .i64 u.tick, .slice CAu u.cells.length ccu, .slice RAu u.rules.length rcu, .slice HAu u.chans.length hcu]) ⟨by go_grown, Blk.new _ _ _ _ (by first | rfl | simp)⟩ fun U3 ⟨hb, hp⟩ => ?_
        refine (rread_any s _ (by omega) (HE.out.below (Btrans HB3.out hb))).mono ?_
        rintro e W4 ⟨hR, hk⟩
        obtain ⟨vb, rfl, hvb⟩ := hR.val
        rw [← HUV.out] at hvb
        rw [← HOV.out]
        obtain ⟨CAr, ccr, RAr, rcr, HAr, hcr, rfl⟩ := hvb.shape
        have HB4 := Lib.hid (Btrans (Btrans HB3.out hb) hk)
        have HQ5 := Lib.hid ((HQ4.out.below hb).below hk)
        have HP5 := Lib.hid (hp.below hk)
        have HVA4 := Lib.hid ((HVA.out.below hb).below hk)
        have HVB := Lib.hid hvb
        clear hR hvb hk hb hp
        go_wp2_with fail
        refine wp_world (fun W => Below W4.heap.size W4 W ∧ Blk W w.heap.size 25 #[.int .i64 t.tick, .slice CA t.cells.length cc, .slice RA t.rules.length rc, .slice HA t.chans.length hc] ∧ Blk W W3.heap.size 25 #[.int .i64 u.tick, .slice CAu u.cells.length ccu, .slice RAu u.rules.length rcu, .slice HAu u.chans.length hcu] ∧ Blk W W4.heap.size 25 #[.int .i64 u.tick, .slice CAr u.cells.length ccr, .slice RAr u.rules.length rcr, .slice HAr u.chans.length hcr]) ⟨by go_grown, HQ5.out.al _, HP5.out.al _, Blk.new _ _ _ _ (by first | rfl | simp)⟩ fun W5 ⟨hb5, hq5, hp5, hr5⟩ => ?_
        have HB5 := Lib.hid (Btrans HB4.out hb5)
        have HQ6 := Lib.hid hq5
        have HP6 := Lib.hid hp5
        have HR6 := Lib.hid hr5
        have HVA5 := Lib.hid (HVA4.out.below hb5)
        have HVB5 := Lib.hid (HVB.out.below hb5)
        have HE5 := Lib.hid (HE.out.below HB5.out)
        have HT5 := Lib.hid (HT.out.below HB5.out)
        have HL5 := Lib.hid (HL.out.below HB5.out)
        have d1 : ∀ V, Below W5.heap.size W5 V → ∀ i, V.cell? ⟨w.heap.size, i, none⟩ = (#[.int .i64 t.tick, .slice CA t.cells.length cc, .slice RA t.rules.length rc, .slice HA t.chans.length hc] : Array Value)[i]? := fun V hV => (HQ6.out.below hV).cells
        have d2 : ∀ V, Below W5.heap.size W5 V → ∀ i, V.cell? ⟨W3.heap.size, i, none⟩ = (#[.int .i64 u.tick, .slice CAu u.cells.length ccu, .slice RAu u.rules.length rcu, .slice HAu u.chans.length hcu] : Array Value)[i]? := fun V hV => (HP6.out.below hV).cells
        have d3 : ∀ V, Below W5.heap.size W5 V → ∀ i, V.cell? ⟨W4.heap.size, i, none⟩ = (#[.int .i64 u.tick, .slice CAr u.cells.length ccr, .slice RAr u.rules.length rcr, .slice HAr u.chans.length hcr] : Array Value)[i]? := fun V hV => (HR6.out.below hV).cells
        clear hb5 hq5 hp5 hr5
        refine wp_region_held_drew (S := fun V => Below W5.heap.size W5 V) (by kernel_rfl) (by exact below_drew1 _) (fun hHeld => ?_)
        refine takeD 0 (some 49) (v := ?_) rfl rfl (by kernel_rfl) (by kernel_rfl) (by kernel_rfl) (fun _ _ _ h => h) (by rfl) ?_ (by assumption) ?_
        rotate_left
        · intro w hSw
          (try dsimp only at hSw)
          go_simp
          try with_reducible rfl
        try simp only [Act.put, List.setIfInBounds_toArray, List.set_cons_zero, List.set_cons_succ]
        refine takeD 1 (some 50) (v := ?_) rfl rfl (by kernel_rfl) (by kernel_rfl) (by kernel_rfl) (fun _ _ _ h => h) (by rfl) ?_ (by assumption) ?_
        rotate_left
        · intro w hSw
          (try dsimp only at hSw)
          go_simp
          try with_reducible rfl
        try simp only [Act.put, List.setIfInBounds_toArray, List.set_cons_zero, List.set_cons_succ]
        refine takeD 2 (some 51) (v := ?_) rfl rfl (by kernel_rfl) (by kernel_rfl) (by kernel_rfl) (fun _ _ _ h => h) (by rfl) ?_ (by assumption) ?_
        rotate_left
        · intro w hSw
          (try dsimp only at hSw)
          go_simp
          try with_reducible rfl
        try simp only [Act.put, List.setIfInBounds_toArray, List.set_cons_zero, List.set_cons_succ]
        refine takeD 4 (some 53) (v := ?_) rfl rfl (by kernel_rfl) (by kernel_rfl) (by kernel_rfl) (fun _ _ _ h => h) (by rfl) ?_ (by assumption) ?_
        rotate_left
        · intro w hSw
          (try dsimp only at hSw)
          go_simp
          try with_reducible rfl
        try simp only [Act.put, List.setIfInBounds_toArray, List.set_cons_zero, List.set_cons_succ]
        refine wpAnyH_ready (rs := [3]) (by kernel_rfl) (by simp) ?_
        refine AllReadyH.cons rfl (fun K hK => ?_) AllReadyH.nil
        rw [if_pos (by rfl)]
        go_simp
        go_at_call 13
        refine (right_any _ t _ (HT5.out.below hHeld)).mono ?_
        rintro e V1 ⟨rfl, hk⟩
        have hS := Btrans hHeld hk
        clear hk
        go_simp
        refine hK.out _ _ ?_ (fun hHeld2 => ?_)
        · clear hK; exact hS
        clear hK K hHeld hS
        have hHeld := hHeld2
        clear hHeld2
        try simp only [Act.put, List.setIfInBounds_toArray, List.set_cons_zero, List.set_cons_succ]
        refine wpAnyH_ready (rs := [5]) (by kernel_rfl) (by simp) ?_
        refine AllReadyH.cons rfl (fun K hK => ?_) AllReadyH.nil
        rw [if_pos (by rfl)]
        go_simp
        go_at_call 14
        refine (rright_any _ t _ (HT5.out.below hHeld)).mono ?_
        rintro e V2 ⟨rfl, hk⟩
        have hS := Btrans hHeld hk
        clear hk
        go_simp
        refine hK.out _ _ ?_ (fun hHeld2 => ?_)
        · clear hK; exact hS
        clear hK K hHeld hS
        have hHeld := hHeld2
        clear hHeld2
        try simp only [Act.put, List.setIfInBounds_toArray, List.set_cons_zero, List.set_cons_succ]
        refine takeD 6 (some 55) (v := ?_) rfl rfl (by kernel_rfl) (by kernel_rfl) (by kernel_rfl) (fun _ _ _ h => h) (by rfl) ?_ (by assumption) ?_
        rotate_left
        · intro w hSw
          (try dsimp only at hSw)
          go_simp
          try with_reducible rfl
        try simp only [Act.put, List.setIfInBounds_toArray, List.set_cons_zero, List.set_cons_succ]
        refine takeD 7 (some 56) (v := ?_) rfl rfl (by kernel_rfl) (by kernel_rfl) (by kernel_rfl) (fun _ _ _ h => h) (by rfl) ?_ (by assumption) ?_
        rotate_left
        · intro w hSw
          (try dsimp only at hSw)
          go_simp
          try with_reducible rfl
        try simp only [Act.put, List.setIfInBounds_toArray, List.set_cons_zero, List.set_cons_succ]
        refine takeD 8 (some 57) (v := ?_) rfl rfl (by kernel_rfl) (by kernel_rfl) (by kernel_rfl) (fun _ _ _ h => h) (by rfl) ?_ (by assumption) ?_
        rotate_left
        · intro w hSw
          (try dsimp only at hSw)
          go_simp
          try with_reducible rfl
        try simp only [Act.put, List.setIfInBounds_toArray, List.set_cons_zero, List.set_cons_succ]
        refine takeD 9 (some 58) (v := ?_) rfl rfl (by kernel_rfl) (by kernel_rfl) (by kernel_rfl) (fun _ _ _ h => h) (by rfl) ?_ (by assumption) ?_
        rotate_left
        · intro w hSw
          (try dsimp only at hSw)
          go_simp
          try with_reducible rfl
        try simp only [Act.put, List.setIfInBounds_toArray, List.set_cons_zero, List.set_cons_succ]
        refine takeD 11 (some 60) (v := ?_) rfl rfl (by kernel_rfl) (by kernel_rfl) (by kernel_rfl) (fun _ _ _ h => h) (by rfl) ?_ (by assumption) ?_
        rotate_left
        · intro w hSw
          (try dsimp only at hSw)
          go_simp
          try with_reducible rfl
        try simp only [Act.put, List.setIfInBounds_toArray, List.set_cons_zero, List.set_cons_succ]
        refine wpAnyH_ready (rs := [10]) (by kernel_rfl) (by simp) ?_
        refine AllReadyH.cons rfl (fun K hK => ?_) AllReadyH.nil
        rw [if_pos (by rfl)]
        go_simp
        go_at_call 15
        refine (line_any _ t _ (HT5.out.below hHeld) H6.out (HE5.out.below hHeld) (small_sz HS.out)).mono ?_
        rintro e V3 ⟨rfl, hk⟩
        have hS := Btrans hHeld hk
        clear hk
        go_simp
        refine hK.out _ _ ?_ (fun hHeld2 => ?_)
        · clear hK; exact hS
        clear hK K hHeld hS
        have hHeld := hHeld2
        clear hHeld2
        try simp only [Act.put, List.setIfInBounds_toArray, List.set_cons_zero, List.set_cons_succ]
        refine wpAnyH_ready (rs := [12]) (by kernel_rfl) (by simp) ?_
        refine AllReadyH.cons rfl (fun K hK => ?_) AllReadyH.nil
        rw [if_pos (by rfl)]
        go_simp
        go_at_call 16
        refine (rline_any _ t _ (HT5.out.below hHeld) H6.out (HE5.out.below hHeld) (small_sz HS.out)).mono ?_
        rintro e V4 ⟨rfl, hk⟩
        have hS := Btrans hHeld hk
        clear hk
        go_simp
        refine hK.out _ _ ?_ (fun hHeld2 => ?_)
        · clear hK; exact hS
        clear hK K hHeld hS
        have hHeld := hHeld2
        clear hHeld2
        try simp only [Act.put, List.setIfInBounds_toArray, List.set_cons_zero, List.set_cons_succ]
        refine takeD 13 (some 62) (v := ?_) rfl rfl (by kernel_rfl) (by kernel_rfl) (by kernel_rfl) (fun _ _ _ h => h) (by rfl) ?_ (by assumption) ?_
        rotate_left
        · intro w hSw
          (try dsimp only at hSw)
          go_simp
          try with_reducible rfl
        try simp only [Act.put, List.setIfInBounds_toArray, List.set_cons_zero, List.set_cons_succ]
        refine takeD 14 (some 63) (v := ?_) rfl rfl (by kernel_rfl) (by kernel_rfl) (by kernel_rfl) (fun _ _ _ h => h) (by rfl) ?_ (by assumption) ?_
        rotate_left
        · intro w hSw
          (try dsimp only at hSw)
          go_simp
          try with_reducible rfl
        try simp only [Act.put, List.setIfInBounds_toArray, List.set_cons_zero, List.set_cons_succ]
        refine takeD 15 (some 64) (v := ?_) rfl rfl (by kernel_rfl) (by kernel_rfl) (by kernel_rfl) (fun _ _ _ h => h) (by rfl) ?_ (by assumption) ?_
        rotate_left
        · intro w hSw
          (try dsimp only at hSw)
          go_simp
          try with_reducible rfl
        try simp only [Act.put, List.setIfInBounds_toArray, List.set_cons_zero, List.set_cons_succ]
        refine takeD 16 (some 65) (v := ?_) rfl rfl (by kernel_rfl) (by kernel_rfl) (by kernel_rfl) (fun _ _ _ h => h) (by rfl) ?_ (by assumption) ?_
        rotate_left
        · intro w hSw
          (try dsimp only at hSw)
          go_simp
          try with_reducible rfl
        try simp only [Act.put, List.setIfInBounds_toArray, List.set_cons_zero, List.set_cons_succ]
        refine takeD 17 (some 66) (v := ?_) rfl rfl (by kernel_rfl) (by kernel_rfl) (by kernel_rfl) (fun _ _ _ h => h) (by rfl) ?_ (by assumption) ?_
        rotate_left
        · intro w hSw
          (try dsimp only at hSw)
          go_simp
          try with_reducible rfl
        try simp only [Act.put, List.setIfInBounds_toArray, List.set_cons_zero, List.set_cons_succ]
        refine wpAnyH_ready (rs := [18]) (by kernel_rfl) (by simp) ?_
        refine AllReadyH.cons rfl (fun K hK => ?_) AllReadyH.nil
        rw [if_pos (by rfl)]
        go_simp
        go_at_call 17
        refine (sameT_any _ _ u u _ (HVA5.out.below hHeld) (HVB5.out.below hHeld)).mono ?_
        rintro e V5 ⟨rfl, hk⟩
        rw [decide_eq_true rfl]
        have hS := Btrans hHeld hk
        clear hk
        go_simp
        refine hK.out _ _ ?_ (fun hHeld2 => ?_)
        · clear hK; exact hS
        clear hK K hHeld hS
        have hHeld := hHeld2
        clear hHeld2
        try simp only [Act.put, List.setIfInBounds_toArray, List.set_cons_zero, List.set_cons_succ]
        refine takeD 19 (some 68) (v := ?_) rfl rfl (by kernel_rfl) (by kernel_rfl) (by kernel_rfl) (fun _ _ _ h => h) (by rfl) ?_ (by assumption) ?_
        rotate_left
        · intro w hSw
          (try dsimp only at hSw)
          go_simp
          try with_reducible rfl
        try simp only [Act.put, List.setIfInBounds_toArray, List.set_cons_zero, List.set_cons_succ]
        refine takeD 20 (some 69) (v := ?_) rfl rfl (by kernel_rfl) (by kernel_rfl) (by kernel_rfl) (fun _ _ _ h => h) (by rfl) ?_ (by assumption) ?_
        rotate_left
        · intro w hSw
          (try dsimp only at hSw)
          go_simp
          try with_reducible rfl
        try simp only [Act.put, List.setIfInBounds_toArray, List.set_cons_zero, List.set_cons_succ]
        refine takeD 21 (some 70) (v := ?_) rfl rfl (by kernel_rfl) (by kernel_rfl) (by kernel_rfl) (fun _ _ _ h => h) (by rfl) ?_ (by assumption) ?_
        rotate_left
        · intro w hSw
          (try dsimp only at hSw)
          go_simp
          try with_reducible rfl
        try simp only [Act.put, List.setIfInBounds_toArray, List.set_cons_zero, List.set_cons_succ]
        refine takeD 22 (some 71) (v := ?_) rfl rfl (by kernel_rfl) (by kernel_rfl) (by kernel_rfl) (fun _ _ _ h => h) (by rfl) ?_ (by assumption) ?_
        rotate_left
        · intro w hSw
          (try dsimp only at hSw)
          go_simp
          try with_reducible rfl
        try simp only [Act.put, List.setIfInBounds_toArray, List.set_cons_zero, List.set_cons_succ]
        refine takeD 23 (some 72) (v := ?_) rfl rfl (by kernel_rfl) (by kernel_rfl) (by kernel_rfl) (fun _ _ _ h => h) (by rfl) ?_ (by assumption) ?_
        rotate_left
        · intro w hSw
          (try dsimp only at hSw)
          go_simp
          try with_reducible rfl
        try simp only [Act.put, List.setIfInBounds_toArray, List.set_cons_zero, List.set_cons_succ]
        refine takeD 24 (some 73) (v := ?_) rfl rfl (by kernel_rfl) (by kernel_rfl) (by kernel_rfl) (fun _ _ _ h => h) (by rfl) ?_ (by assumption) ?_
        rotate_left
        · intro w hSw
          (try dsimp only at hSw)
          go_simp
          try with_reducible rfl
        try simp only [Act.put, List.setIfInBounds_toArray, List.set_cons_zero, List.set_cons_succ]
        refine takeD 25 (some 74) (v := ?_) rfl rfl (by kernel_rfl) (by kernel_rfl) (by kernel_rfl) (fun _ _ _ h => h) (by rfl) ?_ (by assumption) ?_
        rotate_left
        · intro w hSw
          (try dsimp only at hSw)
          go_simp
          try with_reducible rfl
        try simp only [Act.put, List.setIfInBounds_toArray, List.set_cons_zero, List.set_cons_succ]
        refine takeD 26 (some 75) (v := ?_) rfl rfl (by kernel_rfl) (by kernel_rfl) (by kernel_rfl) (fun _ _ _ h => h) (by rfl) ?_ (by assumption) ?_
        rotate_left
        · intro w hSw
          (try dsimp only at hSw)
          go_simp
          try with_reducible rfl
        try simp only [Act.put, List.setIfInBounds_toArray, List.set_cons_zero, List.set_cons_succ]
        refine takeD 28 (some 77) (v := ?_) rfl rfl (by kernel_rfl) (by kernel_rfl) (by kernel_rfl) (fun _ _ _ h => h) (by rfl) ?_ (by assumption) ?_
        rotate_left
        · intro w hSw
          (try dsimp only at hSw)
          go_simp
          try with_reducible rfl
        try simp only [Act.put, List.setIfInBounds_toArray, List.set_cons_zero, List.set_cons_succ]
        refine wpAnyH_ready (rs := [27]) (by kernel_rfl) (by simp) ?_
        refine AllReadyH.cons rfl (fun K hK => ?_) AllReadyH.nil
        rw [if_pos (by rfl)]
        go_simp
        go_at_call 18
        refine (text_any _ l _ (HL5.out.below hHeld) (HE5.out.below hHeld) HSM.out (by omega)).mono ?_
        rintro e V6 ⟨rfl, hk⟩
        have hS := Btrans hHeld hk
        clear hk
        go_simp
        refine hK.out _ _ ?_ (fun hHeld2 => ?_)
        · clear hK; exact hS
        clear hK K hHeld hS
        have hHeld := hHeld2
        clear hHeld2
        try simp only [Act.put, List.setIfInBounds_toArray, List.set_cons_zero, List.set_cons_succ]
        refine wpAnyH_ready (rs := [29]) (by kernel_rfl) (by simp) ?_
        refine AllReadyH.cons rfl (fun K hK => ?_) AllReadyH.nil
        rw [if_pos (by rfl)]
        go_simp
        go_at_call 19
        refine (rtext_any _ l _ (HL5.out.below hHeld) (HE5.out.below hHeld) HSM.out (by omega)).mono ?_
        rintro e V7 ⟨rfl, hk⟩
        have hS := Btrans hHeld hk
        clear hk
        go_simp
        refine hK.out _ _ ?_ (fun hHeld2 => ?_)
        · clear hK; exact hS
        clear hK K hHeld hS
        have hHeld := hHeld2
        clear hHeld2
        try simp only [Act.put, List.setIfInBounds_toArray, List.set_cons_zero, List.set_cons_succ]
        refine takeD 30 (some 79) (v := ?_) rfl rfl (by kernel_rfl) (by kernel_rfl) (by kernel_rfl) (fun _ _ _ h => h) (by rfl) ?_ (by assumption) ?_
        rotate_left
        · intro w hSw
          (try dsimp only at hSw)
          go_simp
          try with_reducible rfl
        try simp only [Act.put, List.setIfInBounds_toArray, List.set_cons_zero, List.set_cons_succ]
        refine takeD 31 (some 80) (v := ?_) rfl rfl (by kernel_rfl) (by kernel_rfl) (by kernel_rfl) (fun _ _ _ h => h) (by rfl) ?_ (by assumption) ?_
        rotate_left
        · intro w hSw
          (try dsimp only at hSw)
          go_simp
          try with_reducible rfl
        try simp only [Act.put, List.setIfInBounds_toArray, List.set_cons_zero, List.set_cons_succ]
        refine takeD 32 (some 6) (v := ?_) rfl rfl (by kernel_rfl) (by kernel_rfl) (by kernel_rfl) (fun _ _ _ h => h) (by rfl) ?_ (by assumption) ?_
        rotate_left
        · intro w hSw
          (try dsimp only at hSw)
          go_simp
          try with_reducible rfl
        try simp only [Act.put, List.setIfInBounds_toArray, List.set_cons_zero, List.set_cons_succ]
        refine wpAnyH_done (by kernel_rfl) ?_ _
        have HF := Lib.hid hHeld
        clear hHeld d1 d2 d3
        go_wp2_with fail
        go_ret
        exact ⟨by first | rfl | simp, HB5.out.trans (HF.out.mono HB5.out.size)⟩
  · rw [great_yes hs]
    clear hs
    go_wp2
    go_ret
    exact ⟨by rfl, HB2.out⟩
end Go.Proofs.YtaelhgkodcgmnaaDoor
