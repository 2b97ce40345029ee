/- Layer 13: the law of once, walked. -/
import Derived.Test.YtoiaagdpckgpoaaGridT
import Derived.StillTailTactics
namespace Go.Proofs.Ytoiaagdpckgpoaa
open Go.ChangeShapes Go.WideShapes Go.ChangeAt Go.RowKit
set_option linter.unusedVariables false
set_option linter.unusedSimpArgs false

theorem GridS.belowB {w w' : World} {g ab k B : Nat} {bs : List (Nat × Nat)} {rs : List (Nat × List SB)} (h : GridS w g ab bs k rs) (hb : Below B w w') (hu : ∀ x ∈ gblocks g ab bs, x < B) : GridS w' g ab bs k rs :=
  h.only (s := (List.range w'.heap.size).filter (fun x => decide (B ≤ x))) ⟨hb.os, hb.tape, hb.output, hb.size, fun i hi hn => hb.block i (by
    rcases Nat.lt_or_ge i B with h | h
    · exact h
    · exact absurd (List.mem_filter.2 ⟨List.mem_range.2 (Nat.lt_of_lt_of_le hi hb.size), decide_eq_true h⟩) hn)⟩ (fun x hx hm => by
    have h1 := hu x hx
    have h2 := of_decide_eq_true (List.mem_filter.1 hm).2
    omega)
theorem row5_at {w : World} {A : Option Addr} {c m : Nat} {ks : List OpI} {a : OpI} (h : RowN 5 w (.slice A ks.length c) ks.length (o5 ks)) (hm : ks[m]? = some a) :
    ∃ ad, A = some ad ∧ ad.block < w.heap.size ∧ w.cell? ⟨(ad.add (m * 5)).block, (ad.add (m * 5)).off + 1, none⟩ = some (.int .i64 a.ch) ∧ w.cell? ⟨(ad.add (m * 5)).block, (ad.add (m * 5)).off + 2, none⟩ = some (.int .i16 a.k) ∧ w.cell? ⟨(ad.add (m * 5)).block, (ad.add (m * 5)).off + 3, none⟩ = some (.int .i64 a.v) ∧ w.cell? ⟨(ad.add (m * 5)).block, (ad.add (m * 5)).off + 4, none⟩ = some (.int .i64 a.f) := by
  obtain ⟨_, A', c', e1, _, _, hA⟩ := h
  injection e1 with e1 _ _
  subst e1
  obtain ⟨q1, q2, q3, q4⟩ := o5_at ks m a hm
  have hl := (List.getElem?_eq_some_iff.1 hm).1
  rcases hA with ⟨rfl, h0⟩ | ⟨ad, rfl, h1, h2⟩
  · omega
  · have g : ∀ i v, 0 < i → (o5 ks)[m * 5 + i]? = some v → w.cell? ⟨(ad.add (m * 5)).block, (ad.add (m * 5)).off + i, none⟩ = some v := fun i v hi hv => by
      have := h2 _ _ hv
      rwa [← Go.Deep.add_add, addk _ i hi] at this
    exact ⟨ad, rfl, h1 (by rw [o5_len]; omega), g 1 _ (by omega) q1, g 2 _ (by omega) q2, g 3 _ (by omega) q3, g 4 _ (by omega) q4⟩
set_option maxRecDepth 100000 in
set_option maxHeartbeats 16000000 in
theorem walk_GridOnce (v : Value) (c : Cf) (vo : Value) (l : List OpI) (w : World) (hc : IsConf w v c) (wc : (Lit.int .i64 c.P).wf = true ∧ (Lit.int .i64 c.H).wf = true ∧ (Lit.int .i64 c.C).wf = true ∧ (Lit.int .i64 c.Mn).wf = true ∧ (Lit.int .i64 c.Mx).wf = true ∧ (Lit.int .i64 c.Rho).wf = true ∧ (Lit.int .i64 c.Bd).wf = true ∧ (Lit.int .i64 c.Win).wf = true ∧ (Lit.int .i64 c.St).wf = true) (wr : ∀ r ∈ c.rows, ∀ z ∈ r, (Lit.int .i64 z).wf = true) (ho : OpsRow w vo l) :
    Calls Try.prog 4 #[v, vo] w fun e w' => e = .returned (.bool true) ∧ Below w.heap.size w w' := by
  obtain ⟨s, r, rfl, hs⟩ := hc
  have HS := Lib.hid hs
  obtain ⟨A, cp, rfl, _, _, q⟩ := hs.src
  clear hs q wc wr
  obtain ⟨Ao, co, rfl, hco, hcom, hAo⟩ := ho
  have HO := Lib.hid hAo
  clear hAo
  go_enter Try.func4, Try.ntmps4
  go_wp2_with fail
  refine calls_world (fun W1 => Below w.heap.size w W1 ∧ Blk W1 w.heap.size 25 #[.int .i64 c.P, .int .i64 c.H, .int .i64 c.C, .int .i64 c.Mn, .int .i64 c.Mx, .int .i64 c.Rho, .int .i64 c.Bd, .int .i64 c.Win, .int .i64 c.St, .slice A c.rows.length cp, r]) ⟨(by go_grown), (Blk.new _ _ _ _ (by first | rfl | simp))⟩ fun W1 ⟨hb1, qB⟩ => ?_
  have B1 := Lib.hid qB
  (try clear cB); (try clear lB); (try clear dB)
  clear qB
  refine (head_any _).mono ?_
  rintro e W2 ⟨rfl, hk⟩
  (try clear cB); (try clear lB); (try clear dB)
  have hb2 := Btrans hb1 hk
  have B2 := Lib.hid (B1.out.below hk)
  clear hk B1 hb1
  have cB := B2.out.cells
  have lB := B2.out.lt
  go_wp2_with fail
  refine (right_c _ c _ ⟨_, _, rfl, HS.out.below hb2⟩).mono ?_
  rintro e W3 ⟨rfl, hk⟩
  (try clear cB); (try clear lB); (try clear dB)
  have hb3 := Btrans hb2 hk
  have B3 := Lib.hid (B2.out.below hk)
  clear hk B2 hb2
  have cB := B3.out.cells
  have lB := B3.out.lt
  obtain ⟨ok, hok⟩ : ∃ b, b = (!greatB c.rows && confO c) := ⟨_, rfl⟩
  rw [← hok]
  cases ok with
  | false =>
    clear hok
    go_wp2
    go_ret
    exact ⟨by first | rfl | simp, hb3⟩
  | true =>
    obtain ⟨k, hC, hk1, hk64, hN0, hN⟩ := conf_facts hok.symm
    obtain ⟨N, hNN⟩ : ∃ N, N = (chansOf c.rows).length := ⟨_, rfl⟩
    rw [← hNN] at hN0 hN
    have HNN := Lib.hid hNN
    have HCK := Lib.hid hC
    clear hok hNN hC
    by_cases hbig : 60 < l.length
    · have g1 : decide (((l.length : Nat) : Int) > 60) = true := decide_eq_true (by omega)
      go_wp2
      go_ret
      exact ⟨by first | rfl | simp, hb3⟩
    have g1 : decide (((l.length : Nat) : Int) > 60) = false := decide_eq_false (by omega)
    go_wp2_with fail
    refine (gnew_any _ c _ ⟨_, _, rfl, HS.out.below hb3⟩ k HCK.out (by omega) (by rw [← HNN.out]; omega)).mono ?_
    rintro e W4 ⟨Pg, Pab, Pbs, rfl, hbl, hg, hk, hlo⟩
    (try clear cB); (try clear lB); (try clear dB)
    have hzz := hb3.size
    rw [← HNN.out] at hbl hg
    have HLP := Lib.hid hlo
    have HBP := Lib.hid hbl
    have hlPB := B3.out.lt
    obtain ⟨limP, hlim⟩ : ∃ m, m = W3.heap.size := ⟨_, rfl⟩
    rw [← hlim] at HLP hzz hlPB
    clear hlim hlo hbl
    have hb4 := Btrans hb3 hk
    have B4 := Lib.hid (B3.out.below hk)
    clear hk B3 hb3
    have P4 := Lib.hid (show GridS W4 Pg Pab Pbs k (G0 0 N k) from hg)
    clear hg
    have cB := B4.out.cells
    have lB := B4.out.lt
    go_wp2_with fail
    refine (rmany_any _ c _ ⟨_, _, rfl, HS.out.below hb4⟩ (by rw [← HNN.out]; omega)).mono ?_
    rintro e W5 ⟨rfl, hk⟩
    (try clear cB); (try clear lB); (try clear dB)
    try rw [← HNN.out]
    have hb5 := Btrans hb4 hk
    have B5 := Lib.hid (B4.out.below hk)
    have P5 := Lib.hid (P4.out.below hk)
    clear hk B4 P4 hb4
    have cB := B5.out.cells
    have lB := B5.out.lt
    go_wp2_with fail
    have HLP' := Lib.hid (show ∀ x ∈ gblocks Pg Pab Pbs, w.heap.size ≤ x from fun x hx => by have := HLP.out x hx; omega)
    have hP0 := Lib.hid (show GridS W5 Pg Pab Pbs k (RS N k 0 []) by rw [← RS_zero]; exact P5.out)
    obtain ⟨b0, hb0⟩ : ∃ m, m = W5.heap.size := ⟨_, rfl⟩
    have HUP := Lib.hid (show ∀ x ∈ gblocks Pg Pab Pbs, x < b0 by rw [hb0]; exact hP0.out.lt)
    have hwb := hb5.size
    have lB0 : w.heap.size < b0 := by have := B5.out.lt; omega
    have hle0 : b0 ≤ W5.heap.size := by omega
    clear hb0 P5 hwb
    go_loopw [8, 9] (fun vk i wr => ∃ (j : Nat) (ks : List OpI), j ≤ l.length ∧ i = .int .i64 j ∧ Below w.heap.size w wr ∧ Blk wr w.heap.size 25 #[.int .i64 c.P, .int .i64 c.H, .int .i64 c.C, .int .i64 c.Mn, .int .i64 c.Mx, .int .i64 c.Rho, .int .i64 c.Bd, .int .i64 c.Win, .int .i64 c.St, .slice A c.rows.length cp, r] ∧ GridS wr Pg Pab Pbs k (RS N k 0 (spL ks)) ∧ World.ownsRow wr b0 41 5 vk ks.length (o5 ks) ∧ ND (spL ks) ∧ InG N k (spL ks) ∧ ks.length ≤ j ∧ b0 ≤ wr.heap.size) (fun _ i _ => l.length - (intOf i).toNat)
    case atStart => exact ⟨0, [], by omega, rfl, hb5, B5.out, hP0.out, own_nilN _ _, ND_nil, by intro s hs; simp [spL] at hs, by simp, hle0⟩
    case round =>
      clear hb5 B5 hP0 cB lB hle0
      obtain ⟨j, ks, hj, rfl, hb, hB, hP, hown, hnd, hin, hkl, hb0r⟩ := hrel
      obtain ⟨AK, cK, rfl⟩ := own_shape hown
      have HB := Lib.hid hB
      have HP := Lib.hid hP
      have HW := Lib.hid hown
      have HND := Lib.hid hnd
      have HIN := Lib.hid hin
      clear hB hP hown hnd hin
      by_cases hlt : j < l.length
      · obtain ⟨o, ho⟩ : ∃ o, l[j]? = some o := ⟨_, List.getElem?_eq_getElem hlt⟩
        obtain ⟨ad, rfl, had, hc0, hc1, hc2, hc3, hc4, hr1, hr2⟩ := HO.out j o ho
        have E0 : Hid (∀ w', Below w.heap.size w w' → w'.cell? (ad.add (j * 5)) = some (.bool o.tell)) := Lib.hid fun w' hb => by rw [hb.cell (by rw [block_add]; exact had)]; exact hc0
        have E1 : Hid (∀ w', Below w.heap.size w w' → w'.cell? ⟨(ad.add (j * 5)).block, (ad.add (j * 5)).off + 1, none⟩ = some (.int .i64 o.ch)) := Lib.hid fun w' hb => by
          have h2 : w'.cell? (ad.add (j * 5 + 1)) = some (.int .i64 o.ch) := by rw [hb.cell (by rw [block_add]; exact had)]; exact hc1
          rwa [← Go.Deep.add_add] at h2
        have E2 : Hid (∀ w', Below w.heap.size w w' → w'.cell? ⟨(ad.add (j * 5)).block, (ad.add (j * 5)).off + 2, none⟩ = some (.int .i16 o.k)) := Lib.hid fun w' hb => by
          have h2 : w'.cell? (ad.add (j * 5 + 2)) = some (.int .i16 o.k) := by rw [hb.cell (by rw [block_add]; exact had)]; exact hc2
          rwa [← Go.Deep.add_add] at h2
        have E3 : Hid (∀ w', Below w.heap.size w w' → w'.cell? ⟨(ad.add (j * 5)).block, (ad.add (j * 5)).off + 3, none⟩ = some (.int .i64 o.v)) := Lib.hid fun w' hb => by
          have h2 : w'.cell? (ad.add (j * 5 + 3)) = some (.int .i64 o.v) := by rw [hb.cell (by rw [block_add]; exact had)]; exact hc3
          rwa [← Go.Deep.add_add] at h2
        have E4 : Hid (∀ w', Below w.heap.size w w' → w'.cell? ⟨(ad.add (j * 5)).block, (ad.add (j * 5)).off + 4, none⟩ = some (.int .i64 o.f)) := Lib.hid fun w' hb => by
          have h2 : w'.cell? (ad.add (j * 5 + 4)) = some (.int .i64 o.f) := by rw [hb.cell (by rw [block_add]; exact had)]; exact hc4
          rwa [← Go.Deep.add_add] at h2
        have hjl : (j : Int) < (l.length : Int) := by omega
        clear hc0 hc1 hc2 hc3 hc4 ho
        obtain ⟨ot, och, ok, ov, of_⟩ := o
        dsimp only at *
        have hwk : IntKind.i64.wrap ok = ok := IntWalk.i64_in _ (by omega)
        obtain ⟨code, hcode⟩ : ∃ z, z = rcode N k 0 (spL ks) och ok := ⟨_, rfl⟩
        have HC1 := Lib.hid ((RS_code0 N k (spL ks) och ok).trans hcode.symm)
        have HC2 := Lib.hid hcode.symm
        have HPc := Lib.hid (HP.out.below (Bdrew (Below.refl _ _) 1))
        clear hcode
        have dO1 : ∀ w', Only (gblocks Pg Pab Pbs) wr w' → w'.cell? ⟨(ad.add (j * 5)).block, (ad.add (j * 5)).off + 1, none⟩ = some (.int .i64 och) := fun w' hh => E1.out w' (Only.below hb hb.size hh HLP'.out)
        have dO2 : ∀ w', Only (gblocks Pg Pab Pbs) wr w' → w'.cell? ⟨(ad.add (j * 5)).block, (ad.add (j * 5)).off + 2, none⟩ = some (.int .i16 ok) := fun w' hh => E2.out w' (Only.below hb hb.size hh HLP'.out)
        have dO3 : ∀ w', Only (gblocks Pg Pab Pbs) wr w' → w'.cell? ⟨(ad.add (j * 5)).block, (ad.add (j * 5)).off + 3, none⟩ = some (.int .i64 ov) := fun w' hh => E3.out w' (Only.below hb hb.size hh HLP'.out)
        have dO4 : ∀ w', Only (gblocks Pg Pab Pbs) wr w' → w'.cell? ⟨(ad.add (j * 5)).block, (ad.add (j * 5)).off + 4, none⟩ = some (.int .i64 of_) := fun w' hh => E4.out w' (Only.below hb hb.size hh HLP'.out)
        go_wp2_with fail
        refine wp_region_held_drew (S := fun w' => Only (gblocks Pg Pab Pbs) wr w') (by kernel_rfl) ((Only.refl _ _).drew 1) (fun hHeld => ?_)
        refine takeD 0 (some 38) (v := ?_) rfl rfl (by kernel_rfl) (by kernel_rfl) (by kernel_rfl) (fun _ _ _ h => h) (by rfl) ?_ (by assumption) ?_
        rotate_left
        · intro w hSw
          (try dsimp only at hSw)
          go_simp
          try with_reducible rfl
        try simp only [Act.put, List.setIfInBounds_toArray, List.set_cons_zero, List.set_cons_succ]
        refine takeD 1 (some 39) (v := ?_) rfl rfl (by kernel_rfl) (by kernel_rfl) (by kernel_rfl) (fun _ _ _ h => h) (by rfl) ?_ (by assumption) ?_
        rotate_left
        · intro w hSw
          (try dsimp only at hSw)
          go_simp
          try with_reducible rfl
        try simp only [Act.put, List.setIfInBounds_toArray, List.set_cons_zero, List.set_cons_succ]
        refine takeD 2 (some 40) (v := ?_) rfl rfl (by kernel_rfl) (by kernel_rfl) (by kernel_rfl) (fun _ _ _ h => h) (by rfl) ?_ (by assumption) ?_
        rotate_left
        · intro w hSw
          (try dsimp only at hSw)
          go_simp
          try with_reducible rfl
        try simp only [Act.put, List.setIfInBounds_toArray, List.set_cons_zero, List.set_cons_succ]
        refine takeD 3 (some 41) (v := ?_) rfl rfl (by kernel_rfl) (by kernel_rfl) (by kernel_rfl) (fun _ _ _ h => h) (by rfl) ?_ (by assumption) ?_
        rotate_left
        · intro w hSw
          (try dsimp only at hSw)
          go_simp
          try with_reducible rfl
        try simp only [Act.put, List.setIfInBounds_toArray, List.set_cons_zero, List.set_cons_succ]
        refine takeD 4 (some 42) (v := ?_) rfl rfl (by kernel_rfl) (by kernel_rfl) (by kernel_rfl) (fun _ _ _ h => h) (by rfl) ?_ (by assumption) ?_
        rotate_left
        · intro w hSw
          (try dsimp only at hSw)
          go_simp
          try with_reducible rfl
        try simp only [Act.put, List.setIfInBounds_toArray, List.set_cons_zero, List.set_cons_succ]
        refine takeD 5 (some 43) (v := ?_) rfl rfl (by kernel_rfl) (by kernel_rfl) (by kernel_rfl) (fun _ _ _ h => h) (by rfl) ?_ (by assumption) ?_
        rotate_left
        · intro w hSw
          (try dsimp only at hSw)
          go_simp
          try with_reducible rfl
        try simp only [Act.put, List.setIfInBounds_toArray, List.set_cons_zero, List.set_cons_succ]
        refine takeD 6 (some 44) (v := ?_) rfl rfl (by kernel_rfl) (by kernel_rfl) (by kernel_rfl) (fun _ _ _ h => h) (by rfl) ?_ (by assumption) ?_
        rotate_left
        · intro w hSw
          (try dsimp only at hSw)
          go_simp
          try with_reducible rfl
        try simp only [Act.put, List.setIfInBounds_toArray, List.set_cons_zero, List.set_cons_succ]
        refine takeD 7 (some 45) (v := ?_) rfl rfl (by kernel_rfl) (by kernel_rfl) (by kernel_rfl) (fun _ _ _ h => h) (by rfl) ?_ (by assumption) ?_
        rotate_left
        · intro w hSw
          (try dsimp only at hSw)
          go_simp
          try with_reducible rfl
        try simp only [Act.put, List.setIfInBounds_toArray, List.set_cons_zero, List.set_cons_succ]
        refine takeD 8 (some 46) (v := ?_) rfl rfl (by kernel_rfl) (by kernel_rfl) (by kernel_rfl) (fun _ _ _ h => h) (by rfl) ?_ (by assumption) ?_
        rotate_left
        · intro w hSw
          (try dsimp only at hSw)
          go_simp
          try with_reducible rfl
        try simp only [Act.put, List.setIfInBounds_toArray, List.set_cons_zero, List.set_cons_succ]
        refine takeD 9 (some 47) (v := ?_) rfl rfl (by kernel_rfl) (by kernel_rfl) (by kernel_rfl) (fun _ _ _ h => h) (by rfl) ?_ (by assumption) ?_
        rotate_left
        · intro w hSw
          (try dsimp only at hSw)
          go_simp
          try with_reducible rfl
        try simp only [Act.put, List.setIfInBounds_toArray, List.set_cons_zero, List.set_cons_succ]
        refine takeD 10 (some 48) (v := ?_) rfl rfl (by kernel_rfl) (by kernel_rfl) (by kernel_rfl) (fun _ _ _ h => h) (by rfl) ?_ (by assumption) ?_
        rotate_left
        · intro w hSw
          (try dsimp only at hSw)
          go_simp
          try with_reducible rfl
        try simp only [Act.put, List.setIfInBounds_toArray, List.set_cons_zero, List.set_cons_succ]
        refine takeD 11 (some 49) (v := ?_) rfl rfl (by kernel_rfl) (by kernel_rfl) (by kernel_rfl) (fun _ _ _ h => h) (by rfl) ?_ (by assumption) ?_
        rotate_left
        · intro w hSw
          (try dsimp only at hSw)
          go_simp
          try with_reducible rfl
        try simp only [Act.put, List.setIfInBounds_toArray, List.set_cons_zero, List.set_cons_succ]
        refine takeD 12 (some 50) (v := ?_) rfl rfl (by kernel_rfl) (by kernel_rfl) (by kernel_rfl) (fun _ _ _ h => h) (by rfl) ?_ (by assumption) ?_
        rotate_left
        · intro w hSw
          (try dsimp only at hSw)
          go_simp
          try with_reducible rfl
        try simp only [Act.put, List.setIfInBounds_toArray, List.set_cons_zero, List.set_cons_succ]
        refine takeD 13 (some 51) (v := ?_) rfl rfl (by kernel_rfl) (by kernel_rfl) (by kernel_rfl) (fun _ _ _ h => h) (by rfl) ?_ (by assumption) ?_
        rotate_left
        · intro w hSw
          (try dsimp only at hSw)
          go_simp
          try with_reducible rfl
        try simp only [Act.put, List.setIfInBounds_toArray, List.set_cons_zero, List.set_cons_succ]
        refine takeD 14 (some 52) (v := ?_) rfl rfl (by kernel_rfl) (by kernel_rfl) (by kernel_rfl) (fun _ _ _ h => h) (by rfl) ?_ (by assumption) ?_
        rotate_left
        · intro w hSw
          (try dsimp only at hSw)
          go_simp
          try with_reducible rfl
        try simp only [Act.put, List.setIfInBounds_toArray, List.set_cons_zero, List.set_cons_succ]
        refine takeD 15 (some 53) (v := ?_) rfl rfl (by kernel_rfl) (by kernel_rfl) (by kernel_rfl) (fun _ _ _ h => h) (by rfl) ?_ (by assumption) ?_
        rotate_left
        · intro w hSw
          (try dsimp only at hSw)
          go_simp
          try with_reducible rfl
        try simp only [Act.put, List.setIfInBounds_toArray, List.set_cons_zero, List.set_cons_succ]
        refine takeD 16 (some 54) (v := ?_) rfl rfl (by kernel_rfl) (by kernel_rfl) (by kernel_rfl) (fun _ _ _ h => h) (by rfl) ?_ (by assumption) ?_
        rotate_left
        · intro w hSw
          (try dsimp only at hSw)
          go_simp
          try with_reducible rfl
        try simp only [Act.put, List.setIfInBounds_toArray, List.set_cons_zero, List.set_cons_succ]
        refine wpAnyH_ready (rs := [17]) (by kernel_rfl) (by simp) ?_
        refine AllReadyH.cons rfl (fun K hK => ?_) AllReadyH.nil
        rw [if_pos (by rfl)]
        go_simp
        go_at_call 18
        refine (gput_any _ Pg Pab k Pbs (RS N k 0 (spL ks)) och ok (ov, of_) HPc.out (by omega)).mono ?_
        rintro e w2 ⟨rfl, hg, ho⟩
        rw [RS_next0] at hg
        rw [HC1.out]
        have hS := hHeld.trans ho
        clear ho HPc
        have HPc := Lib.hid hg
        clear hg
        go_wp2_with fail
        refine hK.out _ _ ?_ (fun hHeld2 => ?_)
        · clear hK; exact hS
        clear hK K hHeld hS
        have hHeld := hHeld2
        clear hHeld2
        try simp only [Act.put, List.setIfInBounds_toArray, List.set_cons_zero, List.set_cons_succ]
        refine takeD 18 (some 56) (v := ?_) rfl rfl (by kernel_rfl) (by kernel_rfl) (by kernel_rfl) (fun _ _ _ h => h) (by rfl) ?_ (by assumption) ?_
        rotate_left
        · intro w hSw
          (try dsimp only at hSw)
          go_simp
          try with_reducible rfl
        try simp only [Act.put, List.setIfInBounds_toArray, List.set_cons_zero, List.set_cons_succ]
        refine wpAnyH_done (by kernel_rfl) ?_ _
        have hb2 := Only.below hb hb.size hHeld HLP'.out
        have HB2 := Lib.hid (HB.out.onlyG hHeld HLP.out hlPB)
        have HW2 := Lib.hid (own_onlyB HW.out hHeld HUP.out)
        have hb02 : b0 ≤ w2.heap.size := Nat.le_trans hb0r hHeld.size
        clear dO1 dO2 dO3 dO4 hHeld HB HP HW hb hb0r
        by_cases h9 : ¬ code = 9
        · have hq9 : (code == 9) = false := beq_false_of_ne h9
          have HP3 := Lib.hid (show GridS w2 Pg Pab Pbs k (RS N k 0 (spL ks)) by have := HPc.out; rw [nextno (by rw [HC2.out]; exact h9)] at this; exact this)
          clear HPc h9 hwk
          go_wp2
          go_roundw
          case rel => exact ⟨j + 1, ks, by omega, by go_num, hb2, HB2.out, HP3.out, HW2.out, HND.out, HIN.out, by omega, hb02⟩
          case measure => simp [intOf]; omega
        rw [Classical.not_not] at h9
        have hq9 : (code == 9) = true := by rw [beq_iff_eq]; exact h9
        rw [hq9]
        clear hq9
        have HP3 := Lib.hid (show GridS w2 Pg Pab Pbs k (RS N k 0 (spL ks ++ [(och, ok, ov, of_)])) by have := HPc.out; rw [next9 (by rw [HC2.out]; exact h9)] at this; exact this)
        obtain ⟨n1, n2, n3, n4, n5⟩ := code9 (HC2.out.trans h9)
        have HN5 := Lib.hid n5
        have f1 : decide (och < 0) = false := decide_eq_false (by omega)
        have f2 : decide (och ≥ (N : Int)) = false := decide_eq_false (by omega)
        have f3 : decide (ok < 0) = false := decide_eq_false (by omega)
        have f4 : decide (ok ≥ c.C) = false := decide_eq_false (by rw [HCK.out]; omega)
        have dB : ∀ w', Below w2.heap.size w2 w' → ∀ i, w'.cell? ⟨w.heap.size, i, none⟩ = (#[.int .i64 c.P, .int .i64 c.H, .int .i64 c.C, .int .i64 c.Mn, .int .i64 c.Mx, .int .i64 c.Rho, .int .i64 c.Bd, .int .i64 c.Win, .int .i64 c.St, .slice A c.rows.length cp, r] : Array Value)[i]? := fun w' hh i => (HB2.out.below hh).cells i
        clear HPc h9 HC1 HC2 n5
        have dO1 : ∀ w', Below w2.heap.size w2 w' → w'.cell? ⟨(ad.add (j * 5)).block, (ad.add (j * 5)).off + 1, none⟩ = some (.int .i64 och) := fun w' hh => E1.out w' (Btrans hb2 hh)
        have dO2 : ∀ w', Below w2.heap.size w2 w' → w'.cell? ⟨(ad.add (j * 5)).block, (ad.add (j * 5)).off + 2, none⟩ = some (.int .i16 ok) := fun w' hh => E2.out w' (Btrans hb2 hh)
        have dO3 : ∀ w', Below w2.heap.size w2 w' → w'.cell? ⟨(ad.add (j * 5)).block, (ad.add (j * 5)).off + 3, none⟩ = some (.int .i64 ov) := fun w' hh => E3.out w' (Btrans hb2 hh)
        have dO4 : ∀ w', Below w2.heap.size w2 w' → w'.cell? ⟨(ad.add (j * 5)).block, (ad.add (j * 5)).off + 4, none⟩ = some (.int .i64 of_) := fun w' hh => E4.out w' (Btrans hb2 hh)
        go_wp2_with fail
        refine wp_region_held_drew (S := fun w' => Below w2.heap.size w2 w') (by kernel_rfl) (by go_grown) (fun hHeld => ?_)
        refine takeD 0 (some 57) (v := ?_) rfl rfl (by kernel_rfl) (by kernel_rfl) (by kernel_rfl) (fun _ _ _ h => h) (by rfl) ?_ (by assumption) ?_
        rotate_left
        · intro w hSw
          (try dsimp only at hSw)
          go_simp
          try with_reducible rfl
        try simp only [Act.put, List.setIfInBounds_toArray, List.set_cons_zero, List.set_cons_succ]
        refine takeD 1 (some 58) (v := ?_) rfl rfl (by kernel_rfl) (by kernel_rfl) (by kernel_rfl) (fun _ _ _ h => h) (by rfl) ?_ (by assumption) ?_
        rotate_left
        · intro w hSw
          (try dsimp only at hSw)
          go_simp
          try with_reducible rfl
        try simp only [Act.put, List.setIfInBounds_toArray, List.set_cons_zero, List.set_cons_succ]
        refine takeD 2 (some 59) (v := ?_) rfl rfl (by kernel_rfl) (by kernel_rfl) (by kernel_rfl) (fun _ _ _ h => h) (by rfl) ?_ (by assumption) ?_
        rotate_left
        · intro w hSw
          (try dsimp only at hSw)
          go_simp
          try with_reducible rfl
        try simp only [Act.put, List.setIfInBounds_toArray, List.set_cons_zero, List.set_cons_succ]
        refine takeD 3 (some 60) (v := ?_) rfl rfl (by kernel_rfl) (by kernel_rfl) (by kernel_rfl) (fun _ _ _ h => h) (by rfl) ?_ (by assumption) ?_
        rotate_left
        · intro w hSw
          (try dsimp only at hSw)
          go_simp
          try with_reducible rfl
        try simp only [Act.put, List.setIfInBounds_toArray, List.set_cons_zero, List.set_cons_succ]
        refine takeD 4 (some 61) (v := ?_) rfl rfl (by kernel_rfl) (by kernel_rfl) (by kernel_rfl) (fun _ _ _ h => h) (by rfl) ?_ (by assumption) ?_
        rotate_left
        · intro w hSw
          (try dsimp only at hSw)
          go_simp
          try with_reducible rfl
        try simp only [Act.put, List.setIfInBounds_toArray, List.set_cons_zero, List.set_cons_succ]
        refine takeD 5 (some 62) (v := ?_) rfl rfl (by kernel_rfl) (by kernel_rfl) (by kernel_rfl) (fun _ _ _ h => h) (by rfl) ?_ (by assumption) ?_
        rotate_left
        · intro w hSw
          (try dsimp only at hSw)
          go_simp
          try with_reducible rfl
        try simp only [Act.put, List.setIfInBounds_toArray, List.set_cons_zero, List.set_cons_succ]
        refine takeD 6 (some 63) (v := ?_) rfl rfl (by kernel_rfl) (by kernel_rfl) (by kernel_rfl) (fun _ _ _ h => h) (by rfl) ?_ (by assumption) ?_
        rotate_left
        · intro w hSw
          (try dsimp only at hSw)
          go_simp
          try with_reducible rfl
        try simp only [Act.put, List.setIfInBounds_toArray, List.set_cons_zero, List.set_cons_succ]
        refine takeD 7 (some 64) (v := ?_) rfl rfl (by kernel_rfl) (by kernel_rfl) (by kernel_rfl) (fun _ _ _ h => h) (by rfl) ?_ (by assumption) ?_
        rotate_left
        · intro w hSw
          (try dsimp only at hSw)
          go_simp
          try with_reducible rfl
        try simp only [Act.put, List.setIfInBounds_toArray, List.set_cons_zero, List.set_cons_succ]
        refine takeD 8 (some 65) (v := ?_) rfl rfl (by kernel_rfl) (by kernel_rfl) (by kernel_rfl) (fun _ _ _ h => h) (by rfl) ?_ (by assumption) ?_
        rotate_left
        · intro w hSw
          (try dsimp only at hSw)
          go_simp
          try with_reducible rfl
        try simp only [Act.put, List.setIfInBounds_toArray, List.set_cons_zero, List.set_cons_succ]
        refine takeD 9 (some 66) (v := ?_) rfl rfl (by kernel_rfl) (by kernel_rfl) (by kernel_rfl) (fun _ _ _ h => h) (by rfl) ?_ (by assumption) ?_
        rotate_left
        · intro w hSw
          (try dsimp only at hSw)
          go_simp
          try with_reducible rfl
        try simp only [Act.put, List.setIfInBounds_toArray, List.set_cons_zero, List.set_cons_succ]
        refine takeD 10 (some 67) (v := ?_) rfl rfl (by kernel_rfl) (by kernel_rfl) (by kernel_rfl) (fun _ _ _ h => h) (by rfl) ?_ (by assumption) ?_
        rotate_left
        · intro w hSw
          (try dsimp only at hSw)
          go_simp
          try with_reducible rfl
        try simp only [Act.put, List.setIfInBounds_toArray, List.set_cons_zero, List.set_cons_succ]
        refine takeD 11 (some 68) (v := ?_) rfl rfl (by kernel_rfl) (by kernel_rfl) (by kernel_rfl) (fun _ _ _ h => h) (by rfl) ?_ (by assumption) ?_
        rotate_left
        · intro w hSw
          (try dsimp only at hSw)
          go_simp
          try with_reducible rfl
        try simp only [Act.put, List.setIfInBounds_toArray, List.set_cons_zero, List.set_cons_succ]
        refine takeD 12 (some 69) (v := ?_) rfl rfl (by kernel_rfl) (by kernel_rfl) (by kernel_rfl) (fun _ _ _ h => h) (by rfl) ?_ (by assumption) ?_
        rotate_left
        · intro w hSw
          (try dsimp only at hSw)
          go_simp
          try with_reducible rfl
        try simp only [Act.put, List.setIfInBounds_toArray, List.set_cons_zero, List.set_cons_succ]
        refine takeD 13 (some 70) (v := ?_) rfl rfl (by kernel_rfl) (by kernel_rfl) (by kernel_rfl) (fun _ _ _ h => h) (by rfl) ?_ (by assumption) ?_
        rotate_left
        · intro w hSw
          (try dsimp only at hSw)
          go_simp
          try with_reducible rfl
        try simp only [Act.put, List.setIfInBounds_toArray, List.set_cons_zero, List.set_cons_succ]
        refine takeD 14 (some 71) (v := ?_) rfl rfl (by kernel_rfl) (by kernel_rfl) (by kernel_rfl) (fun _ _ _ h => h) (by rfl) ?_ (by assumption) ?_
        rotate_left
        · intro w hSw
          (try dsimp only at hSw)
          go_simp
          try with_reducible rfl
        try simp only [Act.put, List.setIfInBounds_toArray, List.set_cons_zero, List.set_cons_succ]
        refine takeD 15 (some 72) (v := ?_) rfl rfl (by kernel_rfl) (by kernel_rfl) (by kernel_rfl) (fun _ _ _ h => h) (by rfl) ?_ (by assumption) ?_
        rotate_left
        · intro w hSw
          (try dsimp only at hSw)
          go_simp
          try with_reducible rfl
        try simp only [Act.put, List.setIfInBounds_toArray, List.set_cons_zero, List.set_cons_succ]
        refine takeD 16 (some 73) (v := ?_) rfl rfl (by kernel_rfl) (by kernel_rfl) (by kernel_rfl) (fun _ _ _ h => h) (by rfl) ?_ (by assumption) ?_
        rotate_left
        · intro w hSw
          (try dsimp only at hSw)
          go_simp
          try with_reducible rfl
        try simp only [Act.put, List.setIfInBounds_toArray, List.set_cons_zero, List.set_cons_succ]
        refine takeD 17 (some 74) (v := ?_) rfl rfl (by kernel_rfl) (by kernel_rfl) (by kernel_rfl) (fun _ _ _ h => h) (by rfl) ?_ (by assumption) ?_
        rotate_left
        · intro w hSw
          (try dsimp only at hSw)
          go_simp
          try with_reducible rfl
        try simp only [Act.put, List.setIfInBounds_toArray, List.set_cons_zero, List.set_cons_succ]
        refine takeD 18 (some 75) (v := ?_) rfl rfl (by kernel_rfl) (by kernel_rfl) (by kernel_rfl) (fun _ _ _ h => h) (by rfl) ?_ (by assumption) ?_
        rotate_left
        · intro w hSw
          (try dsimp only at hSw)
          go_simp
          try with_reducible rfl
        try simp only [Act.put, List.setIfInBounds_toArray, List.set_cons_zero, List.set_cons_succ]
        refine takeD 19 (some 76) (v := ?_) rfl rfl (by kernel_rfl) (by kernel_rfl) (by kernel_rfl) (fun _ _ _ h => h) (by rfl) ?_ (by assumption) ?_
        rotate_left
        · intro w hSw
          (try dsimp only at hSw)
          go_simp
          try with_reducible rfl
        try simp only [Act.put, List.setIfInBounds_toArray, List.set_cons_zero, List.set_cons_succ]
        refine takeD 20 (some 77) (v := ?_) rfl rfl (by kernel_rfl) (by kernel_rfl) (by kernel_rfl) (fun _ _ _ h => h) (by rfl) ?_ (by assumption) ?_
        rotate_left
        · intro w hSw
          (try dsimp only at hSw)
          go_simp
          try with_reducible rfl
        try simp only [Act.put, List.setIfInBounds_toArray, List.set_cons_zero, List.set_cons_succ]
        refine takeD 21 (some 78) (v := ?_) rfl rfl (by kernel_rfl) (by kernel_rfl) (by kernel_rfl) (fun _ _ _ h => h) (by rfl) ?_ (by assumption) ?_
        rotate_left
        · intro w hSw
          (try dsimp only at hSw)
          go_simp
          try with_reducible rfl
        try simp only [Act.put, List.setIfInBounds_toArray, List.set_cons_zero, List.set_cons_succ]
        refine takeD 22 (some 79) (v := ?_) rfl rfl (by kernel_rfl) (by kernel_rfl) (by kernel_rfl) (fun _ _ _ h => h) (by rfl) ?_ (by assumption) ?_
        rotate_left
        · intro w hSw
          (try dsimp only at hSw)
          go_simp
          try with_reducible rfl
        try simp only [Act.put, List.setIfInBounds_toArray, List.set_cons_zero, List.set_cons_succ]
        refine takeD 23 (some 80) (v := ?_) rfl rfl (by kernel_rfl) (by kernel_rfl) (by kernel_rfl) (fun _ _ _ h => h) (by rfl) ?_ (by assumption) ?_
        rotate_left
        · intro w hSw
          (try dsimp only at hSw)
          go_simp
          try with_reducible rfl
        try simp only [Act.put, List.setIfInBounds_toArray, List.set_cons_zero, List.set_cons_succ]
        refine takeD 24 (some 81) (v := ?_) rfl rfl (by kernel_rfl) (by kernel_rfl) (by kernel_rfl) (fun _ _ _ h => h) (by rfl) ?_ (by assumption) ?_
        rotate_left
        · intro w hSw
          (try dsimp only at hSw)
          go_simp
          try with_reducible rfl
        try simp only [Act.put, List.setIfInBounds_toArray, List.set_cons_zero, List.set_cons_succ]
        refine takeD 25 (some 82) (v := ?_) rfl rfl (by kernel_rfl) (by kernel_rfl) (by kernel_rfl) (fun _ _ _ h => h) (by rfl) ?_ (by assumption) ?_
        rotate_left
        · intro w hSw
          (try dsimp only at hSw)
          go_simp
          try with_reducible rfl
        try simp only [Act.put, List.setIfInBounds_toArray, List.set_cons_zero, List.set_cons_succ]
        refine takeD 26 (some 83) (v := ?_) rfl rfl (by kernel_rfl) (by kernel_rfl) (by kernel_rfl) (fun _ _ _ h => h) (by rfl) ?_ (by assumption) ?_
        rotate_left
        · intro w hSw
          (try dsimp only at hSw)
          go_simp
          try with_reducible rfl
        try simp only [Act.put, List.setIfInBounds_toArray, List.set_cons_zero, List.set_cons_succ]
        refine takeD 27 (some 84) (v := ?_) rfl rfl (by kernel_rfl) (by kernel_rfl) (by kernel_rfl) (fun _ _ _ h => h) (by rfl) ?_ (by assumption) ?_
        rotate_left
        · intro w hSw
          (try dsimp only at hSw)
          go_simp
          try with_reducible rfl
        try simp only [Act.put, List.setIfInBounds_toArray, List.set_cons_zero, List.set_cons_succ]
        refine takeD 28 (some 85) (v := ?_) rfl rfl (by kernel_rfl) (by kernel_rfl) (by kernel_rfl) (fun _ _ _ h => h) (by rfl) ?_ (by assumption) ?_
        rotate_left
        · intro w hSw
          (try dsimp only at hSw)
          go_simp
          try with_reducible rfl
        try simp only [Act.put, List.setIfInBounds_toArray, List.set_cons_zero, List.set_cons_succ]
        refine takeD 29 (some 86) (v := ?_) rfl rfl (by kernel_rfl) (by kernel_rfl) (by kernel_rfl) (fun _ _ _ h => h) (by rfl) ?_ (by assumption) ?_
        rotate_left
        · intro w hSw
          (try dsimp only at hSw)
          go_simp
          try with_reducible rfl
        try simp only [Act.put, List.setIfInBounds_toArray, List.set_cons_zero, List.set_cons_succ]
        refine takeD 30 (some 87) (v := ?_) rfl rfl (by kernel_rfl) (by kernel_rfl) (by kernel_rfl) (fun _ _ _ h => h) (by rfl) ?_ (by assumption) ?_
        rotate_left
        · intro w hSw
          (try dsimp only at hSw)
          go_simp
          try with_reducible rfl
        try simp only [Act.put, List.setIfInBounds_toArray, List.set_cons_zero, List.set_cons_succ]
        refine takeD 31 (some 88) (v := ?_) rfl rfl (by kernel_rfl) (by kernel_rfl) (by kernel_rfl) (fun _ _ _ h => h) (by rfl) ?_ (by assumption) ?_
        rotate_left
        · intro w hSw
          (try dsimp only at hSw)
          go_simp
          try with_reducible rfl
        try simp only [Act.put, List.setIfInBounds_toArray, List.set_cons_zero, List.set_cons_succ]
        refine takeD 32 (some 89) (v := ?_) rfl rfl (by kernel_rfl) (by kernel_rfl) (by kernel_rfl) (fun _ _ _ h => h) (by rfl) ?_ (by assumption) ?_
        rotate_left
        · intro w hSw
          (try dsimp only at hSw)
          go_simp
          try with_reducible rfl
        try simp only [Act.put, List.setIfInBounds_toArray, List.set_cons_zero, List.set_cons_succ]
        refine takeD 33 (some 90) (v := ?_) rfl rfl (by kernel_rfl) (by kernel_rfl) (by kernel_rfl) (fun _ _ _ h => h) (by rfl) ?_ (by assumption) ?_
        rotate_left
        · intro w hSw
          (try dsimp only at hSw)
          go_simp
          try with_reducible rfl
        try simp only [Act.put, List.setIfInBounds_toArray, List.set_cons_zero, List.set_cons_succ]
        refine wpAnyH_done (by kernel_rfl) ?_ _
        clear dO1 dO2 dO3 dO4 dB
        go_wp2_with fail
        refine wp_world (fun W => Below w.heap.size w W ∧ Blk W w.heap.size 25 #[.int .i64 c.P, .int .i64 c.H, .int .i64 c.C, .int .i64 c.Mn, .int .i64 c.Mx, .int .i64 c.Rho, .int .i64 c.Bd, .int .i64 c.Win, .int .i64 c.St, .slice A c.rows.length cp, r] ∧ GridS W Pg Pab Pbs k (RS N k 0 (spL ks ++ [(och, ok, ov, of_)])) ∧ World.ownsRow W b0 41 5 (.slice AK ks.length cK) ks.length (o5 ks) ∧ b0 ≤ W.heap.size) ⟨hb2.trans (hHeld.mono hb2.size), HB2.out.below hHeld, HP3.out.below hHeld, own_below HW2.out hHeld, Nat.le_trans hb02 hHeld.size⟩ fun WA ⟨hbA, hBA, hPA, hWA, hb0A⟩ => ?_
        have HBA := Lib.hid hBA
        have HPA := Lib.hid hPA
        have HWA := Lib.hid hWA
        have HRK := Lib.hid (RowN.of_own hWA)
        clear hBA hPA hWA hHeld HB2 HP3 HW2 hb2 hb02 f1 f2 f3 f4
        go_loopw [10] (fun i wr => ∃ m : Nat, m ≤ ks.length ∧ i = .int .i64 m ∧ Below WA.heap.size WA wr) (fun i _ => ks.length - (intOf i).toNat)
        case atStart => exact ⟨0, by omega, rfl, Below.refl _ _⟩
        case round =>
          obtain ⟨m, hm, rfl, hbm⟩ := hrel
          have hbw := Btrans hbA hbm
          by_cases hmlt : m < ks.length
          · obtain ⟨a, ha⟩ : ∃ a, ks[m]? = some a := ⟨_, List.getElem?_eq_getElem hmlt⟩
            obtain ⟨kd, rfl, kdl, k1, k2, _, _⟩ := row5_at HRK.out ha
            have hne := spot_none HN5.out _ (List.mem_of_getElem? (spL_at ks m a ha))
            have dK1 : ∀ w', Below wr.heap.size wr w' → w'.cell? ⟨(kd.add (m * 5)).block, (kd.add (m * 5)).off + 1, none⟩ = some (.int .i64 a.ch) := fun w' hh => by rw [(Btrans hbm hh).cell (by show (kd.add (m * 5)).block < _; rw [block_add]; exact kdl)]; exact k1
            have dK2 : ∀ w', Below wr.heap.size wr w' → w'.cell? ⟨(kd.add (m * 5)).block, (kd.add (m * 5)).off + 2, none⟩ = some (.int .i16 a.k) := fun w' hh => by rw [(Btrans hbm hh).cell (by show (kd.add (m * 5)).block < _; rw [block_add]; exact kdl)]; exact k2
            have dO1 : ∀ w', Below wr.heap.size wr w' → w'.cell? ⟨(ad.add (j * 5)).block, (ad.add (j * 5)).off + 1, none⟩ = some (.int .i64 och) := fun w' hh => E1.out w' (Btrans hbw hh)
            have dO2 : ∀ w', Below wr.heap.size wr w' → w'.cell? ⟨(ad.add (j * 5)).block, (ad.add (j * 5)).off + 2, none⟩ = some (.int .i16 ok) := fun w' hh => E2.out w' (Btrans hbw hh)
            have hmk : (m : Int) < (ks.length : Int) := by omega
            obtain ⟨at_, ach, ak, av, af⟩ := a
            dsimp only at dK1 dK2
            change ¬ (ach = och ∧ ak = ok) at hne
            clear k1 k2 ha
            by_cases hce : ach = och
            · have q1 : (ach == och) = true := by rw [beq_iff_eq]; exact hce
              have q2 : (ak == ok) = false := beq_false_of_ne (fun h => hne ⟨hce, h⟩)
              clear hne hce
              go_wp2_with fail
              refine wp_region_held_drew (S := fun w' => Below wr.heap.size wr w') (by kernel_rfl) (by go_grown) (fun hHeld => ?_)
              refine takeD 0 (some 97) (v := ?_) rfl rfl (by kernel_rfl) (by kernel_rfl) (by kernel_rfl) (fun _ _ _ h => h) (by rfl) ?_ (by assumption) ?_
              rotate_left
              · intro w hSw
                (try dsimp only at hSw)
                go_simp
                try with_reducible rfl
              try simp only [Act.put, List.setIfInBounds_toArray, List.set_cons_zero, List.set_cons_succ]
              refine takeD 1 (some 98) (v := ?_) rfl rfl (by kernel_rfl) (by kernel_rfl) (by kernel_rfl) (fun _ _ _ h => h) (by rfl) ?_ (by assumption) ?_
              rotate_left
              · intro w hSw
                (try dsimp only at hSw)
                go_simp
                try with_reducible rfl
              try simp only [Act.put, List.setIfInBounds_toArray, List.set_cons_zero, List.set_cons_succ]
              refine takeD 2 (some 99) (v := ?_) rfl rfl (by kernel_rfl) (by kernel_rfl) (by kernel_rfl) (fun _ _ _ h => h) (by rfl) ?_ (by assumption) ?_
              rotate_left
              · intro w hSw
                (try dsimp only at hSw)
                go_simp
                try with_reducible rfl
              try simp only [Act.put, List.setIfInBounds_toArray, List.set_cons_zero, List.set_cons_succ]
              refine takeD 3 (some 100) (v := ?_) rfl rfl (by kernel_rfl) (by kernel_rfl) (by kernel_rfl) (fun _ _ _ h => h) (by rfl) ?_ (by assumption) ?_
              rotate_left
              · intro w hSw
                (try dsimp only at hSw)
                go_simp
                try with_reducible rfl
              try simp only [Act.put, List.setIfInBounds_toArray, List.set_cons_zero, List.set_cons_succ]
              refine takeD 4 (some 101) (v := ?_) rfl rfl (by kernel_rfl) (by kernel_rfl) (by kernel_rfl) (fun _ _ _ h => h) (by rfl) ?_ (by assumption) ?_
              rotate_left
              · intro w hSw
                (try dsimp only at hSw)
                go_simp
                try with_reducible rfl
              try simp only [Act.put, List.setIfInBounds_toArray, List.set_cons_zero, List.set_cons_succ]
              refine takeD 5 (some 102) (v := ?_) rfl rfl (by kernel_rfl) (by kernel_rfl) (by kernel_rfl) (fun _ _ _ h => h) (by rfl) ?_ (by assumption) ?_
              rotate_left
              · intro w hSw
                (try dsimp only at hSw)
                go_simp
                try with_reducible rfl
              try simp only [Act.put, List.setIfInBounds_toArray, List.set_cons_zero, List.set_cons_succ]
              refine takeD 6 (some 103) (v := ?_) rfl rfl (by kernel_rfl) (by kernel_rfl) (by kernel_rfl) (fun _ _ _ h => h) (by rfl) ?_ (by assumption) ?_
              rotate_left
              · intro w hSw
                (try dsimp only at hSw)
                go_simp
                try with_reducible rfl
              try simp only [Act.put, List.setIfInBounds_toArray, List.set_cons_zero, List.set_cons_succ]
              refine takeD 7 (some 104) (v := ?_) rfl rfl (by kernel_rfl) (by kernel_rfl) (by kernel_rfl) (fun _ _ _ h => h) (by rfl) ?_ (by assumption) ?_
              rotate_left
              · intro w hSw
                (try dsimp only at hSw)
                go_simp
                try with_reducible rfl
              try simp only [Act.put, List.setIfInBounds_toArray, List.set_cons_zero, List.set_cons_succ]
              refine takeD 8 (some 105) (v := ?_) rfl rfl (by kernel_rfl) (by kernel_rfl) (by kernel_rfl) (fun _ _ _ h => h) (by rfl) ?_ (by assumption) ?_
              rotate_left
              · intro w hSw
                (try dsimp only at hSw)
                go_simp
                try with_reducible rfl
              try simp only [Act.put, List.setIfInBounds_toArray, List.set_cons_zero, List.set_cons_succ]
              refine takeD 9 (some 106) (v := ?_) rfl rfl (by kernel_rfl) (by kernel_rfl) (by kernel_rfl) (fun _ _ _ h => h) (by rfl) ?_ (by assumption) ?_
              rotate_left
              · intro w hSw
                (try dsimp only at hSw)
                go_simp
                try with_reducible rfl
              try simp only [Act.put, List.setIfInBounds_toArray, List.set_cons_zero, List.set_cons_succ]
              refine takeD 10 (some 107) (v := ?_) rfl rfl (by kernel_rfl) (by kernel_rfl) (by kernel_rfl) (fun _ _ _ h => h) (by rfl) ?_ (by assumption) ?_
              rotate_left
              · intro w hSw
                (try dsimp only at hSw)
                go_simp
                try with_reducible rfl
              try simp only [Act.put, List.setIfInBounds_toArray, List.set_cons_zero, List.set_cons_succ]
              refine takeD 11 (some 108) (v := ?_) rfl rfl (by kernel_rfl) (by kernel_rfl) (by kernel_rfl) (fun _ _ _ h => h) (by rfl) ?_ (by assumption) ?_
              rotate_left
              · intro w hSw
                (try dsimp only at hSw)
                go_simp
                try with_reducible rfl
              try simp only [Act.put, List.setIfInBounds_toArray, List.set_cons_zero, List.set_cons_succ]
              refine takeD 12 (some 109) (v := ?_) rfl rfl (by kernel_rfl) (by kernel_rfl) (by kernel_rfl) (fun _ _ _ h => h) (by rfl) ?_ (by assumption) ?_
              rotate_left
              · intro w hSw
                (try dsimp only at hSw)
                go_simp
                try with_reducible rfl
              try simp only [Act.put, List.setIfInBounds_toArray, List.set_cons_zero, List.set_cons_succ]
              refine takeD 13 (some 110) (v := ?_) rfl rfl (by kernel_rfl) (by kernel_rfl) (by kernel_rfl) (fun _ _ _ h => h) (by rfl) ?_ (by assumption) ?_
              rotate_left
              · intro w hSw
                (try dsimp only at hSw)
                go_simp
                try with_reducible rfl
              try simp only [Act.put, List.setIfInBounds_toArray, List.set_cons_zero, List.set_cons_succ]
              refine takeD 14 (some 111) (v := ?_) rfl rfl (by kernel_rfl) (by kernel_rfl) (by kernel_rfl) (fun _ _ _ h => h) (by rfl) ?_ (by assumption) ?_
              rotate_left
              · intro w hSw
                (try dsimp only at hSw)
                go_simp
                try with_reducible rfl
              try simp only [Act.put, List.setIfInBounds_toArray, List.set_cons_zero, List.set_cons_succ]
              refine takeD 15 (some 112) (v := ?_) rfl rfl (by kernel_rfl) (by kernel_rfl) (by kernel_rfl) (fun _ _ _ h => h) (by rfl) ?_ (by assumption) ?_
              rotate_left
              · intro w hSw
                (try dsimp only at hSw)
                go_simp
                try with_reducible rfl
              try simp only [Act.put, List.setIfInBounds_toArray, List.set_cons_zero, List.set_cons_succ]
              refine takeD 16 (some 113) (v := ?_) rfl rfl (by kernel_rfl) (by kernel_rfl) (by kernel_rfl) (fun _ _ _ h => h) (by rfl) ?_ (by assumption) ?_
              rotate_left
              · intro w hSw
                (try dsimp only at hSw)
                go_simp
                try with_reducible rfl
              try simp only [Act.put, List.setIfInBounds_toArray, List.set_cons_zero, List.set_cons_succ]
              refine takeD 17 (some 114) (v := ?_) rfl rfl (by kernel_rfl) (by kernel_rfl) (by kernel_rfl) (fun _ _ _ h => h) (by rfl) ?_ (by assumption) ?_
              rotate_left
              · intro w hSw
                (try dsimp only at hSw)
                go_simp
                try with_reducible rfl
              try simp only [Act.put, List.setIfInBounds_toArray, List.set_cons_zero, List.set_cons_succ]
              refine takeD 18 (some 115) (v := ?_) rfl rfl (by kernel_rfl) (by kernel_rfl) (by kernel_rfl) (fun _ _ _ h => h) (by rfl) ?_ (by assumption) ?_
              rotate_left
              · intro w hSw
                (try dsimp only at hSw)
                go_simp
                try with_reducible rfl
              try simp only [Act.put, List.setIfInBounds_toArray, List.set_cons_zero, List.set_cons_succ]
              refine takeD 19 (some 116) (v := ?_) rfl rfl (by kernel_rfl) (by kernel_rfl) (by kernel_rfl) (fun _ _ _ h => h) (by rfl) ?_ (by assumption) ?_
              rotate_left
              · intro w hSw
                (try dsimp only at hSw)
                go_simp
                try with_reducible rfl
              try simp only [Act.put, List.setIfInBounds_toArray, List.set_cons_zero, List.set_cons_succ]
              refine takeD 20 (some 117) (v := ?_) rfl rfl (by kernel_rfl) (by kernel_rfl) (by kernel_rfl) (fun _ _ _ h => h) (by rfl) ?_ (by assumption) ?_
              rotate_left
              · intro w hSw
                (try dsimp only at hSw)
                go_simp
                try with_reducible rfl
              try simp only [Act.put, List.setIfInBounds_toArray, List.set_cons_zero, List.set_cons_succ]
              refine takeD 21 (some 118) (v := ?_) rfl rfl (by kernel_rfl) (by kernel_rfl) (by kernel_rfl) (fun _ _ _ h => h) (by rfl) ?_ (by assumption) ?_
              rotate_left
              · intro w hSw
                (try dsimp only at hSw)
                go_simp
                try with_reducible rfl
              try simp only [Act.put, List.setIfInBounds_toArray, List.set_cons_zero, List.set_cons_succ]
              refine takeD 22 (some 119) (v := ?_) rfl rfl (by kernel_rfl) (by kernel_rfl) (by kernel_rfl) (fun _ _ _ h => h) (by rfl) ?_ (by assumption) ?_
              rotate_left
              · intro w hSw
                (try dsimp only at hSw)
                go_simp
                try with_reducible rfl
              try simp only [Act.put, List.setIfInBounds_toArray, List.set_cons_zero, List.set_cons_succ]
              refine takeD 23 (some 120) (v := ?_) rfl rfl (by kernel_rfl) (by kernel_rfl) (by kernel_rfl) (fun _ _ _ h => h) (by rfl) ?_ (by assumption) ?_
              rotate_left
              · intro w hSw
                (try dsimp only at hSw)
                go_simp
                try with_reducible rfl
              try simp only [Act.put, List.setIfInBounds_toArray, List.set_cons_zero, List.set_cons_succ]
              refine wpAnyH_done (by kernel_rfl) ?_ _
              have hbn := Btrans hbm hHeld
              clear dK1 dK2 dO1 dO2 hHeld
              go_wp2
              go_roundw
              case rel => exact ⟨m + 1, by omega, by go_num, hbn⟩
              case measure => simp [intOf]; omega
            · have q1 : (ach == och) = false := beq_false_of_ne hce
              clear hne hce
              go_wp2_with fail
              refine wp_region_held_drew (S := fun w' => Below wr.heap.size wr w') (by kernel_rfl) (by go_grown) (fun hHeld => ?_)
              refine takeD 0 (some 97) (v := ?_) rfl rfl (by kernel_rfl) (by kernel_rfl) (by kernel_rfl) (fun _ _ _ h => h) (by rfl) ?_ (by assumption) ?_
              rotate_left
              · intro w hSw
                (try dsimp only at hSw)
                go_simp
                try with_reducible rfl
              try simp only [Act.put, List.setIfInBounds_toArray, List.set_cons_zero, List.set_cons_succ]
              refine takeD 1 (some 98) (v := ?_) rfl rfl (by kernel_rfl) (by kernel_rfl) (by kernel_rfl) (fun _ _ _ h => h) (by rfl) ?_ (by assumption) ?_
              rotate_left
              · intro w hSw
                (try dsimp only at hSw)
                go_simp
                try with_reducible rfl
              try simp only [Act.put, List.setIfInBounds_toArray, List.set_cons_zero, List.set_cons_succ]
              refine takeD 2 (some 99) (v := ?_) rfl rfl (by kernel_rfl) (by kernel_rfl) (by kernel_rfl) (fun _ _ _ h => h) (by rfl) ?_ (by assumption) ?_
              rotate_left
              · intro w hSw
                (try dsimp only at hSw)
                go_simp
                try with_reducible rfl
              try simp only [Act.put, List.setIfInBounds_toArray, List.set_cons_zero, List.set_cons_succ]
              refine takeD 3 (some 100) (v := ?_) rfl rfl (by kernel_rfl) (by kernel_rfl) (by kernel_rfl) (fun _ _ _ h => h) (by rfl) ?_ (by assumption) ?_
              rotate_left
              · intro w hSw
                (try dsimp only at hSw)
                go_simp
                try with_reducible rfl
              try simp only [Act.put, List.setIfInBounds_toArray, List.set_cons_zero, List.set_cons_succ]
              refine takeD 4 (some 101) (v := ?_) rfl rfl (by kernel_rfl) (by kernel_rfl) (by kernel_rfl) (fun _ _ _ h => h) (by rfl) ?_ (by assumption) ?_
              rotate_left
              · intro w hSw
                (try dsimp only at hSw)
                go_simp
                try with_reducible rfl
              try simp only [Act.put, List.setIfInBounds_toArray, List.set_cons_zero, List.set_cons_succ]
              refine takeD 5 (some 102) (v := ?_) rfl rfl (by kernel_rfl) (by kernel_rfl) (by kernel_rfl) (fun _ _ _ h => h) (by rfl) ?_ (by assumption) ?_
              rotate_left
              · intro w hSw
                (try dsimp only at hSw)
                go_simp
                try with_reducible rfl
              try simp only [Act.put, List.setIfInBounds_toArray, List.set_cons_zero, List.set_cons_succ]
              refine takeD 6 (some 103) (v := ?_) rfl rfl (by kernel_rfl) (by kernel_rfl) (by kernel_rfl) (fun _ _ _ h => h) (by rfl) ?_ (by assumption) ?_
              rotate_left
              · intro w hSw
                (try dsimp only at hSw)
                go_simp
                try with_reducible rfl
              try simp only [Act.put, List.setIfInBounds_toArray, List.set_cons_zero, List.set_cons_succ]
              refine takeD 7 (some 104) (v := ?_) rfl rfl (by kernel_rfl) (by kernel_rfl) (by kernel_rfl) (fun _ _ _ h => h) (by rfl) ?_ (by assumption) ?_
              rotate_left
              · intro w hSw
                (try dsimp only at hSw)
                go_simp
                try with_reducible rfl
              try simp only [Act.put, List.setIfInBounds_toArray, List.set_cons_zero, List.set_cons_succ]
              refine takeD 8 (some 105) (v := ?_) rfl rfl (by kernel_rfl) (by kernel_rfl) (by kernel_rfl) (fun _ _ _ h => h) (by rfl) ?_ (by assumption) ?_
              rotate_left
              · intro w hSw
                (try dsimp only at hSw)
                go_simp
                try with_reducible rfl
              try simp only [Act.put, List.setIfInBounds_toArray, List.set_cons_zero, List.set_cons_succ]
              refine takeD 9 (some 106) (v := ?_) rfl rfl (by kernel_rfl) (by kernel_rfl) (by kernel_rfl) (fun _ _ _ h => h) (by rfl) ?_ (by assumption) ?_
              rotate_left
              · intro w hSw
                (try dsimp only at hSw)
                go_simp
                try with_reducible rfl
              try simp only [Act.put, List.setIfInBounds_toArray, List.set_cons_zero, List.set_cons_succ]
              refine takeD 10 (some 107) (v := ?_) rfl rfl (by kernel_rfl) (by kernel_rfl) (by kernel_rfl) (fun _ _ _ h => h) (by rfl) ?_ (by assumption) ?_
              rotate_left
              · intro w hSw
                (try dsimp only at hSw)
                go_simp
                try with_reducible rfl
              try simp only [Act.put, List.setIfInBounds_toArray, List.set_cons_zero, List.set_cons_succ]
              refine takeD 11 (some 108) (v := ?_) rfl rfl (by kernel_rfl) (by kernel_rfl) (by kernel_rfl) (fun _ _ _ h => h) (by rfl) ?_ (by assumption) ?_
              rotate_left
              · intro w hSw
                (try dsimp only at hSw)
                go_simp
                try with_reducible rfl
              try simp only [Act.put, List.setIfInBounds_toArray, List.set_cons_zero, List.set_cons_succ]
              refine skipD 12 (some 109) rfl rfl (by kernel_rfl) (by kernel_rfl) (by kernel_rfl) (fun _ _ _ h => h) (by rfl) (by assumption) ?_
              try simp only [Act.put, List.setIfInBounds_toArray, List.set_cons_zero, List.set_cons_succ]
              refine skipD 13 (some 110) rfl rfl (by kernel_rfl) (by kernel_rfl) (by kernel_rfl) (fun _ _ _ h => h) (by rfl) (by assumption) ?_
              try simp only [Act.put, List.setIfInBounds_toArray, List.set_cons_zero, List.set_cons_succ]
              refine skipD 14 (some 111) rfl rfl (by kernel_rfl) (by kernel_rfl) (by kernel_rfl) (fun _ _ _ h => h) (by rfl) (by assumption) ?_
              try simp only [Act.put, List.setIfInBounds_toArray, List.set_cons_zero, List.set_cons_succ]
              refine skipD 15 (some 112) rfl rfl (by kernel_rfl) (by kernel_rfl) (by kernel_rfl) (fun _ _ _ h => h) (by rfl) (by assumption) ?_
              try simp only [Act.put, List.setIfInBounds_toArray, List.set_cons_zero, List.set_cons_succ]
              refine skipD 16 (some 113) rfl rfl (by kernel_rfl) (by kernel_rfl) (by kernel_rfl) (fun _ _ _ h => h) (by rfl) (by assumption) ?_
              try simp only [Act.put, List.setIfInBounds_toArray, List.set_cons_zero, List.set_cons_succ]
              refine skipD 17 (some 114) rfl rfl (by kernel_rfl) (by kernel_rfl) (by kernel_rfl) (fun _ _ _ h => h) (by rfl) (by assumption) ?_
              try simp only [Act.put, List.setIfInBounds_toArray, List.set_cons_zero, List.set_cons_succ]
              refine skipD 18 (some 115) rfl rfl (by kernel_rfl) (by kernel_rfl) (by kernel_rfl) (fun _ _ _ h => h) (by rfl) (by assumption) ?_
              try simp only [Act.put, List.setIfInBounds_toArray, List.set_cons_zero, List.set_cons_succ]
              refine skipD 19 (some 116) rfl rfl (by kernel_rfl) (by kernel_rfl) (by kernel_rfl) (fun _ _ _ h => h) (by rfl) (by assumption) ?_
              try simp only [Act.put, List.setIfInBounds_toArray, List.set_cons_zero, List.set_cons_succ]
              refine skipD 20 (some 117) rfl rfl (by kernel_rfl) (by kernel_rfl) (by kernel_rfl) (fun _ _ _ h => h) (by rfl) (by assumption) ?_
              try simp only [Act.put, List.setIfInBounds_toArray, List.set_cons_zero, List.set_cons_succ]
              refine skipD 21 (some 118) rfl rfl (by kernel_rfl) (by kernel_rfl) (by kernel_rfl) (fun _ _ _ h => h) (by rfl) (by assumption) ?_
              try simp only [Act.put, List.setIfInBounds_toArray, List.set_cons_zero, List.set_cons_succ]
              refine skipD 22 (some 119) rfl rfl (by kernel_rfl) (by kernel_rfl) (by kernel_rfl) (fun _ _ _ h => h) (by rfl) (by assumption) ?_
              try simp only [Act.put, List.setIfInBounds_toArray, List.set_cons_zero, List.set_cons_succ]
              refine takeD 23 (some 120) (v := ?_) rfl rfl (by kernel_rfl) (by kernel_rfl) (by kernel_rfl) (fun _ _ _ h => h) (by rfl) ?_ (by assumption) ?_
              rotate_left
              · intro w hSw
                (try dsimp only at hSw)
                go_simp
                try with_reducible rfl
              try simp only [Act.put, List.setIfInBounds_toArray, List.set_cons_zero, List.set_cons_succ]
              refine wpAnyH_done (by kernel_rfl) ?_ _
              have hbn := Btrans hbm hHeld
              clear dK1 dK2 dO1 dO2 hHeld
              go_wp2
              go_roundw
              case rel => exact ⟨m + 1, by omega, by go_num, hbn⟩
              case measure => simp [intOf]; omega
          · have hme : m = ks.length := by omega
            subst hme
            have e0 := E0.out wr hbw
            have e1 := E1.out wr hbw
            have e2 := E2.out wr hbw
            have e3 := E3.out wr hbw
            have e4 := E4.out wr hbw
            have HWm := Lib.hid (own_below HWA.out hbm)
            have hzm := hbm.size
            go_wp2_with (at_builtin; refine wpList_appN elO rfl (.tmp 121) (.tmp 126) rfl b0 _ ks.length _ rfl (own_below HWm.out (by go_grown)) _ 1 (o5 [(⟨ot, och, ok, ov, of_⟩ : OpI)]) rfl (RowN.of_blk (Blk.new _ _ _ _ (by first | rfl | simp)) rfl rfl (Nat.le_refl _) (by decide)) (o5_one _) ?_ ?_ ?_ ?_)
            case refine_1 => unfold maxLen; omega
            case refine_2 => omega
            case refine_3 => simp; omega
            intro v7 w7 own7 hg7 _
            have hb7 : Below b0 wr w7 := below_app ((Below.refl b0 wr).alloc (by omega) _) (by simp; omega) (own_below HWm.out ((Below.refl _ _).alloc (Nat.le_refl _) _)) hg7 (Nat.le_refl _)
            have hbx : Below w.heap.size w w7 := hbw.trans (hb7.mono (by omega))
            have HB7 := Lib.hid ((HBA.out.below hbm).keep hb7 lB0)
            have HP7 := Lib.hid (show GridS w7 Pg Pab Pbs k (RS N k 0 (spL (ks ++ [(⟨ot, och, ok, ov, of_⟩ : OpI)]))) by rw [spL_app]; exact (HPA.out.below hbm).belowB hb7 HUP.out)
            rw [← o5_app] at own7
            have HW7 := Lib.hid (show w7.ownsRow b0 41 5 v7 (ks ++ [(⟨ot, och, ok, ov, of_⟩ : OpI)]).length (o5 (ks ++ [(⟨ot, och, ok, ov, of_⟩ : OpI)])) by rw [List.length_append]; exact own7)
            have hnd7 := Lib.hid (show ND (spL (ks ++ [(⟨ot, och, ok, ov, of_⟩ : OpI)])) by rw [spL_app]; exact ND_add HND.out HN5.out)
            have hin7 := Lib.hid (show InG N k (spL (ks ++ [(⟨ot, och, ok, ov, of_⟩ : OpI)])) by rw [spL_app]; exact InG_add HIN.out ⟨n1, n2, n3, n4⟩)
            have hb07 := hb7.size
            clear own7 hg7 hb7 e0 e1 e2 e3 e4 HWm hwk
            go_wp2
            go_roundw
            case rel => exact ⟨j + 1, ks ++ [(⟨ot, och, ok, ov, of_⟩ : OpI)], by omega, by go_num, hbx, HB7.out, HP7.out, HW7.out, hnd7.out, hin7.out, by rw [List.length_append]; simp; omega, by omega⟩
            case measure => simp [intOf]; omega
      · have he : j = l.length := by omega
        subst he
        clear hlt
        have hHIN := HIN.out
        have hcz := cnt_zero (sp := spL ks) (fun s hs => ⟨(hHIN s hs).1, (hHIN s hs).2.2.1⟩)
        have HCZ := Lib.hid hcz
        clear hHIN hcz
        go_wp2_with fail
        go_loopw [11, 12] (fun vv ik wr => ∃ kt : Nat, kt ≤ k + 2 ∧ ik = .int .i64 kt ∧ vv = .int .i64 (cnt (spL ks) (kt : Int) 0 : Nat) ∧ Below w.heap.size w wr ∧ Blk wr w.heap.size 25 #[.int .i64 c.P, .int .i64 c.H, .int .i64 c.C, .int .i64 c.Mn, .int .i64 c.Mx, .int .i64 c.Rho, .int .i64 c.Bd, .int .i64 c.Win, .int .i64 c.St, .slice A c.rows.length cp, r] ∧ GridS wr Pg Pab Pbs k (RS N k kt (spL ks)) ∧ World.ownsRow wr b0 41 5 (.slice AK ks.length cK) ks.length (o5 ks) ∧ b0 ≤ wr.heap.size) (fun _ ik _ => k + 2 - (intOf ik).toNat)
        case atStart => exact ⟨0, by omega, rfl, by rw [show ((0 : Nat) : Int) = 0 from rfl, HCZ.out]; rfl, hb, HB.out, HP.out, HW.out, hb0r⟩
        case round =>
          clear hb HB HP HW hb0r
          obtain ⟨kt, hkt, rfl, rfl, hb, hB, hP, hown, hb0r⟩ := hrel
          have HB := Lib.hid hB
          have HP := Lib.hid hP
          have HW := Lib.hid hown
          have cB := hB.cells
          have lB := hB.lt
          have hcw : IntKind.i64.wrap (c.C + 2) = c.C + 2 := IntWalk.i64_in _ (by rw [HCK.out]; omega)
          clear hB hP hown
          by_cases hlk : kt < k + 2
          · have hcl : decide ((kt : Int) < c.C + 2) = true := decide_eq_true (by rw [HCK.out]; omega)
            go_wp2_with fail
            refine (reasons_any _ c kt _ ⟨_, _, rfl, HS.out.below hb⟩ (by omega) (by rw [← HNN.out]; omega)).mono ?_
            rintro e W5 ⟨Ar, cr, rfl, hrow, hoff, hk⟩
            rw [← HNN.out] at hrow hoff
            try rw [← HNN.out]
            have HROW := Lib.hid hrow
            have HOFF := Lib.hid (hoff (gblocks Pg Pab Pbs) HP.out.lt)
            have hb5 := Btrans hb hk
            have HB5 := Lib.hid (HB.out.below hk)
            have HP5 := Lib.hid (HP.out.below hk)
            have HW5 := Lib.hid (own_below HW.out hk)
            have hz5 := hk.size
            clear hrow hoff hk HB HP HW cB lB hb
            go_wp2_with fail
            refine (gtell_any _ Pg Pab k cr Pbs (RS N k kt (spL ks)) Ar (reasonsL N kt) HP5.out (fun r hr => by rw [RS_from N k kt (spL ks) r hr]; omega) HROW.out (by rw [reasonsL_len, HBP.out]) HOFF.out).mono ?_
            rintro e W6 ⟨ca, rfl, hca, hcla, hg, ho⟩
            rw [RS_adv N k kt (spL ks) (by omega) (fun s hs => by have := (HIN.out s hs).2.2.2; omega)] at hg
            rw [RS_tell N k kt (spL ks) (reasonsL N kt) (by omega) (reasonsL_len N kt)] at hca
            rw [HBP.out]
            have hb6 := Only.below hb5 hb5.size ho HLP'.out
            have HB6 := Lib.hid (HB5.out.onlyG ho HLP.out hlPB)
            have HP6 := Lib.hid hg
            have HW6 := Lib.hid (own_onlyB HW5.out ho HUP.out)
            have HR6 := Lib.hid (HROW.out.only ho HOFF.out)
            have HCA := Lib.hid hca
            have hz6 := ho.size
            clear hca hcla hg ho HB5 HP5 HW5 hb5 HROW
            go_wp2_with fail
            refine wp_world (fun W => Below w.heap.size w W ∧ Blk W w.heap.size 25 #[.int .i64 c.P, .int .i64 c.H, .int .i64 c.C, .int .i64 c.Mn, .int .i64 c.Mx, .int .i64 c.Rho, .int .i64 c.Bd, .int .i64 c.Win, .int .i64 c.St, .slice A c.rows.length cp, r] ∧ GridS W Pg Pab Pbs k (RS N k (kt + 1) (spL ks)) ∧ World.ownsRow W b0 41 5 (.slice AK ks.length cK) ks.length (o5 ks) ∧ b0 ≤ W.heap.size ∧ Row W (.slice Ar (reasonsL N kt).length cr) ((reasonsL N kt).map (.int .i64)) ∧ Blk W ca 51 (c3 (rtell (reasonsL N kt) (spL ks) kt N)).toArray) ⟨hb6, HB6.out, HP6.out, HW6.out, by omega, HR6.out, HCA.out⟩ fun WD ⟨hbD, hBD, hPD, hWD, hb0D, hRD, hCD⟩ => ?_
            have HBD := Lib.hid hBD
            have HPD := Lib.hid hPD
            have HWD := Lib.hid hWD
            have HRD := Lib.hid hRD
            have HCD := Lib.hid hCD
            have HRK := Lib.hid (RowN.of_own hWD)
            have hcal := hCD.lt
            clear hBD hPD hWD hRD hCD HB6 HP6 HW6 HR6 HCA hb6
            go_loopw [11, 15] (fun vv ich wr => ∃ ch : Nat, ch ≤ N ∧ ich = .int .i64 ch ∧ vv = .int .i64 (cnt (spL ks) (kt : Int) (ch : Int) : Nat) ∧ Below WD.heap.size WD wr) (fun _ ich _ => N - (intOf ich).toNat)
            case atStart => exact ⟨0, by omega, rfl, rfl, Below.refl _ _⟩
            case round =>
              obtain ⟨ch, hch, rfl, rfl, hbc⟩ := hrel
              by_cases hcN : ch < N
              · obtain ⟨y, hy⟩ : ∃ y, (reasonsL N kt)[ch]? = some y := ⟨_, List.getElem?_eq_getElem (by rw [reasonsL_len]; exact hcN)⟩
                obtain ⟨rd, cr2, e1, hcy, hcy2⟩ := (HRD.out.below hbc).at_new (show ((reasonsL N kt).map (Value.int .i64))[ch]? = some (.int .i64 y) by rw [List.getElem?_map, hy]; rfl)
                obtain ⟨rfl, -⟩ : Ar = some rd ∧ True := by injection e1 with e1; exact ⟨e1, trivial⟩
                have HY := Lib.hid hy
                have hchr : (ch : Int) < ((reasonsL N kt).length : Int) := by rw [reasonsL_len]; omega
                have hchN : (ch : Int) < (N : Int) := by omega
                clear e1 hy
                go_wp2_with fail
                obtain ⟨wb, hwb⟩ : ∃ b, b = wr.heap.size := ⟨_, rfl⟩
                rw [← hwb]
                have hbz := hbc.size
                refine wp_world (fun W => Below WD.heap.size WD W ∧ Blk W wb 51 #[.int .i64 y, .int .i64 0, .int .i64 0] ∧ WD.heap.size ≤ wb ∧ wb < W.heap.size) ⟨hbc.alloc hbc.size _, Blk.new _ _ _ _ hwb, by omega, by simp; omega⟩ fun WE ⟨hbE, hBE, hlE, hlE2⟩ => ?_
                have HBE := Lib.hid hBE
                clear hBE hbc hcy hcy2 hwb hbz
                go_loopw [11, 17] (fun vv ij wr => ∃ m : Nat, m ≤ ks.length ∧ ij = .int .i64 m ∧ vv = .int .i64 (cnt (spL ks) (kt : Int) (ch : Int) + mc ((spL ks).take m) (ch : Int) (kt : Int) : Nat) ∧ Below wb WE wr ∧ Blk wr wb 51 #[.int .i64 (wantOf ((spL ks).take m) (ch : Int) (kt : Int) y).1, .int .i64 (wantOf ((spL ks).take m) (ch : Int) (kt : Int) y).2.1, .int .i64 (wantOf ((spL ks).take m) (ch : Int) (kt : Int) y).2.2]) (fun _ ij _ => ks.length - (intOf ij).toNat)
                case atStart => exact ⟨0, by omega, rfl, rfl, Below.refl _ _, HBE.out⟩
                case round =>
                  obtain ⟨m, hm, rfl, rfl, hbm, hWm⟩ := hrel
                  have hbD2 : Below WD.heap.size WD wr := hbE.trans (hbm.mono hlE)
                  have HWM := Lib.hid hWm
                  by_cases hmlt : m < ks.length
                  · obtain ⟨a, ha⟩ : ∃ a, ks[m]? = some a := ⟨_, List.getElem?_eq_getElem hmlt⟩
                    obtain ⟨kd, rfl, kdl, k1, k2, k3, k4⟩ := row5_at HRK.out ha
                    have e1 : wr.cell? ⟨(kd.add (m * 5)).block, (kd.add (m * 5)).off + 1, none⟩ = some (.int .i64 a.ch) := by rw [hbD2.cell (by show (kd.add (m * 5)).block < _; rw [block_add]; exact kdl)]; exact k1
                    have e2 : wr.cell? ⟨(kd.add (m * 5)).block, (kd.add (m * 5)).off + 2, none⟩ = some (.int .i16 a.k) := by rw [hbD2.cell (by show (kd.add (m * 5)).block < _; rw [block_add]; exact kdl)]; exact k2
                    have e3 : wr.cell? ⟨(kd.add (m * 5)).block, (kd.add (m * 5)).off + 3, none⟩ = some (.int .i64 a.v) := by rw [hbD2.cell (by show (kd.add (m * 5)).block < _; rw [block_add]; exact kdl)]; exact k3
                    have e4 : wr.cell? ⟨(kd.add (m * 5)).block, (kd.add (m * 5)).off + 4, none⟩ = some (.int .i64 a.f) := by rw [hbD2.cell (by show (kd.add (m * 5)).block < _; rw [block_add]; exact kdl)]; exact k4
                    have hsa := spL_at ks m a ha
                    have hin := HIN.out _ (List.mem_of_getElem? hsa)
                    have hmst := mc_step hsa (ch : Int) (kt : Int)
                    have HWY := Lib.hid (fun h1 h2 => want_yes HND.out hsa (ch : Int) (kt : Int) y h1 h2)
                    have HWN := Lib.hid (fun h1 => want_no hsa (ch : Int) (kt : Int) y h1)
                    have hmk : (m : Int) < (ks.length : Int) := by omega
                    have hcl1 := cnt_le (spL ks) (kt : Int) (ch : Int)
                    have hmc1 : mc ((spL ks).take m) (ch : Int) (kt : Int) ≤ ((spL ks).take m).length := mc_le _ _ _
                    rw [List.length_take] at hmc1
                    rw [spL_len] at hcl1 hmc1
                    obtain ⟨at_, ach, ak, av, af⟩ := a
                    change 0 ≤ ach ∧ ach < (N : Int) ∧ 0 ≤ ak ∧ ak < (k : Int) at hin
                    dsimp only at e1 e2 e3 e4
                    change _ = _ + (if ach = (ch : Int) ∧ ak = (kt : Int) then 1 else 0) at hmst
                    have hwk2 : IntKind.i64.wrap ak = ak := IntWalk.i64_in _ (by omega)
                    clear k1 k2 k3 k4 ha hsa
                    by_cases hyes : ach = (ch : Int) ∧ ak = (kt : Int)
                    · rw [if_pos hyes] at hmst
                      have HWY2 := Lib.hid (HWY.out hyes.1 hyes.2)
                      have q1 : (ach == (ch : Int)) = true := by rw [beq_iff_eq]; exact hyes.1
                      have q2 : (ak == (kt : Int)) = true := by rw [beq_iff_eq]; exact hyes.2
                      have HMS := Lib.hid hmst
                      obtain ⟨X, hX⟩ : ∃ X, X = cnt (spL ks) (kt : Int) (ch : Int) + mc ((spL ks).take m) (ch : Int) (kt : Int) := ⟨_, rfl⟩
                      rw [← hX]
                      have hxw : IntKind.i64.wrap ((X : Int) + 1) = (X : Int) + 1 := IntWalk.i64_in _ (by omega)
                      have HX := Lib.hid hX
                      have hwx := HWM.out.cells
                      have hwf := HWM.out.froz
                      have hwl := HWM.out.lt
                      clear hyes hmst HWY HWN hcl1 hmc1 hX hWm
                      go_wp2_with fail
                      go_still_tail 13, (by kernel_rfl)
                      go_wp2
                      go_roundw
                      case rel =>
                        refine ⟨m + 1, by omega, by go_num, ?_, ?_, ?_⟩
                        · exact congrArg (Value.int .i64) (by have h1 := HX.out; have h2 := HMS.out; omega)
                        · exact (((hbm.drew).setCell (p := ⟨wb, 0, none⟩) (Nat.le_refl _) _).setCell (p := ⟨wb, 1, none⟩) (Nat.le_refl _) _).setCell (p := ⟨wb, 2, none⟩) (Nat.le_refl _) _
                        · rw [HWY2.out]
                          exact (((HWM.out.drw).set 0 (.int .i64 1)).set 1 (.int .i64 av)).set 2 (.int .i64 af)
                      case measure => simp [intOf]; omega
                    · rw [if_neg hyes] at hmst
                      have HWN2 := Lib.hid (HWN.out hyes)
                      have HMS := Lib.hid hmst
                      have hwx := HWM.out.cells
                      have HBM := Lib.hid hbm
                      by_cases hce : ach = (ch : Int)
                      · have q1 : (ach == (ch : Int)) = true := by rw [beq_iff_eq]; exact hce
                        have q2 : (ak == (kt : Int)) = false := beq_false_of_ne (fun h => hyes ⟨hce, h⟩)
                        clear hyes hmst HWY HWN hcl1 hmc1 hWm hce
                        go_wp2
                        go_roundw
                        case rel => exact ⟨m + 1, by omega, by go_num, congrArg (Value.int .i64) (by have h2 := HMS.out; omega), HBM.out, by rw [HWN2.out]; exact HWM.out⟩
                        case measure => simp [intOf]; omega
                      · have q1 : (ach == (ch : Int)) = false := beq_false_of_ne hce
                        clear hyes hmst HWY HWN hcl1 hmc1 hWm hce
                        go_wp2
                        go_roundw
                        case rel => exact ⟨m + 1, by omega, by go_num, congrArg (Value.int .i64) (by have h2 := HMS.out; omega), HBM.out, by rw [HWN2.out]; exact HWM.out⟩
                        case measure => simp [intOf]; omega
                  · have hme : m = ks.length := by omega
                    subst hme
                    have htk : (spL ks).take ks.length = spL ks := by rw [← spL_len ks, List.take_length]
                    have HWM2 := Lib.hid (show Blk wr wb 51 #[.int .i64 (wantOf (spL ks) (ch : Int) (kt : Int) y).1, .int .i64 (wantOf (spL ks) (ch : Int) (kt : Int) y).2.1, .int .i64 (wantOf (spL ks) (ch : Int) (kt : Int) y).2.2] by have := HWM.out; rw [htk] at this; exact this)
                    rw [htk, ← cnt_step]
                    obtain ⟨t0, t1, t2⟩ := c3_at _ ch _ (tell_at N (spL ks) (reasonsL N kt) kt ch hcN y HY.out)
                    obtain ⟨z, hz⟩ : ∃ z, z = wantOf (spL ks) (ch : Int) (kt : Int) y := ⟨_, rfl⟩
                    rw [← hz] at HWM2 t0 t1 t2
                    have HT0 := Lib.hid t0
                    have HT1 := Lib.hid t1
                    have HT2 := Lib.hid t2
                    have hwl := HWM2.out.lt
                    clear hWm HWM htk t0 t1 t2 hz
                    have dW : ∀ w', Below wr.heap.size wr w' → ∀ i, w'.cell? ⟨wb, i, none⟩ = (#[.int .i64 z.1, .int .i64 z.2.1, .int .i64 z.2.2] : Array Value)[i]? := fun w' hh i => (HWM2.out.below hh).cells i
                    have dC0 : ∀ w', Below wr.heap.size wr w' → w'.cell? ⟨ca, ch * 3, none⟩ = some (.int .i64 z.1) := fun w' hh => by rw [(HCD.out.below (Btrans hbD2 hh)).cells, List.getElem?_toArray, HT0.out]
                    have dC1 : ∀ w', Below wr.heap.size wr w' → w'.cell? ⟨ca, ch * 3 + 1, none⟩ = some (.int .i64 z.2.1) := fun w' hh => by rw [(HCD.out.below (Btrans hbD2 hh)).cells, List.getElem?_toArray, HT1.out]
                    have dC2 : ∀ w', Below wr.heap.size wr w' → w'.cell? ⟨ca, ch * 3 + 2, none⟩ = some (.int .i64 z.2.2) := fun w' hh => by rw [(HCD.out.below (Btrans hbD2 hh)).cells, List.getElem?_toArray, HT2.out]
                    have hge := guardC
                    have hnq : ∀ w : World, (binOp .neq 51 (.agg #[.int .i64 z.1, .int .i64 z.2.1, .int .i64 z.2.2]) (.agg #[.int .i64 z.1, .int .i64 z.2.1, .int .i64 z.2.2])).run Try.prog w = .ok (.bool false) w := fun w => by rw [neqC]; simp
                    go_wp2_with fail
                    refine wp_region_held_drew (S := fun w' => Below wr.heap.size wr w') (by kernel_rfl) (by go_grown) (fun hHeld => ?_)
                    refine takeD 0 (some 193) (v := ?_) rfl rfl (by kernel_rfl) (by kernel_rfl) (by kernel_rfl) (fun _ _ _ h => h) (by rfl) ?_ (by assumption) ?_
                    rotate_left
                    · intro w hSw
                      (try dsimp only at hSw)
                      go_simp
                      try with_reducible rfl
                    try simp only [Act.put, List.setIfInBounds_toArray, List.set_cons_zero, List.set_cons_succ]
                    refine takeD 1 (some 194) (v := ?_) rfl rfl (by kernel_rfl) (by kernel_rfl) (by kernel_rfl) (fun _ _ _ h => h) (by rfl) ?_ (by assumption) ?_
                    rotate_left
                    · intro w hSw
                      (try dsimp only at hSw)
                      go_simp
                      try with_reducible rfl
                    try simp only [Act.put, List.setIfInBounds_toArray, List.set_cons_zero, List.set_cons_succ]
                    refine takeD 2 (some 195) (v := ?_) rfl rfl (by kernel_rfl) (by kernel_rfl) (by kernel_rfl) (fun _ _ _ h => h) (by rfl) ?_ (by assumption) ?_
                    rotate_left
                    · intro w hSw
                      (try dsimp only at hSw)
                      go_simp
                      try with_reducible rfl
                    try simp only [Act.put, List.setIfInBounds_toArray, List.set_cons_zero, List.set_cons_succ]
                    refine takeD 3 (some 196) (v := ?_) rfl rfl (by kernel_rfl) (by kernel_rfl) (by kernel_rfl) (fun _ _ _ h => h) (by rfl) ?_ (by assumption) ?_
                    rotate_left
                    · intro w hSw
                      (try dsimp only at hSw)
                      go_simp
                      try with_reducible rfl
                    try simp only [Act.put, List.setIfInBounds_toArray, List.set_cons_zero, List.set_cons_succ]
                    refine takeD 4 (some 197) (v := ?_) rfl rfl (by kernel_rfl) (by kernel_rfl) (by kernel_rfl) (fun _ _ _ h => h) (by rfl) ?_ (by assumption) ?_
                    rotate_left
                    · intro w hSw
                      (try dsimp only at hSw)
                      go_simp
                      try with_reducible rfl
                    try simp only [Act.put, List.setIfInBounds_toArray, List.set_cons_zero, List.set_cons_succ]
                    refine takeD 5 (some 198) (v := ?_) rfl rfl (by kernel_rfl) (by kernel_rfl) (by kernel_rfl) (fun _ _ _ h => h) (by rfl) ?_ (by assumption) ?_
                    rotate_left
                    · intro w hSw
                      (try dsimp only at hSw)
                      go_simp
                      try with_reducible rfl
                    try simp only [Act.put, List.setIfInBounds_toArray, List.set_cons_zero, List.set_cons_succ]
                    refine wpAnyH_done (by kernel_rfl) ?_ _
                    have hbn := Btrans hbD2 hHeld
                    clear dW dC0 dC1 dC2 hHeld hnq hge
                    go_wp2
                    go_roundw
                    case rel => exact ⟨ch + 1, by omega, by go_num, by first | rfl | exact congrArg (Value.int .i64) (by push_cast; rfl), hbn⟩
                    case measure => simp [intOf]; omega
              · have hce : ch = N := by omega
                subst hce
                have hHIN := HIN.out
                rw [cnt_next (kt : Int) (fun s hs => ⟨(hHIN s hs).1, (hHIN s hs).2.1⟩)]
                have hbz := hbc.size
                clear hHIN
                go_wp2
                go_roundw
                case rel => exact ⟨kt + 1, by omega, by go_num, by first | rfl | exact congrArg (Value.int .i64) (by push_cast; rfl), Btrans hbD hbc, HBD.out.below hbc, HPD.out.below hbc, own_below HWD.out hbc, by omega⟩
                case measure => simp [intOf]; omega
          · have hke : kt = k + 2 := by omega
            have hcl : decide ((kt : Int) < c.C + 2) = false := decide_eq_false (by rw [HCK.out]; omega)
            have hall := cnt_all (sp := spL ks) (k := k) (fun s hs => (HIN.out s hs).2.2.2) (kt : Int) (by omega)
            rw [spL_len] at hall
            rw [hall]
            have hqq : (((ks.length : Nat) : Int) == (ks.length : Int)) = true := by simp
            clear hall hke hlk
            go_wp2
            go_ret
            exact ⟨by first | rfl | simp, hb⟩
end Go.Proofs.Ytoiaagdpckgpoaa
