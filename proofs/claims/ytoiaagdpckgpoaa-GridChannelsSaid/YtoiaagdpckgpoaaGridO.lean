/- Layer 13: laws, walked: channels apart. -/
import Derived.Test.YtoiaagdpckgpoaaGridM
import Derived.StillTailTactics
namespace Go.Proofs.Ytoiaagdpckgpoaa
open Go.ChangeShapes Go.WideShapes Go.ChangeAt Go.RowKit
set_option linter.unusedVariables false
set_option linter.unusedSimpArgs false

theorem gputC_eq (k : Nat) (a b : List (Nat × List SB)) (n : Nat) (at_ : Int) (h : a[n]? = b[n]?) : gputC k b (n : Int) at_ = gputC k a (n : Int) at_ := by
  unfold gputC
  rw [Int.toNat_natCast, h]
theorem gputR_eq (k : Nat) (a b : List (Nat × List SB)) (n : Nat) (at_ : Int) (x : Int × Int) (h : a[n]? = b[n]?) : (gputR k a (n : Int) at_ x)[n]? = (gputR k b (n : Int) at_ x)[n]? := by
  unfold gputR
  rw [if_neg (by omega), if_neg (by omega), Int.toNat_natCast]
  cases hr : a[n]? with
  | none =>
    rw [hr] at h
    rw [← h]
    dsimp only
    rw [hr, ← h]
  | some r =>
    rw [hr] at h
    rw [← h]
    dsimp only
    have h1 : n < a.length := (List.getElem?_eq_some_iff.1 hr).1
    have h2 : n < b.length := (List.getElem?_eq_some_iff.1 h.symm).1
    rw [List.getElem?_set_self h1, List.getElem?_set_self h2]
theorem gputR_ne (k : Nat) (a : List (Nat × List SB)) (n : Nat) (ch at_ : Int) (x : Int × Int) (h : ch ≠ (n : Int)) : (gputR k a ch at_ x)[n]? = a[n]? := by
  unfold gputR
  by_cases h0 : ch < 0
  · rw [if_pos h0]
  · rw [if_neg h0]
    cases hr : a[ch.toNat]? with
    | none => rfl
    | some r => exact List.getElem?_set_ne (by omega)
theorem mapadv_eq (a b : List (Nat × List SB)) (n : Nat) (h : a[n]? = b[n]?) : (a.map adv)[n]? = (b.map adv)[n]? := by
  rw [List.getElem?_map, List.getElem?_map, h]
theorem tell_eq (why : List Int) (a b : List (Nat × List SB)) (n : Nat) (h : a[n]? = b[n]?) (hn : n < a.length) (hw : why.length = a.length) : ∃ z, (tellC why a)[n]? = some z ∧ (tellC why b)[n]? = some z := by
  have hr : a[n]? = some a[n] := List.getElem?_eq_getElem hn
  have hy : why[n]? = some (why[n]'(by omega)) := List.getElem?_eq_getElem (by omega)
  exact ⟨_, tellC_at why a n _ _ hy hr, tellC_at why b n _ _ hy (h.symm.trans hr)⟩

set_option maxRecDepth 100000 in
set_option maxHeartbeats 4000000 in
theorem walk_GridChannels (v : Value) (c : Cf) (vo : Value) (l : List OpI) (ch : Int) (w : World) (hc : IsConf w v c) (wc : (Lit.int .i64 c.P).wf = true ∧ (Lit.int .i64 c.H).wf = true ∧ (Lit.int .i64 c.C).wf = true ∧ (Lit.int .i64 c.Mn).wf = true ∧ (Lit.int .i64 c.Mx).wf = true ∧ (Lit.int .i64 c.Rho).wf = true ∧ (Lit.int .i64 c.Bd).wf = true ∧ (Lit.int .i64 c.Win).wf = true ∧ (Lit.int .i64 c.St).wf = true) (wr : ∀ r ∈ c.rows, ∀ z ∈ r, (Lit.int .i64 z).wf = true) (ho : OpsRow w vo l) (w0 : (Lit.int .u8 ch).wf = true) :
    Calls Try.prog 7 #[v, vo, .int .u8 ch] w fun e w' => e = .returned (.bool true) ∧ Below w.heap.size w w' := by
  obtain ⟨s, r, rfl, hs⟩ := hc
  have HS := Lib.hid hs
  obtain ⟨A, cp, rfl, _, _, q⟩ := hs.src
  clear hs q wc wr
  have hc8 := bounds_u8 w0
  obtain ⟨Ao, co, rfl, hco, hcom, hAo⟩ := ho
  have HO := Lib.hid hAo
  clear w0 hAo
  go_enter Try.func7, Try.ntmps7
  go_wp2_with fail
  refine calls_world (fun W1 => Below w.heap.size w W1 ∧ Blk W1 w.heap.size 25 #[.int .i64 c.P, .int .i64 c.H, .int .i64 c.C, .int .i64 c.Mn, .int .i64 c.Mx, .int .i64 c.Rho, .int .i64 c.Bd, .int .i64 c.Win, .int .i64 c.St, .slice A c.rows.length cp, r]) ⟨(by go_grown), (Blk.new _ _ _ _ (by first | rfl | simp))⟩ fun W1 ⟨hb1, qB⟩ => ?_
  have B1 := Lib.hid qB
  (try clear cB); (try clear lB); (try clear dB)
  clear qB
  refine (head_any _).mono ?_
  rintro e W2 ⟨rfl, hk⟩
  (try clear cB); (try clear lB); (try clear dB)
  have hb2 := Btrans hb1 hk
  have B2 := Lib.hid (B1.out.below hk)
  clear hk B1 hb1
  have cB := B2.out.cells
  have lB := B2.out.lt
  go_wp2_with fail
  refine (right_c _ c _ ⟨_, _, rfl, HS.out.below hb2⟩).mono ?_
  rintro e W3 ⟨rfl, hk⟩
  (try clear cB); (try clear lB); (try clear dB)
  have hb3 := Btrans hb2 hk
  have B3 := Lib.hid (B2.out.below hk)
  clear hk B2 hb2
  have cB := B3.out.cells
  have lB := B3.out.lt
  obtain ⟨ok, hok⟩ : ∃ b, b = (!greatB c.rows && confO c) := ⟨_, rfl⟩
  rw [← hok]
  cases ok with
  | false =>
    clear hok
    go_wp2
    go_ret
    exact ⟨by first | rfl | simp, hb3⟩
  | true =>
    obtain ⟨k, hC, hk1, hk64, hN0, hN⟩ := conf_facts hok.symm
    obtain ⟨N, hNN⟩ : ∃ N, N = (chansOf c.rows).length := ⟨_, rfl⟩
    rw [← hNN] at hN0 hN
    have HNN := Lib.hid hNN
    have HCK := Lib.hid hC
    clear hok hNN hC
    by_cases hbig : 60 < l.length
    · have g1 : decide (((l.length : Nat) : Int) > 60) = true := decide_eq_true (by omega)
      go_wp2
      go_ret
      exact ⟨by first | rfl | simp, hb3⟩
    have g1 : decide (((l.length : Nat) : Int) > 60) = false := decide_eq_false (by omega)
    go_wp2_with fail
    refine (rmany_any _ c _ ⟨_, _, rfl, HS.out.below hb3⟩ (by rw [← HNN.out]; omega)).mono ?_
    rintro e W4 ⟨rfl, hk⟩
    (try clear cB); (try clear lB); (try clear dB)
    try rw [← HNN.out]
    have hb4 := Btrans hb3 hk
    have B4 := Lib.hid (B3.out.below hk)
    clear hk B3 hb3
    have cB := B4.out.cells
    have lB := B4.out.lt
    obtain ⟨n, hn⟩ : ∃ n : Nat, ch % (N : Int) = (n : Int) := ⟨(ch % (N : Int)).toNat, by have := Int.emod_nonneg ch (show (N : Int) ≠ 0 by omega); omega⟩
    have hnN : n < N := by have := Int.emod_lt_of_pos ch (show 0 < (N : Int) by omega); omega
    have hN1 : (N : Int) ≠ 0 := by omega
    have hN2 : (0 : Int) < (N : Int) := by omega
    have hn1 : ch.tmod (N : Int) = (n : Int) := by rw [Int.tmod_eq_emod_of_nonneg hc8.1]; exact hn
    go_wp2_with fail
    try rw [hn]
    try rw [hn1]
    clear hn hn1
    refine (gnew_any _ c _ ⟨_, _, rfl, HS.out.below hb4⟩ k HCK.out (by omega) (by rw [← HNN.out]; omega)).mono ?_
    rintro e W5 ⟨Pg, Pab, Pbs, rfl, hbl, hg, hk, hlo⟩
    (try clear cB); (try clear lB); (try clear dB)
    have hzz := hb4.size
    rw [← HNN.out] at hbl hg
    have HLP := Lib.hid hlo
    have HBP := Lib.hid hbl
    have hlPB := B4.out.lt
    obtain ⟨limP, hlim⟩ : ∃ m, m = W4.heap.size := ⟨_, rfl⟩
    rw [← hlim] at HLP hzz hlPB
    clear hlim hlo hbl
    have hb5 := Btrans hb4 hk
    have B5 := Lib.hid (B4.out.below hk)
    clear hk B4 hb4
    have P5 := Lib.hid (show GridS W5 Pg Pab Pbs k (G0 0 N k) from hg)
    clear hg
    have cB := B5.out.cells
    have lB := B5.out.lt
    go_wp2_with fail
    have HUP0 := Lib.hid P5.out.lt
    refine (gnew_any _ c _ ⟨_, _, rfl, HS.out.below hb5⟩ k HCK.out (by omega) (by rw [← HNN.out]; omega)).mono ?_
    rintro e W6 ⟨Qg, Qab, Qbs, rfl, hbl, hg, hk, hlo⟩
    (try clear cB); (try clear lB); (try clear dB)
    have hzz := hb5.size
    rw [← HNN.out] at hbl hg
    have HLQ := Lib.hid hlo
    have HBQ := Lib.hid hbl
    have hlQB := B5.out.lt
    obtain ⟨limQ, hlim⟩ : ∃ m, m = W5.heap.size := ⟨_, rfl⟩
    rw [← hlim] at HLQ hzz hlQB HUP0
    clear hlim hlo hbl
    have hb6 := Btrans hb5 hk
    have B6 := Lib.hid (B5.out.below hk)
    have P6 := Lib.hid (P5.out.below hk)
    clear hk B5 P5 hb5
    have Q6 := Lib.hid (show GridS W6 Qg Qab Qbs k (G0 0 N k) from hg)
    clear hg
    have cB := B6.out.cells
    have lB := B6.out.lt
    go_wp2_with fail
    have HUP := HUP0
    clear HUP0
    have HLP' := Lib.hid (show ∀ x ∈ gblocks Pg Pab Pbs, w.heap.size ≤ x from fun x hx => by have := HLP.out x hx; omega)
    have HLQ' := Lib.hid (show ∀ x ∈ gblocks Qg Qab Qbs, w.heap.size ≤ x from fun x hx => by have := HLQ.out x hx; omega)
    have DPQ := Lib.hid (show ∀ x ∈ gblocks Pg Pab Pbs, x ∉ gblocks Qg Qab Qbs from fun x hx hm => by have := HUP.out x hx; have := HLQ.out x hm; omega)
    have DQP := Lib.hid (show ∀ x ∈ gblocks Qg Qab Qbs, x ∉ gblocks Pg Pab Pbs from fun x hx hm => by have := HUP.out x hm; have := HLQ.out x hx; omega)
    go_loopw [11] (fun i wr => ∃ (j F : Nat) (ra rb : List (Nat × List SB)), j ≤ l.length ∧ i = .int .i64 j ∧ Below w.heap.size w wr ∧ Blk wr w.heap.size 25 #[.int .i64 c.P, .int .i64 c.H, .int .i64 c.C, .int .i64 c.Mn, .int .i64 c.Mx, .int .i64 c.Rho, .int .i64 c.Bd, .int .i64 c.Win, .int .i64 c.St, .slice A c.rows.length cp, r] ∧ GridS wr Pg Pab Pbs k ra ∧ GridS wr Qg Qab Qbs k rb ∧ (∀ r ∈ ra, r.1 = F) ∧ (∀ r ∈ rb, r.1 = F) ∧ ra.length = N ∧ rb.length = N ∧ ra[n]? = rb[n]? ∧ F ≤ j) (fun i _ => l.length - (intOf i).toNat)
    case atStart => exact ⟨0, 0, G0 0 N k, G0 0 N k, by omega, rfl, hb6, B6.out, P6.out, Q6.out, fun r hr => by rw [List.eq_of_mem_replicate hr], fun r hr => by rw [List.eq_of_mem_replicate hr], G0_len _ _ _, G0_len _ _ _, rfl, by omega⟩
    case round =>
      clear hb6 B6 P6 Q6 cB lB
      obtain ⟨j, F, ra, rb, hj, rfl, hb, hB, hP, hQ, hfa, hfb, hla, hlb, hab, hFj⟩ := hrel
      have HB := Lib.hid hB
      have HP := Lib.hid hP
      have HQ := Lib.hid hQ
      have HFA := Lib.hid hfa
      have HFB := Lib.hid hfb
      have HLA := Lib.hid hla
      have HLB := Lib.hid hlb
      have HAB := Lib.hid hab
      have GA := Lib.hid (gfirst_from ra F hfa (by omega))
      have GB := Lib.hid (gfirst_from rb F hfb (by omega))
      have lB := hB.lt
      have cB := hB.cells
      clear hB hP hQ hfa hfb hla hlb hab
      by_cases hlt : j < l.length
      · obtain ⟨o, ho⟩ : ∃ o, l[j]? = some o := ⟨_, List.getElem?_eq_getElem hlt⟩
        obtain ⟨ad, rfl, had, hc0, hc1, hc2, hc3, hc4, hr1, hr2⟩ := HO.out j o ho
        have E0 : Hid (∀ w', Below w.heap.size w w' → w'.cell? (ad.add (j * 5)) = some (.bool o.tell)) := Lib.hid fun w' hb => by rw [hb.cell (by rw [block_add]; exact had)]; exact hc0
        have E1 : Hid (∀ w', Below w.heap.size w w' → w'.cell? ⟨(ad.add (j * 5)).block, (ad.add (j * 5)).off + 1, none⟩ = some (.int .i64 o.ch)) := Lib.hid fun w' hb => by
          have h2 : w'.cell? (ad.add (j * 5 + 1)) = some (.int .i64 o.ch) := by rw [hb.cell (by rw [block_add]; exact had)]; exact hc1
          rwa [← Go.Deep.add_add] at h2
        have E2 : Hid (∀ w', Below w.heap.size w w' → w'.cell? ⟨(ad.add (j * 5)).block, (ad.add (j * 5)).off + 2, none⟩ = some (.int .i16 o.k)) := Lib.hid fun w' hb => by
          have h2 : w'.cell? (ad.add (j * 5 + 2)) = some (.int .i16 o.k) := by rw [hb.cell (by rw [block_add]; exact had)]; exact hc2
          rwa [← Go.Deep.add_add] at h2
        have E3 : Hid (∀ w', Below w.heap.size w w' → w'.cell? ⟨(ad.add (j * 5)).block, (ad.add (j * 5)).off + 3, none⟩ = some (.int .i64 o.v)) := Lib.hid fun w' hb => by
          have h2 : w'.cell? (ad.add (j * 5 + 3)) = some (.int .i64 o.v) := by rw [hb.cell (by rw [block_add]; exact had)]; exact hc3
          rwa [← Go.Deep.add_add] at h2
        have E4 : Hid (∀ w', Below w.heap.size w w' → w'.cell? ⟨(ad.add (j * 5)).block, (ad.add (j * 5)).off + 4, none⟩ = some (.int .i64 o.f)) := Lib.hid fun w' hb => by
          have h2 : w'.cell? (ad.add (j * 5 + 4)) = some (.int .i64 o.f) := by rw [hb.cell (by rw [block_add]; exact had)]; exact hc4
          rwa [← Go.Deep.add_add] at h2
        have e0 := E0.out wr hb
        have hjl : (j : Int) < (l.length : Int) := by omega
        clear hc0 hc1 hc2 hc3 hc4 ho
        obtain ⟨ot, och, ok, ov, of_⟩ := o
        dsimp only at *
        cases ot with
        | true =>
          go_wp2_with fail
          refine (reasons_any _ c j _ ⟨_, _, rfl, HS.out.below hb⟩ (by omega) (by rw [← HNN.out]; omega)).mono ?_
          rintro e W5 ⟨Ar, cr, rfl, hrow, hoff, hk⟩
          rw [← HNN.out] at hrow hoff
          try rw [← HNN.out]
          have HROW := Lib.hid hrow
          have HOFA := Lib.hid (hoff (gblocks Pg Pab Pbs) HP.out.lt)
          have HOFB := Lib.hid (hoff (gblocks Qg Qab Qbs) HQ.out.lt)
          have hb5 := Btrans hb hk
          have HB5 := Lib.hid (HB.out.below hk)
          have HP5 := Lib.hid (HP.out.below hk)
          have HQ5 := Lib.hid (HQ.out.below hk)
          clear hrow hoff hk HB HP HQ cB hb e0
          go_wp2_with fail
          refine (gtell_any _ Pg Pab k cr Pbs ra Ar (reasonsL N j) HP5.out (fun r hr => by rw [HFA.out r hr]; omega) HROW.out (by rw [reasonsL_len, HBP.out]) HOFA.out).mono ?_
          rintro e W6 ⟨ca, rfl, hca, hcla, hg, ho⟩
          rw [HBP.out]
          have hb6 := Only.below hb5 hb5.size ho HLP'.out
          have HB6 := Lib.hid (HB5.out.onlyG ho HLP.out hlPB)
          have HP6 := Lib.hid hg
          have HQ6 := Lib.hid (HQ5.out.only ho DQP.out)
          have HCA := Lib.hid hca
          have HR6 := Lib.hid (HROW.out.only ho HOFA.out)
          have hcan := Lib.hid (show ca ∉ gblocks Qg Qab Qbs from fun hm => by have := HQ5.out.lt _ hm; omega)
          clear hca hcla hg ho HB5 HP5 HQ5 hb5 HROW
          go_wp2_with fail
          refine (gtell_any _ Qg Qab k cr Qbs rb Ar (reasonsL N j) HQ6.out (fun r hr => by rw [HFB.out r hr]; omega) HR6.out (by rw [reasonsL_len, HBQ.out]) HOFB.out).mono ?_
          rintro e W7 ⟨cb, rfl, hcb, hclb, hg, ho⟩
          rw [HBQ.out]
          have hb7 := Only.below hb6 hb6.size ho HLQ'.out
          have HB7 := Lib.hid (HB6.out.onlyG ho HLQ.out hlQB)
          have HP7 := Lib.hid (HP6.out.only ho DPQ.out)
          have HQ7 := Lib.hid hg
          have HCA7 := Lib.hid (HCA.out.only ho hcan.out)
          have HCB7 := Lib.hid hcb
          obtain ⟨z, hza, hzb⟩ := tell_eq (reasonsL N j) ra rb n HAB.out (by rw [HLA.out]; exact hnN) (by rw [reasonsL_len, HLA.out])
          obtain ⟨a0, a1, a2⟩ := c3_at _ n _ hza
          obtain ⟨b0, b1, b2⟩ := c3_at _ n _ hzb
          have HA0 := Lib.hid a0
          have HA1 := Lib.hid a1
          have HA2 := Lib.hid a2
          have HB0 := Lib.hid b0
          have HB1 := Lib.hid b1
          have HB2 := Lib.hid b2
          clear hcb hclb hg ho HB6 HP6 HQ6 hb6 HR6 HCA hcan hza hzb a0 a1 a2 b0 b1 b2 HOFA HOFB
          have dB : ∀ w', Below W7.heap.size W7 w' → ∀ i, w'.cell? ⟨w.heap.size, i, none⟩ = (#[.int .i64 c.P, .int .i64 c.H, .int .i64 c.C, .int .i64 c.Mn, .int .i64 c.Mx, .int .i64 c.Rho, .int .i64 c.Bd, .int .i64 c.Win, .int .i64 c.St, .slice A c.rows.length cp, r] : Array Value)[i]? := fun w' hb i => (HB7.out.below hb).cells i
          have dA0 : ∀ w', Below W7.heap.size W7 w' → w'.cell? ⟨ca, n * 3, none⟩ = some (.int .i64 z.1) := fun w' hb => by rw [(HCA7.out.below hb).cells, List.getElem?_toArray, HA0.out]
          have dA1 : ∀ w', Below W7.heap.size W7 w' → w'.cell? ⟨ca, n * 3 + 1, none⟩ = some (.int .i64 z.2.1) := fun w' hb => by rw [(HCA7.out.below hb).cells, List.getElem?_toArray, HA1.out]
          have dA2 : ∀ w', Below W7.heap.size W7 w' → w'.cell? ⟨ca, n * 3 + 2, none⟩ = some (.int .i64 z.2.2) := fun w' hb => by rw [(HCA7.out.below hb).cells, List.getElem?_toArray, HA2.out]
          have dB0 : ∀ w', Below W7.heap.size W7 w' → w'.cell? ⟨cb, n * 3, none⟩ = some (.int .i64 z.1) := fun w' hb => by rw [(HCB7.out.below hb).cells, List.getElem?_toArray, HB0.out]
          have dB1 : ∀ w', Below W7.heap.size W7 w' → w'.cell? ⟨cb, n * 3 + 1, none⟩ = some (.int .i64 z.2.1) := fun w' hb => by rw [(HCB7.out.below hb).cells, List.getElem?_toArray, HB1.out]
          have dB2 : ∀ w', Below W7.heap.size W7 w' → w'.cell? ⟨cb, n * 3 + 2, none⟩ = some (.int .i64 z.2.2) := fun w' hb => by rw [(HCB7.out.below hb).cells, List.getElem?_toArray, HB2.out]
          have hge := guardC
          have hnq : ∀ w : World, (binOp .neq 51 (.agg #[.int .i64 z.1, .int .i64 z.2.1, .int .i64 z.2.2]) (.agg #[.int .i64 z.1, .int .i64 z.2.1, .int .i64 z.2.2])).run Try.prog w = .ok (.bool false) w := fun w => by rw [neqC]; simp
          have hnNi : (n : Int) < (N : Int) := by omega
          go_wp2_with fail
          refine wp_region_held_drew (S := fun w' => Below W7.heap.size W7 w') (by kernel_rfl) (by go_grown) (fun hHeld => ?_)
          refine takeD 0 (some 55) (v := ?_) rfl rfl (by kernel_rfl) (by kernel_rfl) (by kernel_rfl) (fun _ _ _ h => h) (by rfl) ?_ (by assumption) ?_
          rotate_left
          · intro w hSw
            (try dsimp only at hSw)
            go_simp
            try with_reducible rfl
          try simp only [Act.put, List.setIfInBounds_toArray, List.set_cons_zero, List.set_cons_succ]
          refine takeD 1 (some 56) (v := ?_) rfl rfl (by kernel_rfl) (by kernel_rfl) (by kernel_rfl) (fun _ _ _ h => h) (by rfl) ?_ (by assumption) ?_
          rotate_left
          · intro w hSw
            (try dsimp only at hSw)
            go_simp
            try with_reducible rfl
          try simp only [Act.put, List.setIfInBounds_toArray, List.set_cons_zero, List.set_cons_succ]
          refine takeD 2 (some 57) (v := ?_) rfl rfl (by kernel_rfl) (by kernel_rfl) (by kernel_rfl) (fun _ _ _ h => h) (by rfl) ?_ (by assumption) ?_
          rotate_left
          · intro w hSw
            (try dsimp only at hSw)
            go_simp
            try with_reducible rfl
          try simp only [Act.put, List.setIfInBounds_toArray, List.set_cons_zero, List.set_cons_succ]
          refine wpAnyH_ready (rs := [3]) (by kernel_rfl) (by simp) ?_
          refine AllReadyH.cons rfl (fun K hK => ?_) AllReadyH.nil
          rw [if_pos (by rfl)]
          go_simp
          go_at_call 20
          refine (rmany_any _ c _ ⟨_, _, rfl, HS.out.below (hb7.trans (hHeld.mono hb7.size))⟩ (by rw [← HNN.out]; omega)).mono ?_
          rintro e w1 ⟨rfl, hk⟩
          rw [← HNN.out]
          go_wp2_with fail
          refine hK.out _ _ ?_ (fun hHeld2 => ?_)
          · first | exact hHeld.trans (hk.mono hHeld.size) | (clear hK; have hz := hHeld.size; go_grown)
          clear hK K hHeld
          have hHeld := hHeld2
          clear hHeld2
          try clear hk
          try simp only [Act.put, List.setIfInBounds_toArray, List.set_cons_zero, List.set_cons_succ]
          refine takeD 4 (some 59) (v := ?_) rfl rfl (by kernel_rfl) (by kernel_rfl) (by kernel_rfl) (fun _ _ _ h => h) (by rfl) ?_ (by assumption) ?_
          rotate_left
          · intro w hSw
            (try dsimp only at hSw)
            go_simp
            try with_reducible rfl
          try simp only [Act.put, List.setIfInBounds_toArray, List.set_cons_zero, List.set_cons_succ]
          refine takeD 5 (some 60) (v := ?_) rfl rfl (by kernel_rfl) (by kernel_rfl) (by kernel_rfl) (fun _ _ _ h => h) (by rfl) ?_ (by assumption) ?_
          rotate_left
          · intro w hSw
            (try dsimp only at hSw)
            go_simp
            try with_reducible rfl
          try simp only [Act.put, List.setIfInBounds_toArray, List.set_cons_zero, List.set_cons_succ]
          refine takeD 6 (some 61) (v := ?_) rfl rfl (by kernel_rfl) (by kernel_rfl) (by kernel_rfl) (fun _ _ _ h => h) (by rfl) ?_ (by assumption) ?_
          rotate_left
          · intro w hSw
            (try dsimp only at hSw)
            go_simp
            try with_reducible rfl
          try simp only [Act.put, List.setIfInBounds_toArray, List.set_cons_zero, List.set_cons_succ]
          refine takeD 7 (some 62) (v := ?_) rfl rfl (by kernel_rfl) (by kernel_rfl) (by kernel_rfl) (fun _ _ _ h => h) (by rfl) ?_ (by assumption) ?_
          rotate_left
          · intro w hSw
            (try dsimp only at hSw)
            go_simp
            try with_reducible rfl
          try simp only [Act.put, List.setIfInBounds_toArray, List.set_cons_zero, List.set_cons_succ]
          refine takeD 8 (some 63) (v := ?_) rfl rfl (by kernel_rfl) (by kernel_rfl) (by kernel_rfl) (fun _ _ _ h => h) (by rfl) ?_ (by assumption) ?_
          rotate_left
          · intro w hSw
            (try dsimp only at hSw)
            go_simp
            try with_reducible rfl
          try simp only [Act.put, List.setIfInBounds_toArray, List.set_cons_zero, List.set_cons_succ]
          refine wpAnyH_ready (rs := [9]) (by kernel_rfl) (by simp) ?_
          refine AllReadyH.cons rfl (fun K hK => ?_) AllReadyH.nil
          rw [if_pos (by rfl)]
          go_simp
          go_at_call 20
          refine (rmany_any _ c _ ⟨_, _, rfl, HS.out.below (hb7.trans (hHeld.mono hb7.size))⟩ (by rw [← HNN.out]; omega)).mono ?_
          rintro e w1 ⟨rfl, hk⟩
          rw [← HNN.out]
          go_wp2_with fail
          refine hK.out _ _ ?_ (fun hHeld2 => ?_)
          · first | exact hHeld.trans (hk.mono hHeld.size) | (clear hK; have hz := hHeld.size; go_grown)
          clear hK K hHeld
          have hHeld := hHeld2
          clear hHeld2
          try clear hk
          try simp only [Act.put, List.setIfInBounds_toArray, List.set_cons_zero, List.set_cons_succ]
          refine takeD 10 (some 65) (v := ?_) rfl rfl (by kernel_rfl) (by kernel_rfl) (by kernel_rfl) (fun _ _ _ h => h) (by rfl) ?_ (by assumption) ?_
          rotate_left
          · intro w hSw
            (try dsimp only at hSw)
            go_simp
            try with_reducible rfl
          try simp only [Act.put, List.setIfInBounds_toArray, List.set_cons_zero, List.set_cons_succ]
          refine takeD 11 (some 66) (v := ?_) rfl rfl (by kernel_rfl) (by kernel_rfl) (by kernel_rfl) (fun _ _ _ h => h) (by rfl) ?_ (by assumption) ?_
          rotate_left
          · intro w hSw
            (try dsimp only at hSw)
            go_simp
            try with_reducible rfl
          try simp only [Act.put, List.setIfInBounds_toArray, List.set_cons_zero, List.set_cons_succ]
          refine takeD 12 (some 67) (v := ?_) rfl rfl (by kernel_rfl) (by kernel_rfl) (by kernel_rfl) (fun _ _ _ h => h) (by rfl) ?_ (by assumption) ?_
          rotate_left
          · intro w hSw
            (try dsimp only at hSw)
            go_simp
            try with_reducible rfl
          try simp only [Act.put, List.setIfInBounds_toArray, List.set_cons_zero, List.set_cons_succ]
          refine takeD 13 (some 68) (v := ?_) rfl rfl (by kernel_rfl) (by kernel_rfl) (by kernel_rfl) (fun _ _ _ h => h) (by rfl) ?_ (by assumption) ?_
          rotate_left
          · intro w hSw
            (try dsimp only at hSw)
            go_simp
            try with_reducible rfl
          try simp only [Act.put, List.setIfInBounds_toArray, List.set_cons_zero, List.set_cons_succ]
          refine takeD 14 (some 69) (v := ?_) rfl rfl (by kernel_rfl) (by kernel_rfl) (by kernel_rfl) (fun _ _ _ h => h) (by rfl) ?_ (by assumption) ?_
          rotate_left
          · intro w hSw
            (try dsimp only at hSw)
            go_simp
            try with_reducible rfl
          try simp only [Act.put, List.setIfInBounds_toArray, List.set_cons_zero, List.set_cons_succ]
          refine takeD 15 (some 70) (v := ?_) rfl rfl (by kernel_rfl) (by kernel_rfl) (by kernel_rfl) (fun _ _ _ h => h) (by rfl) ?_ (by assumption) ?_
          rotate_left
          · intro w hSw
            (try dsimp only at hSw)
            go_simp
            try with_reducible rfl
          try simp only [Act.put, List.setIfInBounds_toArray, List.set_cons_zero, List.set_cons_succ]
          refine takeD 16 (some 71) (v := ?_) rfl rfl (by kernel_rfl) (by kernel_rfl) (by kernel_rfl) (fun _ _ _ h => h) (by rfl) ?_ (by assumption) ?_
          rotate_left
          · intro w hSw
            (try dsimp only at hSw)
            go_simp
            try with_reducible rfl
          try simp only [Act.put, List.setIfInBounds_toArray, List.set_cons_zero, List.set_cons_succ]
          refine takeD 17 (some 72) (v := ?_) rfl rfl (by kernel_rfl) (by kernel_rfl) (by kernel_rfl) (fun _ _ _ h => h) (by rfl) ?_ (by assumption) ?_
          rotate_left
          · intro w hSw
            (try dsimp only at hSw)
            go_simp
            try with_reducible rfl
          try simp only [Act.put, List.setIfInBounds_toArray, List.set_cons_zero, List.set_cons_succ]
          refine takeD 18 (some 73) (v := ?_) rfl rfl (by kernel_rfl) (by kernel_rfl) (by kernel_rfl) (fun _ _ _ h => h) (by rfl) ?_ (by assumption) ?_
          rotate_left
          · intro w hSw
            (try dsimp only at hSw)
            go_simp
            try with_reducible rfl
          try simp only [Act.put, List.setIfInBounds_toArray, List.set_cons_zero, List.set_cons_succ]
          refine takeD 19 (some 74) (v := ?_) rfl rfl (by kernel_rfl) (by kernel_rfl) (by kernel_rfl) (fun _ _ _ h => h) (by rfl) ?_ (by assumption) ?_
          rotate_left
          · intro w hSw
            (try dsimp only at hSw)
            go_simp
            try with_reducible rfl
          try simp only [Act.put, List.setIfInBounds_toArray, List.set_cons_zero, List.set_cons_succ]
          refine takeD 20 (some 75) (v := ?_) rfl rfl (by kernel_rfl) (by kernel_rfl) (by kernel_rfl) (fun _ _ _ h => h) (by rfl) ?_ (by assumption) ?_
          rotate_left
          · intro w hSw
            (try dsimp only at hSw)
            go_simp
            try with_reducible rfl
          try simp only [Act.put, List.setIfInBounds_toArray, List.set_cons_zero, List.set_cons_succ]
          refine takeD 21 (some 76) (v := ?_) rfl rfl (by kernel_rfl) (by kernel_rfl) (by kernel_rfl) (fun _ _ _ h => h) (by rfl) ?_ (by assumption) ?_
          rotate_left
          · intro w hSw
            (try dsimp only at hSw)
            go_simp
            try with_reducible rfl
          try simp only [Act.put, List.setIfInBounds_toArray, List.set_cons_zero, List.set_cons_succ]
          refine takeD 22 (some 77) (v := ?_) rfl rfl (by kernel_rfl) (by kernel_rfl) (by kernel_rfl) (fun _ _ _ h => h) (by rfl) ?_ (by assumption) ?_
          rotate_left
          · intro w hSw
            (try dsimp only at hSw)
            go_simp
            try with_reducible rfl
          try simp only [Act.put, List.setIfInBounds_toArray, List.set_cons_zero, List.set_cons_succ]
          refine wpAnyH_done (by kernel_rfl) ?_ _
          have hb8 := hb7.trans (hHeld.mono hb7.size)
          have HB8 := Lib.hid (HB7.out.below hHeld)
          have HP8 := Lib.hid (HP7.out.below hHeld)
          have HQ8 := Lib.hid (HQ7.out.below hHeld)
          clear dB dA0 dA1 dA2 dB0 dB1 dB2 hHeld HB7 HP7 HQ7 hb7 HCA7 HCB7 hge hnq
          go_wp2
          go_roundw
          case rel => exact ⟨j + 1, F + 1, ra.map adv, rb.map adv, by omega, by go_num, hb8, HB8.out, HP8.out, HQ8.out, adv_from ra F HFA.out, adv_from rb F HFB.out, by rw [List.length_map]; exact HLA.out, by rw [List.length_map]; exact HLB.out, mapadv_eq _ _ _ HAB.out, by omega⟩
          case measure => simp [intOf]; omega
        | false =>
          have hsum : IntKind.i64.wrap ((F : Int) + ok) = (F : Int) + ok := IntWalk.i64_in _ (by omega)
          have hwk : IntKind.i64.wrap ok = ok := IntWalk.i64_in _ (by omega)
          obtain ⟨code, hcode⟩ : ∃ z, z = gputC k ra och ((F : Int) + ok) := ⟨_, rfl⟩
          have HCODE := Lib.hid hcode
          have HPc := Lib.hid (HP.out.below (Bdrew (Below.refl _ _) 1))
          have HQc := Lib.hid (HQ.out.below (Bdrew (Below.refl _ _) 1))
          clear hcode cB
          have dO1 : ∀ w', Only (gblocks Pg Pab Pbs) wr w' → w'.cell? ⟨(ad.add (j * 5)).block, (ad.add (j * 5)).off + 1, none⟩ = some (.int .i64 och) := fun w' hh => E1.out w' (Only.below hb hb.size hh HLP'.out)
          have dO2 : ∀ w', Only (gblocks Pg Pab Pbs) wr w' → w'.cell? ⟨(ad.add (j * 5)).block, (ad.add (j * 5)).off + 2, none⟩ = some (.int .i16 ok) := fun w' hh => E2.out w' (Only.below hb hb.size hh HLP'.out)
          have dO3 : ∀ w', Only (gblocks Pg Pab Pbs) wr w' → w'.cell? ⟨(ad.add (j * 5)).block, (ad.add (j * 5)).off + 3, none⟩ = some (.int .i64 ov) := fun w' hh => E3.out w' (Only.below hb hb.size hh HLP'.out)
          have dO4 : ∀ w', Only (gblocks Pg Pab Pbs) wr w' → w'.cell? ⟨(ad.add (j * 5)).block, (ad.add (j * 5)).off + 4, none⟩ = some (.int .i64 of_) := fun w' hh => E4.out w' (Only.below hb hb.size hh HLP'.out)
          go_wp2_with fail
          refine wp_region_held_drew (S := fun w' => Only (gblocks Pg Pab Pbs) wr w') (by kernel_rfl) ((Only.refl _ _).drew 1) (fun hHeld => ?_)
          refine takeD 0 (some 78) (v := ?_) rfl rfl (by kernel_rfl) (by kernel_rfl) (by kernel_rfl) (fun _ _ _ h => h) (by rfl) ?_ (by assumption) ?_
          rotate_left
          · intro w hSw
            (try dsimp only at hSw)
            go_simp
            try with_reducible rfl
          try simp only [Act.put, List.setIfInBounds_toArray, List.set_cons_zero, List.set_cons_succ]
          refine takeD 1 (some 79) (v := ?_) rfl rfl (by kernel_rfl) (by kernel_rfl) (by kernel_rfl) (fun _ _ _ h => h) (by rfl) ?_ (by assumption) ?_
          rotate_left
          · intro w hSw
            (try dsimp only at hSw)
            go_simp
            try with_reducible rfl
          try simp only [Act.put, List.setIfInBounds_toArray, List.set_cons_zero, List.set_cons_succ]
          refine takeD 2 (some 80) (v := ?_) rfl rfl (by kernel_rfl) (by kernel_rfl) (by kernel_rfl) (fun _ _ _ h => h) (by rfl) ?_ (by assumption) ?_
          rotate_left
          · intro w hSw
            (try dsimp only at hSw)
            go_simp
            try with_reducible rfl
          try simp only [Act.put, List.setIfInBounds_toArray, List.set_cons_zero, List.set_cons_succ]
          refine takeD 3 (some 81) (v := ?_) rfl rfl (by kernel_rfl) (by kernel_rfl) (by kernel_rfl) (fun _ _ _ h => h) (by rfl) ?_ (by assumption) ?_
          rotate_left
          · intro w hSw
            (try dsimp only at hSw)
            go_simp
            try with_reducible rfl
          try simp only [Act.put, List.setIfInBounds_toArray, List.set_cons_zero, List.set_cons_succ]
          refine takeD 4 (some 82) (v := ?_) rfl rfl (by kernel_rfl) (by kernel_rfl) (by kernel_rfl) (fun _ _ _ h => h) (by rfl) ?_ (by assumption) ?_
          rotate_left
          · intro w hSw
            (try dsimp only at hSw)
            go_simp
            try with_reducible rfl
          try simp only [Act.put, List.setIfInBounds_toArray, List.set_cons_zero, List.set_cons_succ]
          refine takeD 5 (some 83) (v := ?_) rfl rfl (by kernel_rfl) (by kernel_rfl) (by kernel_rfl) (fun _ _ _ h => h) (by rfl) ?_ (by assumption) ?_
          rotate_left
          · intro w hSw
            (try dsimp only at hSw)
            go_simp
            try with_reducible rfl
          try simp only [Act.put, List.setIfInBounds_toArray, List.set_cons_zero, List.set_cons_succ]
          refine takeD 6 (some 84) (v := ?_) rfl rfl (by kernel_rfl) (by kernel_rfl) (by kernel_rfl) (fun _ _ _ h => h) (by rfl) ?_ (by assumption) ?_
          rotate_left
          · intro w hSw
            (try dsimp only at hSw)
            go_simp
            try with_reducible rfl
          try simp only [Act.put, List.setIfInBounds_toArray, List.set_cons_zero, List.set_cons_succ]
          refine takeD 8 (some 86) (v := ?_) rfl rfl (by kernel_rfl) (by kernel_rfl) (by kernel_rfl) (fun _ _ _ h => h) (by rfl) ?_ (by assumption) ?_
          rotate_left
          · intro w hSw
            (try dsimp only at hSw)
            go_simp
            try with_reducible rfl
          try simp only [Act.put, List.setIfInBounds_toArray, List.set_cons_zero, List.set_cons_succ]
          refine takeD 9 (some 87) (v := ?_) rfl rfl (by kernel_rfl) (by kernel_rfl) (by kernel_rfl) (fun _ _ _ h => h) (by rfl) ?_ (by assumption) ?_
          rotate_left
          · intro w hSw
            (try dsimp only at hSw)
            go_simp
            try with_reducible rfl
          try simp only [Act.put, List.setIfInBounds_toArray, List.set_cons_zero, List.set_cons_succ]
          refine takeD 10 (some 88) (v := ?_) rfl rfl (by kernel_rfl) (by kernel_rfl) (by kernel_rfl) (fun _ _ _ h => h) (by rfl) ?_ (by assumption) ?_
          rotate_left
          · intro w hSw
            (try dsimp only at hSw)
            go_simp
            try with_reducible rfl
          try simp only [Act.put, List.setIfInBounds_toArray, List.set_cons_zero, List.set_cons_succ]
          refine takeD 11 (some 89) (v := ?_) rfl rfl (by kernel_rfl) (by kernel_rfl) (by kernel_rfl) (fun _ _ _ h => h) (by rfl) ?_ (by assumption) ?_
          rotate_left
          · intro w hSw
            (try dsimp only at hSw)
            go_simp
            try with_reducible rfl
          try simp only [Act.put, List.setIfInBounds_toArray, List.set_cons_zero, List.set_cons_succ]
          refine takeD 12 (some 90) (v := ?_) rfl rfl (by kernel_rfl) (by kernel_rfl) (by kernel_rfl) (fun _ _ _ h => h) (by rfl) ?_ (by assumption) ?_
          rotate_left
          · intro w hSw
            (try dsimp only at hSw)
            go_simp
            try with_reducible rfl
          try simp only [Act.put, List.setIfInBounds_toArray, List.set_cons_zero, List.set_cons_succ]
          refine takeD 13 (some 91) (v := ?_) rfl rfl (by kernel_rfl) (by kernel_rfl) (by kernel_rfl) (fun _ _ _ h => h) (by rfl) ?_ (by assumption) ?_
          rotate_left
          · intro w hSw
            (try dsimp only at hSw)
            go_simp
            try with_reducible rfl
          try simp only [Act.put, List.setIfInBounds_toArray, List.set_cons_zero, List.set_cons_succ]
          refine takeD 15 (some 93) (v := ?_) rfl rfl (by kernel_rfl) (by kernel_rfl) (by kernel_rfl) (fun _ _ _ h => h) (by rfl) ?_ (by assumption) ?_
          rotate_left
          · intro w hSw
            (try dsimp only at hSw)
            go_simp
            try with_reducible rfl
          try simp only [Act.put, List.setIfInBounds_toArray, List.set_cons_zero, List.set_cons_succ]
          refine takeD 16 (some 94) (v := ?_) rfl rfl (by kernel_rfl) (by kernel_rfl) (by kernel_rfl) (fun _ _ _ h => h) (by rfl) ?_ (by assumption) ?_
          rotate_left
          · intro w hSw
            (try dsimp only at hSw)
            go_simp
            try with_reducible rfl
          try simp only [Act.put, List.setIfInBounds_toArray, List.set_cons_zero, List.set_cons_succ]
          refine takeD 17 (some 95) (v := ?_) rfl rfl (by kernel_rfl) (by kernel_rfl) (by kernel_rfl) (fun _ _ _ h => h) (by rfl) ?_ (by assumption) ?_
          rotate_left
          · intro w hSw
            (try dsimp only at hSw)
            go_simp
            try with_reducible rfl
          try simp only [Act.put, List.setIfInBounds_toArray, List.set_cons_zero, List.set_cons_succ]
          refine takeD 18 (some 96) (v := ?_) rfl rfl (by kernel_rfl) (by kernel_rfl) (by kernel_rfl) (fun _ _ _ h => h) (by rfl) ?_ (by assumption) ?_
          rotate_left
          · intro w hSw
            (try dsimp only at hSw)
            go_simp
            try with_reducible rfl
          try simp only [Act.put, List.setIfInBounds_toArray, List.set_cons_zero, List.set_cons_succ]
          refine takeD 19 (some 97) (v := ?_) rfl rfl (by kernel_rfl) (by kernel_rfl) (by kernel_rfl) (fun _ _ _ h => h) (by rfl) ?_ (by assumption) ?_
          rotate_left
          · intro w hSw
            (try dsimp only at hSw)
            go_simp
            try with_reducible rfl
          try simp only [Act.put, List.setIfInBounds_toArray, List.set_cons_zero, List.set_cons_succ]
          refine wpAnyH_ready (rs := [7]) (by kernel_rfl) (by simp) ?_
          refine AllReadyH.cons rfl (fun K hK => ?_) AllReadyH.nil
          rw [if_pos (by rfl)]
          go_simp
          go_at_call 13
          refine (gfirst_any _ Pg Pab k Pbs ra HPc.out (by rw [HBP.out]; omega)).mono ?_
          rintro e w1 ⟨rfl, hk⟩
          rw [GA.out]
          have HPd := Lib.hid (HPc.out.below hk)
          have HQd := Lib.hid (HQc.out.below hk)
          have hS := hHeld.trans (Only.of_below (gblocks Pg Pab Pbs) hk)
          clear hk HPc HQc
          have HPc := Lib.hid HPd.out
          have HQc := Lib.hid HQd.out
          clear HPd HQd
          go_wp2_with fail
          refine hK.out _ _ ?_ (fun hHeld2 => ?_)
          · clear hK; exact hS
          clear hK K hHeld hS
          have hHeld := hHeld2
          clear hHeld2
          try simp only [Act.put, List.setIfInBounds_toArray, List.set_cons_zero, List.set_cons_succ]
          refine takeD 14 (some 92) (v := ?_) rfl rfl (by kernel_rfl) (by kernel_rfl) (by kernel_rfl) (fun _ _ _ h => h) (by rfl) ?_ (by assumption) ?_
          rotate_left
          · intro w hSw
            (try dsimp only at hSw)
            go_simp
            try with_reducible rfl
          try simp only [Act.put, List.setIfInBounds_toArray, List.set_cons_zero, List.set_cons_succ]
          refine wpAnyH_ready (rs := [20]) (by kernel_rfl) (by simp) ?_
          refine AllReadyH.cons rfl (fun K hK => ?_) AllReadyH.nil
          rw [if_pos (by rfl)]
          go_simp
          go_at_call 18
          refine (gput_any _ Pg Pab k Pbs ra och ((F : Int) + ok) (ov, of_) HPc.out (by omega)).mono ?_
          rintro e w1 ⟨rfl, hg, ho⟩
          rw [← HCODE.out]
          have HQd := Lib.hid (HQc.out.only ho DQP.out)
          have hS := hHeld.trans ho
          clear ho HPc HQc
          have HPc := Lib.hid hg
          have HQc := Lib.hid HQd.out
          clear hg HQd
          go_wp2_with fail
          refine hK.out _ _ ?_ (fun hHeld2 => ?_)
          · clear hK; exact hS
          clear hK K hHeld hS
          have hHeld := hHeld2
          clear hHeld2
          try simp only [Act.put, List.setIfInBounds_toArray, List.set_cons_zero, List.set_cons_succ]
          refine takeD 21 (some 15) (v := ?_) rfl rfl (by kernel_rfl) (by kernel_rfl) (by kernel_rfl) (fun _ _ _ h => h) (by rfl) ?_ (by assumption) ?_
          rotate_left
          · intro w hSw
            (try dsimp only at hSw)
            go_simp
            try with_reducible rfl
          try simp only [Act.put, List.setIfInBounds_toArray, List.set_cons_zero, List.set_cons_succ]
          refine wpAnyH_done (by kernel_rfl) ?_ _
          have hb5 := Only.below hb hb.size hHeld HLP'.out
          have HB5 := Lib.hid (HB.out.onlyG hHeld HLP.out hlPB)
          have lB5 := HB5.out.lt
          clear dO1 dO2 dO3 dO4 HB HP HQ e0 hHeld
          have HPk := HPc
          have HQk := HQc
          clear HPc HQc
          have HPc := Lib.hid (HPk.out.below (Bdrew (Below.refl _ _) 1))
          have HQc := Lib.hid (HQk.out.below (Bdrew (Below.refl _ _) 1))
          clear HPk HQk
          have dO1 : ∀ w', Only (gblocks Qg Qab Qbs) w1 w' → w'.cell? ⟨(ad.add (j * 5)).block, (ad.add (j * 5)).off + 1, none⟩ = some (.int .i64 och) := fun w' hh => E1.out w' (Only.below hb5 hb5.size hh HLQ'.out)
          have dO2 : ∀ w', Only (gblocks Qg Qab Qbs) w1 w' → w'.cell? ⟨(ad.add (j * 5)).block, (ad.add (j * 5)).off + 2, none⟩ = some (.int .i16 ok) := fun w' hh => E2.out w' (Only.below hb5 hb5.size hh HLQ'.out)
          have dO3 : ∀ w', Only (gblocks Qg Qab Qbs) w1 w' → w'.cell? ⟨(ad.add (j * 5)).block, (ad.add (j * 5)).off + 3, none⟩ = some (.int .i64 ov) := fun w' hh => E3.out w' (Only.below hb5 hb5.size hh HLQ'.out)
          have dO4 : ∀ w', Only (gblocks Qg Qab Qbs) w1 w' → w'.cell? ⟨(ad.add (j * 5)).block, (ad.add (j * 5)).off + 4, none⟩ = some (.int .i64 of_) := fun w' hh => E4.out w' (Only.below hb5 hb5.size hh HLQ'.out)
          by_cases heq : och = (n : Int)
          · subst heq
            have HCB := Lib.hid (HCODE.out.trans (gputC_eq k ra rb n ((F : Int) + ok) HAB.out).symm)
            have hcc : (code != code) = false := by simp
            go_wp2_with fail
            refine wp_region_held_drew (S := fun w' => Only (gblocks Qg Qab Qbs) w1 w') (by kernel_rfl) ((Only.refl _ _).drew 1) (fun hHeld => ?_)
            refine takeD 0 (some 99) (v := ?_) rfl rfl (by kernel_rfl) (by kernel_rfl) (by kernel_rfl) (fun _ _ _ h => h) (by rfl) ?_ (by assumption) ?_
            rotate_left
            · intro w hSw
              (try dsimp only at hSw)
              go_simp
              try with_reducible rfl
            try simp only [Act.put, List.setIfInBounds_toArray, List.set_cons_zero, List.set_cons_succ]
            refine takeD 1 (some 100) (v := ?_) rfl rfl (by kernel_rfl) (by kernel_rfl) (by kernel_rfl) (fun _ _ _ h => h) (by rfl) ?_ (by assumption) ?_
            rotate_left
            · intro w hSw
              (try dsimp only at hSw)
              go_simp
              try with_reducible rfl
            try simp only [Act.put, List.setIfInBounds_toArray, List.set_cons_zero, List.set_cons_succ]
            refine takeD 2 (some 101) (v := ?_) rfl rfl (by kernel_rfl) (by kernel_rfl) (by kernel_rfl) (fun _ _ _ h => h) (by rfl) ?_ (by assumption) ?_
            rotate_left
            · intro w hSw
              (try dsimp only at hSw)
              go_simp
              try with_reducible rfl
            try simp only [Act.put, List.setIfInBounds_toArray, List.set_cons_zero, List.set_cons_succ]
            refine takeD 3 (some 102) (v := ?_) rfl rfl (by kernel_rfl) (by kernel_rfl) (by kernel_rfl) (fun _ _ _ h => h) (by rfl) ?_ (by assumption) ?_
            rotate_left
            · intro w hSw
              (try dsimp only at hSw)
              go_simp
              try with_reducible rfl
            try simp only [Act.put, List.setIfInBounds_toArray, List.set_cons_zero, List.set_cons_succ]
            refine takeD 4 (some 103) (v := ?_) rfl rfl (by kernel_rfl) (by kernel_rfl) (by kernel_rfl) (fun _ _ _ h => h) (by rfl) ?_ (by assumption) ?_
            rotate_left
            · intro w hSw
              (try dsimp only at hSw)
              go_simp
              try with_reducible rfl
            try simp only [Act.put, List.setIfInBounds_toArray, List.set_cons_zero, List.set_cons_succ]
            refine takeD 5 (some 104) (v := ?_) rfl rfl (by kernel_rfl) (by kernel_rfl) (by kernel_rfl) (fun _ _ _ h => h) (by rfl) ?_ (by assumption) ?_
            rotate_left
            · intro w hSw
              (try dsimp only at hSw)
              go_simp
              try with_reducible rfl
            try simp only [Act.put, List.setIfInBounds_toArray, List.set_cons_zero, List.set_cons_succ]
            refine takeD 6 (some 105) (v := ?_) rfl rfl (by kernel_rfl) (by kernel_rfl) (by kernel_rfl) (fun _ _ _ h => h) (by rfl) ?_ (by assumption) ?_
            rotate_left
            · intro w hSw
              (try dsimp only at hSw)
              go_simp
              try with_reducible rfl
            try simp only [Act.put, List.setIfInBounds_toArray, List.set_cons_zero, List.set_cons_succ]
            refine takeD 7 (some 106) (v := ?_) rfl rfl (by kernel_rfl) (by kernel_rfl) (by kernel_rfl) (fun _ _ _ h => h) (by rfl) ?_ (by assumption) ?_
            rotate_left
            · intro w hSw
              (try dsimp only at hSw)
              go_simp
              try with_reducible rfl
            try simp only [Act.put, List.setIfInBounds_toArray, List.set_cons_zero, List.set_cons_succ]
            refine takeD 8 (some 107) (v := ?_) rfl rfl (by kernel_rfl) (by kernel_rfl) (by kernel_rfl) (fun _ _ _ h => h) (by rfl) ?_ (by assumption) ?_
            rotate_left
            · intro w hSw
              (try dsimp only at hSw)
              go_simp
              try with_reducible rfl
            try simp only [Act.put, List.setIfInBounds_toArray, List.set_cons_zero, List.set_cons_succ]
            refine takeD 9 (some 108) (v := ?_) rfl rfl (by kernel_rfl) (by kernel_rfl) (by kernel_rfl) (fun _ _ _ h => h) (by rfl) ?_ (by assumption) ?_
            rotate_left
            · intro w hSw
              (try dsimp only at hSw)
              go_simp
              try with_reducible rfl
            try simp only [Act.put, List.setIfInBounds_toArray, List.set_cons_zero, List.set_cons_succ]
            refine takeD 10 (some 109) (v := ?_) rfl rfl (by kernel_rfl) (by kernel_rfl) (by kernel_rfl) (fun _ _ _ h => h) (by rfl) ?_ (by assumption) ?_
            rotate_left
            · intro w hSw
              (try dsimp only at hSw)
              go_simp
              try with_reducible rfl
            try simp only [Act.put, List.setIfInBounds_toArray, List.set_cons_zero, List.set_cons_succ]
            refine takeD 12 (some 111) (v := ?_) rfl rfl (by kernel_rfl) (by kernel_rfl) (by kernel_rfl) (fun _ _ _ h => h) (by rfl) ?_ (by assumption) ?_
            rotate_left
            · intro w hSw
              (try dsimp only at hSw)
              go_simp
              try with_reducible rfl
            try simp only [Act.put, List.setIfInBounds_toArray, List.set_cons_zero, List.set_cons_succ]
            refine takeD 13 (some 112) (v := ?_) rfl rfl (by kernel_rfl) (by kernel_rfl) (by kernel_rfl) (fun _ _ _ h => h) (by rfl) ?_ (by assumption) ?_
            rotate_left
            · intro w hSw
              (try dsimp only at hSw)
              go_simp
              try with_reducible rfl
            try simp only [Act.put, List.setIfInBounds_toArray, List.set_cons_zero, List.set_cons_succ]
            refine takeD 14 (some 113) (v := ?_) rfl rfl (by kernel_rfl) (by kernel_rfl) (by kernel_rfl) (fun _ _ _ h => h) (by rfl) ?_ (by assumption) ?_
            rotate_left
            · intro w hSw
              (try dsimp only at hSw)
              go_simp
              try with_reducible rfl
            try simp only [Act.put, List.setIfInBounds_toArray, List.set_cons_zero, List.set_cons_succ]
            refine takeD 15 (some 114) (v := ?_) rfl rfl (by kernel_rfl) (by kernel_rfl) (by kernel_rfl) (fun _ _ _ h => h) (by rfl) ?_ (by assumption) ?_
            rotate_left
            · intro w hSw
              (try dsimp only at hSw)
              go_simp
              try with_reducible rfl
            try simp only [Act.put, List.setIfInBounds_toArray, List.set_cons_zero, List.set_cons_succ]
            refine takeD 16 (some 115) (v := ?_) rfl rfl (by kernel_rfl) (by kernel_rfl) (by kernel_rfl) (fun _ _ _ h => h) (by rfl) ?_ (by assumption) ?_
            rotate_left
            · intro w hSw
              (try dsimp only at hSw)
              go_simp
              try with_reducible rfl
            try simp only [Act.put, List.setIfInBounds_toArray, List.set_cons_zero, List.set_cons_succ]
            refine takeD 17 (some 116) (v := ?_) rfl rfl (by kernel_rfl) (by kernel_rfl) (by kernel_rfl) (fun _ _ _ h => h) (by rfl) ?_ (by assumption) ?_
            rotate_left
            · intro w hSw
              (try dsimp only at hSw)
              go_simp
              try with_reducible rfl
            try simp only [Act.put, List.setIfInBounds_toArray, List.set_cons_zero, List.set_cons_succ]
            refine takeD 19 (some 118) (v := ?_) rfl rfl (by kernel_rfl) (by kernel_rfl) (by kernel_rfl) (fun _ _ _ h => h) (by rfl) ?_ (by assumption) ?_
            rotate_left
            · intro w hSw
              (try dsimp only at hSw)
              go_simp
              try with_reducible rfl
            try simp only [Act.put, List.setIfInBounds_toArray, List.set_cons_zero, List.set_cons_succ]
            refine takeD 20 (some 119) (v := ?_) rfl rfl (by kernel_rfl) (by kernel_rfl) (by kernel_rfl) (fun _ _ _ h => h) (by rfl) ?_ (by assumption) ?_
            rotate_left
            · intro w hSw
              (try dsimp only at hSw)
              go_simp
              try with_reducible rfl
            try simp only [Act.put, List.setIfInBounds_toArray, List.set_cons_zero, List.set_cons_succ]
            refine takeD 21 (some 120) (v := ?_) rfl rfl (by kernel_rfl) (by kernel_rfl) (by kernel_rfl) (fun _ _ _ h => h) (by rfl) ?_ (by assumption) ?_
            rotate_left
            · intro w hSw
              (try dsimp only at hSw)
              go_simp
              try with_reducible rfl
            try simp only [Act.put, List.setIfInBounds_toArray, List.set_cons_zero, List.set_cons_succ]
            refine takeD 22 (some 121) (v := ?_) rfl rfl (by kernel_rfl) (by kernel_rfl) (by kernel_rfl) (fun _ _ _ h => h) (by rfl) ?_ (by assumption) ?_
            rotate_left
            · intro w hSw
              (try dsimp only at hSw)
              go_simp
              try with_reducible rfl
            try simp only [Act.put, List.setIfInBounds_toArray, List.set_cons_zero, List.set_cons_succ]
            refine takeD 23 (some 122) (v := ?_) rfl rfl (by kernel_rfl) (by kernel_rfl) (by kernel_rfl) (fun _ _ _ h => h) (by rfl) ?_ (by assumption) ?_
            rotate_left
            · intro w hSw
              (try dsimp only at hSw)
              go_simp
              try with_reducible rfl
            try simp only [Act.put, List.setIfInBounds_toArray, List.set_cons_zero, List.set_cons_succ]
            refine takeD 25 (some 124) (v := ?_) rfl rfl (by kernel_rfl) (by kernel_rfl) (by kernel_rfl) (fun _ _ _ h => h) (by rfl) ?_ (by assumption) ?_
            rotate_left
            · intro w hSw
              (try dsimp only at hSw)
              go_simp
              try with_reducible rfl
            try simp only [Act.put, List.setIfInBounds_toArray, List.set_cons_zero, List.set_cons_succ]
            refine wpAnyH_ready (rs := [11]) (by kernel_rfl) (by simp) ?_
            refine AllReadyH.cons rfl (fun K hK => ?_) AllReadyH.nil
            rw [if_pos (by rfl)]
            go_simp
            go_at_call 13
            refine (gfirst_any _ Qg Qab k Qbs rb HQc.out (by rw [HBQ.out]; omega)).mono ?_
            rintro e w1 ⟨rfl, hk⟩
            rw [GB.out]
            have HPd := Lib.hid (HPc.out.below hk)
            have HQd := Lib.hid (HQc.out.below hk)
            have hS := hHeld.trans (Only.of_below (gblocks Qg Qab Qbs) hk)
            clear hk HPc HQc
            have HPc := Lib.hid HPd.out
            have HQc := Lib.hid HQd.out
            clear HPd HQd
            go_wp2_with fail
            refine hK.out _ _ ?_ (fun hHeld2 => ?_)
            · clear hK; exact hS
            clear hK K hHeld hS
            have hHeld := hHeld2
            clear hHeld2
            try simp only [Act.put, List.setIfInBounds_toArray, List.set_cons_zero, List.set_cons_succ]
            refine takeD 18 (some 117) (v := ?_) rfl rfl (by kernel_rfl) (by kernel_rfl) (by kernel_rfl) (fun _ _ _ h => h) (by rfl) ?_ (by assumption) ?_
            rotate_left
            · intro w hSw
              (try dsimp only at hSw)
              go_simp
              try with_reducible rfl
            try simp only [Act.put, List.setIfInBounds_toArray, List.set_cons_zero, List.set_cons_succ]
            refine wpAnyH_ready (rs := [24]) (by kernel_rfl) (by simp) ?_
            refine AllReadyH.cons rfl (fun K hK => ?_) AllReadyH.nil
            rw [if_pos (by rfl)]
            go_simp
            go_at_call 18
            refine (gput_any _ Qg Qab k Qbs rb (n : Int) ((F : Int) + ok) (ov, of_) HQc.out (by omega)).mono ?_
            rintro e w1 ⟨rfl, hg, ho⟩
            rw [← HCB.out]
            have HPd := Lib.hid (HPc.out.only ho DPQ.out)
            have hS := hHeld.trans ho
            clear ho HPc HQc
            have HQc := Lib.hid hg
            have HPc := Lib.hid HPd.out
            clear hg HPd
            go_wp2_with fail
            refine hK.out _ _ ?_ (fun hHeld2 => ?_)
            · clear hK; exact hS
            clear hK K hHeld hS
            have hHeld := hHeld2
            clear hHeld2
            try simp only [Act.put, List.setIfInBounds_toArray, List.set_cons_zero, List.set_cons_succ]
            refine takeD 26 (some 125) (v := ?_) rfl rfl (by kernel_rfl) (by kernel_rfl) (by kernel_rfl) (fun _ _ _ h => h) (by rfl) ?_ (by assumption) ?_
            rotate_left
            · intro w hSw
              (try dsimp only at hSw)
              go_simp
              try with_reducible rfl
            try simp only [Act.put, List.setIfInBounds_toArray, List.set_cons_zero, List.set_cons_succ]
            refine takeD 27 (some 126) (v := ?_) rfl rfl (by kernel_rfl) (by kernel_rfl) (by kernel_rfl) (fun _ _ _ h => h) (by rfl) ?_ (by assumption) ?_
            rotate_left
            · intro w hSw
              (try dsimp only at hSw)
              go_simp
              try with_reducible rfl
            try simp only [Act.put, List.setIfInBounds_toArray, List.set_cons_zero, List.set_cons_succ]
            refine wpAnyH_done (by kernel_rfl) ?_ _
            have hb6 := Only.below hb5 hb5.size hHeld HLQ'.out
            have HB6 := Lib.hid (HB5.out.onlyG hHeld HLQ.out hlQB)
            clear dO1 dO2 dO3 dO4 hHeld hsum hwk
            go_wp2
            go_roundw
            case rel => exact ⟨j + 1, F, _, _, by omega, by go_num, hb6, HB6.out, HPc.out, HQc.out, gputR_from _ _ _ _ _ F HFA.out, gputR_from _ _ _ _ _ F HFB.out, by rw [gputR_len]; exact HLA.out, by rw [gputR_len]; exact HLB.out, gputR_eq _ _ _ _ _ _ HAB.out, by omega⟩
            case measure => simp [intOf]; omega
          · have hne : (och == (n : Int)) = false := beq_false_of_ne heq
            have HNE := Lib.hid heq
            clear heq
            go_wp2_with fail
            refine wp_region_held_drew (S := fun w' => Only (gblocks Qg Qab Qbs) w1 w') (by kernel_rfl) ((Only.refl _ _).drew 1) (fun hHeld => ?_)
            refine takeD 0 (some 99) (v := ?_) rfl rfl (by kernel_rfl) (by kernel_rfl) (by kernel_rfl) (fun _ _ _ h => h) (by rfl) ?_ (by assumption) ?_
            rotate_left
            · intro w hSw
              (try dsimp only at hSw)
              go_simp
              try with_reducible rfl
            try simp only [Act.put, List.setIfInBounds_toArray, List.set_cons_zero, List.set_cons_succ]
            refine takeD 1 (some 100) (v := ?_) rfl rfl (by kernel_rfl) (by kernel_rfl) (by kernel_rfl) (fun _ _ _ h => h) (by rfl) ?_ (by assumption) ?_
            rotate_left
            · intro w hSw
              (try dsimp only at hSw)
              go_simp
              try with_reducible rfl
            try simp only [Act.put, List.setIfInBounds_toArray, List.set_cons_zero, List.set_cons_succ]
            refine takeD 2 (some 101) (v := ?_) rfl rfl (by kernel_rfl) (by kernel_rfl) (by kernel_rfl) (fun _ _ _ h => h) (by rfl) ?_ (by assumption) ?_
            rotate_left
            · intro w hSw
              (try dsimp only at hSw)
              go_simp
              try with_reducible rfl
            try simp only [Act.put, List.setIfInBounds_toArray, List.set_cons_zero, List.set_cons_succ]
            refine takeD 3 (some 102) (v := ?_) rfl rfl (by kernel_rfl) (by kernel_rfl) (by kernel_rfl) (fun _ _ _ h => h) (by rfl) ?_ (by assumption) ?_
            rotate_left
            · intro w hSw
              (try dsimp only at hSw)
              go_simp
              try with_reducible rfl
            try simp only [Act.put, List.setIfInBounds_toArray, List.set_cons_zero, List.set_cons_succ]
            refine takeD 4 (some 103) (v := ?_) rfl rfl (by kernel_rfl) (by kernel_rfl) (by kernel_rfl) (fun _ _ _ h => h) (by rfl) ?_ (by assumption) ?_
            rotate_left
            · intro w hSw
              (try dsimp only at hSw)
              go_simp
              try with_reducible rfl
            try simp only [Act.put, List.setIfInBounds_toArray, List.set_cons_zero, List.set_cons_succ]
            refine takeD 5 (some 104) (v := ?_) rfl rfl (by kernel_rfl) (by kernel_rfl) (by kernel_rfl) (fun _ _ _ h => h) (by rfl) ?_ (by assumption) ?_
            rotate_left
            · intro w hSw
              (try dsimp only at hSw)
              go_simp
              try with_reducible rfl
            try simp only [Act.put, List.setIfInBounds_toArray, List.set_cons_zero, List.set_cons_succ]
            refine takeD 6 (some 105) (v := ?_) rfl rfl (by kernel_rfl) (by kernel_rfl) (by kernel_rfl) (fun _ _ _ h => h) (by rfl) ?_ (by assumption) ?_
            rotate_left
            · intro w hSw
              (try dsimp only at hSw)
              go_simp
              try with_reducible rfl
            try simp only [Act.put, List.setIfInBounds_toArray, List.set_cons_zero, List.set_cons_succ]
            refine takeD 7 (some 106) (v := ?_) rfl rfl (by kernel_rfl) (by kernel_rfl) (by kernel_rfl) (fun _ _ _ h => h) (by rfl) ?_ (by assumption) ?_
            rotate_left
            · intro w hSw
              (try dsimp only at hSw)
              go_simp
              try with_reducible rfl
            try simp only [Act.put, List.setIfInBounds_toArray, List.set_cons_zero, List.set_cons_succ]
            refine skipD 8 (some 107) rfl rfl (by kernel_rfl) (by kernel_rfl) (by kernel_rfl) (fun _ _ _ h => h) (by rfl) (by assumption) ?_
            try simp only [Act.put, List.setIfInBounds_toArray, List.set_cons_zero, List.set_cons_succ]
            refine skipD 9 (some 108) rfl rfl (by kernel_rfl) (by kernel_rfl) (by kernel_rfl) (fun _ _ _ h => h) (by rfl) (by assumption) ?_
            try simp only [Act.put, List.setIfInBounds_toArray, List.set_cons_zero, List.set_cons_succ]
            refine skipD 10 (some 109) rfl rfl (by kernel_rfl) (by kernel_rfl) (by kernel_rfl) (fun _ _ _ h => h) (by rfl) (by assumption) ?_
            try simp only [Act.put, List.setIfInBounds_toArray, List.set_cons_zero, List.set_cons_succ]
            refine skipD 11 (some 110) rfl rfl (by kernel_rfl) (by kernel_rfl) (by kernel_rfl) (fun _ _ _ h => h) (by rfl) (by assumption) ?_
            try simp only [Act.put, List.setIfInBounds_toArray, List.set_cons_zero, List.set_cons_succ]
            refine skipD 12 (some 111) rfl rfl (by kernel_rfl) (by kernel_rfl) (by kernel_rfl) (fun _ _ _ h => h) (by rfl) (by assumption) ?_
            try simp only [Act.put, List.setIfInBounds_toArray, List.set_cons_zero, List.set_cons_succ]
            refine skipD 13 (some 112) rfl rfl (by kernel_rfl) (by kernel_rfl) (by kernel_rfl) (fun _ _ _ h => h) (by rfl) (by assumption) ?_
            try simp only [Act.put, List.setIfInBounds_toArray, List.set_cons_zero, List.set_cons_succ]
            refine skipD 14 (some 113) rfl rfl (by kernel_rfl) (by kernel_rfl) (by kernel_rfl) (fun _ _ _ h => h) (by rfl) (by assumption) ?_
            try simp only [Act.put, List.setIfInBounds_toArray, List.set_cons_zero, List.set_cons_succ]
            refine skipD 15 (some 114) rfl rfl (by kernel_rfl) (by kernel_rfl) (by kernel_rfl) (fun _ _ _ h => h) (by rfl) (by assumption) ?_
            try simp only [Act.put, List.setIfInBounds_toArray, List.set_cons_zero, List.set_cons_succ]
            refine skipD 16 (some 115) rfl rfl (by kernel_rfl) (by kernel_rfl) (by kernel_rfl) (fun _ _ _ h => h) (by rfl) (by assumption) ?_
            try simp only [Act.put, List.setIfInBounds_toArray, List.set_cons_zero, List.set_cons_succ]
            refine skipD 17 (some 116) rfl rfl (by kernel_rfl) (by kernel_rfl) (by kernel_rfl) (fun _ _ _ h => h) (by rfl) (by assumption) ?_
            try simp only [Act.put, List.setIfInBounds_toArray, List.set_cons_zero, List.set_cons_succ]
            refine skipD 18 (some 117) rfl rfl (by kernel_rfl) (by kernel_rfl) (by kernel_rfl) (fun _ _ _ h => h) (by rfl) (by assumption) ?_
            try simp only [Act.put, List.setIfInBounds_toArray, List.set_cons_zero, List.set_cons_succ]
            refine skipD 19 (some 118) rfl rfl (by kernel_rfl) (by kernel_rfl) (by kernel_rfl) (fun _ _ _ h => h) (by rfl) (by assumption) ?_
            try simp only [Act.put, List.setIfInBounds_toArray, List.set_cons_zero, List.set_cons_succ]
            refine skipD 20 (some 119) rfl rfl (by kernel_rfl) (by kernel_rfl) (by kernel_rfl) (fun _ _ _ h => h) (by rfl) (by assumption) ?_
            try simp only [Act.put, List.setIfInBounds_toArray, List.set_cons_zero, List.set_cons_succ]
            refine skipD 21 (some 120) rfl rfl (by kernel_rfl) (by kernel_rfl) (by kernel_rfl) (fun _ _ _ h => h) (by rfl) (by assumption) ?_
            try simp only [Act.put, List.setIfInBounds_toArray, List.set_cons_zero, List.set_cons_succ]
            refine skipD 22 (some 121) rfl rfl (by kernel_rfl) (by kernel_rfl) (by kernel_rfl) (fun _ _ _ h => h) (by rfl) (by assumption) ?_
            try simp only [Act.put, List.setIfInBounds_toArray, List.set_cons_zero, List.set_cons_succ]
            refine skipD 23 (some 122) rfl rfl (by kernel_rfl) (by kernel_rfl) (by kernel_rfl) (fun _ _ _ h => h) (by rfl) (by assumption) ?_
            try simp only [Act.put, List.setIfInBounds_toArray, List.set_cons_zero, List.set_cons_succ]
            refine skipD 24 (some 123) rfl rfl (by kernel_rfl) (by kernel_rfl) (by kernel_rfl) (fun _ _ _ h => h) (by rfl) (by assumption) ?_
            try simp only [Act.put, List.setIfInBounds_toArray, List.set_cons_zero, List.set_cons_succ]
            refine skipD 25 (some 124) rfl rfl (by kernel_rfl) (by kernel_rfl) (by kernel_rfl) (fun _ _ _ h => h) (by rfl) (by assumption) ?_
            try simp only [Act.put, List.setIfInBounds_toArray, List.set_cons_zero, List.set_cons_succ]
            refine skipD 26 (some 125) rfl rfl (by kernel_rfl) (by kernel_rfl) (by kernel_rfl) (fun _ _ _ h => h) (by rfl) (by assumption) ?_
            try simp only [Act.put, List.setIfInBounds_toArray, List.set_cons_zero, List.set_cons_succ]
            refine takeD 27 (some 126) (v := ?_) rfl rfl (by kernel_rfl) (by kernel_rfl) (by kernel_rfl) (fun _ _ _ h => h) (by rfl) ?_ (by assumption) ?_
            rotate_left
            · intro w hSw
              (try dsimp only at hSw)
              go_simp
              try with_reducible rfl
            try simp only [Act.put, List.setIfInBounds_toArray, List.set_cons_zero, List.set_cons_succ]
            refine wpAnyH_done (by kernel_rfl) ?_ _
            have hb6 := Only.below hb5 hb5.size hHeld HLQ'.out
            have HB6 := Lib.hid (HB5.out.onlyG hHeld HLQ.out hlQB)
            clear dO1 dO2 dO3 dO4 hHeld hsum hwk
            go_wp2
            go_roundw
            case rel => exact ⟨j + 1, F, _, _, by omega, by go_num, hb6, HB6.out, HPc.out, HQc.out, gputR_from _ _ _ _ _ F HFA.out, HFB.out, by rw [gputR_len]; exact HLA.out, HLB.out, (gputR_ne _ _ _ _ _ _ HNE.out).trans HAB.out, by omega⟩
            case measure => simp [intOf]; omega
      · have he : j = l.length := by omega
        subst he
        go_wp2
        go_ret
        exact ⟨by first | rfl | simp, hb⟩
end Go.Proofs.Ytoiaagdpckgpoaa
