/- Layer 13: the law of the document's answers, walked. -/
import Derived.Test.YtoiaagdpckgpoaaGridR
import Derived.StillTailTactics
namespace Go.Proofs.Ytoiaagdpckgpoaa
open Go.ChangeShapes Go.WideShapes Go.ChangeAt Go.RowKit
set_option linter.unusedVariables false
set_option linter.unusedSimpArgs false

def S9 (w : World) (gb F : Nat) (w' : World) : Prop := Below w.heap.size w w' ∧ w'.cell? ⟨gb, 2, none⟩ = some (.int .i64 F)
theorem rnext_len (N k F : Nat) (sp : List Sp) (ch p v f : Int) : (rnext N k F sp ch p v f).length ≤ sp.length + 1 := by
  unfold rnext
  by_cases h : rcode N k F sp ch p = 9
  · rw [if_pos h]; simp
  · rw [if_neg h]; omega
set_option maxRecDepth 100000 in
set_option maxHeartbeats 4000000 in
theorem walk_GridTells (v : Value) (c : Cf) (vo : Value) (l : List OpI) (w : World) (hc : IsConf w v c) (wc : (Lit.int .i64 c.P).wf = true ∧ (Lit.int .i64 c.H).wf = true ∧ (Lit.int .i64 c.C).wf = true ∧ (Lit.int .i64 c.Mn).wf = true ∧ (Lit.int .i64 c.Mx).wf = true ∧ (Lit.int .i64 c.Rho).wf = true ∧ (Lit.int .i64 c.Bd).wf = true ∧ (Lit.int .i64 c.Win).wf = true ∧ (Lit.int .i64 c.St).wf = true) (wr : ∀ r ∈ c.rows, ∀ z ∈ r, (Lit.int .i64 z).wf = true) (ho : OpsRow w vo l) :
    Calls Try.prog 3 #[v, vo] w fun e w' => e = .returned (.bool true) ∧ Below w.heap.size w w' := by
  obtain ⟨s, r, rfl, hs⟩ := hc
  have HS := Lib.hid hs
  obtain ⟨A, cp, rfl, _, _, q⟩ := hs.src
  clear hs q wc wr
  obtain ⟨Ao, co, rfl, hco, hcom, hAo⟩ := ho
  have HO := Lib.hid hAo
  clear hAo
  go_enter Try.func3, Try.ntmps3
  go_wp2_with fail
  refine calls_world (fun W1 => Below w.heap.size w W1 ∧ Blk W1 w.heap.size 25 #[.int .i64 c.P, .int .i64 c.H, .int .i64 c.C, .int .i64 c.Mn, .int .i64 c.Mx, .int .i64 c.Rho, .int .i64 c.Bd, .int .i64 c.Win, .int .i64 c.St, .slice A c.rows.length cp, r]) ⟨(by go_grown), (Blk.new _ _ _ _ (by first | rfl | simp))⟩ fun W1 ⟨hb1, qB⟩ => ?_
  have B1 := Lib.hid qB
  (try clear cB); (try clear lB); (try clear dB)
  clear qB
  refine (head_any _).mono ?_
  rintro e W2 ⟨rfl, hk⟩
  (try clear cB); (try clear lB); (try clear dB)
  have hb2 := Btrans hb1 hk
  have B2 := Lib.hid (B1.out.below hk)
  clear hk B1 hb1
  have cB := B2.out.cells
  have lB := B2.out.lt
  go_wp2_with fail
  refine (right_c _ c _ ⟨_, _, rfl, HS.out.below hb2⟩).mono ?_
  rintro e W3 ⟨rfl, hk⟩
  (try clear cB); (try clear lB); (try clear dB)
  have hb3 := Btrans hb2 hk
  have B3 := Lib.hid (B2.out.below hk)
  clear hk B2 hb2
  have cB := B3.out.cells
  have lB := B3.out.lt
  obtain ⟨ok, hok⟩ : ∃ b, b = (!greatB c.rows && confO c) := ⟨_, rfl⟩
  rw [← hok]
  cases ok with
  | false =>
    clear hok
    go_wp2
    go_ret
    exact ⟨by first | rfl | simp, hb3⟩
  | true =>
    obtain ⟨k, hC, hk1, hk64, hN0, hN⟩ := conf_facts hok.symm
    obtain ⟨N, hNN⟩ : ∃ N, N = (chansOf c.rows).length := ⟨_, rfl⟩
    rw [← hNN] at hN0 hN
    have HNN := Lib.hid hNN
    have HCK := Lib.hid hC
    clear hok hNN hC
    by_cases hbig : 100 < l.length
    · have g1 : decide (((l.length : Nat) : Int) > 100) = true := decide_eq_true (by omega)
      go_wp2
      go_ret
      exact ⟨by first | rfl | simp, hb3⟩
    have g1 : decide (((l.length : Nat) : Int) > 100) = false := decide_eq_false (by omega)
    go_wp2_with fail
    refine (gnew_any _ c _ ⟨_, _, rfl, HS.out.below hb3⟩ k HCK.out (by omega) (by rw [← HNN.out]; omega)).mono ?_
    rintro e W4 ⟨Pg, Pab, Pbs, rfl, hbl, hg, hk, hlo⟩
    (try clear cB); (try clear lB); (try clear dB)
    have hzz := hb3.size
    rw [← HNN.out] at hbl hg
    have HLP := Lib.hid hlo
    have HBP := Lib.hid hbl
    have hlPB := B3.out.lt
    obtain ⟨limP, hlim⟩ : ∃ m, m = W3.heap.size := ⟨_, rfl⟩
    rw [← hlim] at HLP hzz hlPB
    clear hlim hlo hbl
    have hb4 := Btrans hb3 hk
    have B4 := Lib.hid (B3.out.below hk)
    clear hk B3 hb3
    have P4 := Lib.hid (show GridS W4 Pg Pab Pbs k (G0 0 N k) from hg)
    clear hg
    have cB := B4.out.cells
    have lB := B4.out.lt
    go_wp2_with fail
    have HUP := P4.out.lt
    have lBN := B4.out.lt
    have hgs := hb4.size
    refine (rgnew_any _ c _ ⟨_, _, rfl, HS.out.below hb4⟩ N k HNN.out HCK.out (by omega)).mono ?_
    rintro e W5 ⟨gb, rfl, hg, hk⟩
    (try clear cB); (try clear lB); (try clear dB)
    have hb5 := Btrans hb4 hk
    have B5 := Lib.hid (B4.out.below hk)
    have P5 := Lib.hid (P4.out.below hk)
    clear hk B4 P4 hb4
    have R5 := Lib.hid (show RG W5 W4.heap.size gb N k 0 [] from hg)
    clear hg
    obtain ⟨base, hbase⟩ : ∃ m, m = W4.heap.size := ⟨_, rfl⟩
    rw [← hbase] at HUP lBN hgs R5
    have hgb := R5.out.lo
    have HUP' := Lib.hid HUP
    have HLP' := Lib.hid (show ∀ x ∈ gblocks Pg Pab Pbs, w.heap.size ≤ x from fun x hx => by have := HLP.out x hx; omega)
    have DPG := Lib.hid (show ∀ x ∈ gblocks Pg Pab Pbs, x ∉ [gb] from fun x hx hm => by have := HUP x hx; simp at hm; omega)
    have hP0 := Lib.hid (show GridS W5 Pg Pab Pbs k (RS N k 0 []) by rw [← RS_zero]; exact P5.out)
    clear hbase HUP P5
    have cB := B5.out.cells
    have lB := B5.out.lt
    go_wp2_with fail
    go_loopw [8] (fun i wr => ∃ (j F : Nat) (sp : List Sp), j ≤ l.length ∧ i = .int .i64 j ∧ Below w.heap.size w wr ∧ Blk wr w.heap.size 25 #[.int .i64 c.P, .int .i64 c.H, .int .i64 c.C, .int .i64 c.Mn, .int .i64 c.Mx, .int .i64 c.Rho, .int .i64 c.Bd, .int .i64 c.Win, .int .i64 c.St, .slice A c.rows.length cp, r] ∧ GridS wr Pg Pab Pbs k (RS N k F sp) ∧ RG wr base gb N k F sp ∧ (∀ s ∈ sp, s.2.1 < (F : Int) + (k : Int)) ∧ F ≤ j ∧ sp.length ≤ j) (fun i _ => l.length - (intOf i).toNat)
    case atStart => exact ⟨0, 0, [], by omega, rfl, hb5, B5.out, hP0.out, R5.out, by simp, by omega, by simp⟩
    case round =>
      clear hb5 B5 hP0 R5 cB lB
      obtain ⟨j, F, sp, hj, rfl, hb, hB, hP, hR, hsp, hFj, hsl⟩ := hrel
      have HB := Lib.hid hB
      have HP := Lib.hid hP
      have HR := Lib.hid hR
      have HSP := Lib.hid hsp
      have HF := Lib.hid (gfirst_from _ F (RS_from N k F sp) (by rw [RS_len]; omega))
      clear hB hP hR hsp
      by_cases hlt : j < l.length
      · obtain ⟨o, ho⟩ : ∃ o, l[j]? = some o := ⟨_, List.getElem?_eq_getElem hlt⟩
        obtain ⟨ad, rfl, had, hc0, hc1, hc2, hc3, hc4, hr1, hr2⟩ := HO.out j o ho
        have E0 : Hid (∀ w', Below w.heap.size w w' → w'.cell? (ad.add (j * 5)) = some (.bool o.tell)) := Lib.hid fun w' hb => by rw [hb.cell (by rw [block_add]; exact had)]; exact hc0
        have E1 : Hid (∀ w', Below w.heap.size w w' → w'.cell? ⟨(ad.add (j * 5)).block, (ad.add (j * 5)).off + 1, none⟩ = some (.int .i64 o.ch)) := Lib.hid fun w' hb => by
          have h2 : w'.cell? (ad.add (j * 5 + 1)) = some (.int .i64 o.ch) := by rw [hb.cell (by rw [block_add]; exact had)]; exact hc1
          rwa [← Go.Deep.add_add] at h2
        have E2 : Hid (∀ w', Below w.heap.size w w' → w'.cell? ⟨(ad.add (j * 5)).block, (ad.add (j * 5)).off + 2, none⟩ = some (.int .i16 o.k)) := Lib.hid fun w' hb => by
          have h2 : w'.cell? (ad.add (j * 5 + 2)) = some (.int .i16 o.k) := by rw [hb.cell (by rw [block_add]; exact had)]; exact hc2
          rwa [← Go.Deep.add_add] at h2
        have E3 : Hid (∀ w', Below w.heap.size w w' → w'.cell? ⟨(ad.add (j * 5)).block, (ad.add (j * 5)).off + 3, none⟩ = some (.int .i64 o.v)) := Lib.hid fun w' hb => by
          have h2 : w'.cell? (ad.add (j * 5 + 3)) = some (.int .i64 o.v) := by rw [hb.cell (by rw [block_add]; exact had)]; exact hc3
          rwa [← Go.Deep.add_add] at h2
        have E4 : Hid (∀ w', Below w.heap.size w w' → w'.cell? ⟨(ad.add (j * 5)).block, (ad.add (j * 5)).off + 4, none⟩ = some (.int .i64 o.f)) := Lib.hid fun w' hb => by
          have h2 : w'.cell? (ad.add (j * 5 + 4)) = some (.int .i64 o.f) := by rw [hb.cell (by rw [block_add]; exact had)]; exact hc4
          rwa [← Go.Deep.add_add] at h2
        have hjl : (j : Int) < (l.length : Int) := by omega
        clear hc0 hc1 hc2 hc3 hc4 ho
        have dN : ∀ w', Below wr.heap.size wr w' → w'.cell? ⟨gb, 2, none⟩ = some (.int .i64 F) := fun w' hh => (HR.out.below hh).next
        have hFF : ((F : Int) != (F : Int)) = false := by simp
        go_wp2_with fail
        refine wp_region_held_drew (S := fun w' => Below wr.heap.size wr w') (by kernel_rfl) (by go_grown) (fun hHeld => ?_)
        refine takeD 0 (some 30) (v := ?_) rfl rfl (by kernel_rfl) (by kernel_rfl) (by kernel_rfl) (fun _ _ _ h => h) (by rfl) ?_ (by assumption) ?_
        rotate_left
        · intro w hSw
          (try dsimp only at hSw)
          go_simp
          try with_reducible rfl
        try simp only [Act.put, List.setIfInBounds_toArray, List.set_cons_zero, List.set_cons_succ]
        refine takeD 2 (some 32) (v := ?_) rfl rfl (by kernel_rfl) (by kernel_rfl) (by kernel_rfl) (fun _ _ _ h => h) (by rfl) ?_ (by assumption) ?_
        rotate_left
        · intro w hSw
          (try dsimp only at hSw)
          go_simp
          try with_reducible rfl
        try simp only [Act.put, List.setIfInBounds_toArray, List.set_cons_zero, List.set_cons_succ]
        refine takeD 3 (some 33) (v := ?_) rfl rfl (by kernel_rfl) (by kernel_rfl) (by kernel_rfl) (fun _ _ _ h => h) (by rfl) ?_ (by assumption) ?_
        rotate_left
        · intro w hSw
          (try dsimp only at hSw)
          go_simp
          try with_reducible rfl
        try simp only [Act.put, List.setIfInBounds_toArray, List.set_cons_zero, List.set_cons_succ]
        refine takeD 4 (some 34) (v := ?_) rfl rfl (by kernel_rfl) (by kernel_rfl) (by kernel_rfl) (fun _ _ _ h => h) (by rfl) ?_ (by assumption) ?_
        rotate_left
        · intro w hSw
          (try dsimp only at hSw)
          go_simp
          try with_reducible rfl
        try simp only [Act.put, List.setIfInBounds_toArray, List.set_cons_zero, List.set_cons_succ]
        refine takeD 5 (some 35) (v := ?_) rfl rfl (by kernel_rfl) (by kernel_rfl) (by kernel_rfl) (fun _ _ _ h => h) (by rfl) ?_ (by assumption) ?_
        rotate_left
        · intro w hSw
          (try dsimp only at hSw)
          go_simp
          try with_reducible rfl
        try simp only [Act.put, List.setIfInBounds_toArray, List.set_cons_zero, List.set_cons_succ]
        refine wpAnyH_ready (rs := [1]) (by kernel_rfl) (by simp) ?_
        refine AllReadyH.cons rfl (fun K hK => ?_) AllReadyH.nil
        rw [if_pos (by rfl)]
        go_simp
        go_at_call 13
        refine (gfirst_any _ Pg Pab k Pbs (RS N k F sp) (HP.out.below hHeld) (by rw [HBP.out]; omega)).mono ?_
        rintro e w1 ⟨rfl, hk⟩
        rw [HF.out]
        go_wp2_with fail
        refine hK.out _ _ ?_ (fun hHeld2 => ?_)
        · first | exact hHeld.trans (hk.mono hHeld.size) | (clear hK; have hz := hHeld.size; go_grown)
        clear hK K hHeld
        have hHeld := hHeld2
        clear hHeld2
        try clear hk
        try simp only [Act.put, List.setIfInBounds_toArray, List.set_cons_zero, List.set_cons_succ]
        refine takeD 6 (some 36) (v := ?_) rfl rfl (by kernel_rfl) (by kernel_rfl) (by kernel_rfl) (fun _ _ _ h => h) (by rfl) ?_ (by assumption) ?_
        rotate_left
        · intro w hSw
          (try dsimp only at hSw)
          go_simp
          try with_reducible rfl
        try simp only [Act.put, List.setIfInBounds_toArray, List.set_cons_zero, List.set_cons_succ]
        refine wpAnyH_done (by kernel_rfl) ?_ _
        clear dN hFF
        have hb1 := hb.trans (hHeld.mono hb.size)
        have HB1 := Lib.hid (HB.out.below hHeld)
        have HP1 := Lib.hid (HP.out.below hHeld)
        have HR1 := Lib.hid (HR.out.below hHeld)
        have e0 := E0.out _ hb1
        have cB := HB1.out.cells
        clear hHeld hb HB HP HR
        obtain ⟨ot, och, ok, ov, of_⟩ := o
        dsimp only at *
        cases ot with
        | true =>
          go_wp2_with fail
          refine (reasons_any _ c j _ ⟨_, _, rfl, HS.out.below hb1⟩ (by omega) (by rw [← HNN.out]; omega)).mono ?_
          rintro e W5 ⟨Ar, cr, rfl, hrow, hoff, hk⟩
          rw [← HNN.out] at hrow hoff
          try rw [← HNN.out]
          have HROW := Lib.hid hrow
          have HOFA := Lib.hid (hoff (gblocks Pg Pab Pbs) HP1.out.lt)
          have HOFB := Lib.hid (hoff [gb] (by simp; exact HR1.out.lt))
          have hb5 := Btrans hb1 hk
          have HB5 := Lib.hid (HB1.out.below hk)
          have HP5 := Lib.hid (HP1.out.below hk)
          have HR5 := Lib.hid (HR1.out.below hk)
          clear hrow hoff hk HB1 HP1 HR1 cB hb1 e0
          go_wp2_with fail
          refine (gtell_any _ Pg Pab k cr Pbs (RS N k F sp) Ar (reasonsL N j) HP5.out (fun r hr => by rw [RS_from N k F sp r hr]; omega) HROW.out (by rw [reasonsL_len, HBP.out]) HOFA.out).mono ?_
          rintro e W6 ⟨ca, rfl, hca, hcla, hg, ho⟩
          rw [RS_adv N k F sp (by omega) HSP.out] at hg
          rw [RS_tell N k F sp (reasonsL N j) (by omega) (reasonsL_len N j)] at hca
          rw [HBP.out]
          have hb6 := Only.below hb5 hb5.size ho HLP'.out
          have HB6 := Lib.hid (HB5.out.onlyG ho HLP.out hlPB)
          have HP6 := Lib.hid hg
          have HR6 := Lib.hid (HR5.out.only ho HUP'.out)
          have HCA := Lib.hid hca
          have HW6 := Lib.hid (HROW.out.only ho HOFA.out)
          have hcan := Lib.hid (show ca ∉ [gb] from fun hm => by have := HR5.out.lt; simp at hm; omega)
          have hal := hca.lt
          clear hca hcla hg ho HB5 HP5 HR5 hb5 HROW
          go_wp2_with fail
          refine (rgtell_any _ base gb N k F cr sp Ar (reasonsL N j) HR6.out HW6.out (reasonsL_len N j) (by omega) (by omega)).mono ?_
          rintro e W7 ⟨Ac, cc, rfl, hrn, hg, ho⟩
          have hb7 := Only.below hb6 hb6.size ho (by simp; omega)
          have HB7 := Lib.hid (HB6.out.only ho (by simp; omega))
          have HP7 := Lib.hid (HP6.out.only ho DPG.out)
          have HR7 := Lib.hid hg
          have HCA7 := Lib.hid (HCA.out.only ho hcan.out)
          have HRN := Lib.hid hrn
          clear hrn hg ho HB6 HP6 HR6 hb6 HW6 HCA hcan
          go_wp2_with fail
          refine (sameC_any _ _ N N (rtell (reasonsL N j) sp F N) (rtell (reasonsL N j) sp F N) _ (RowN.of_blk HCA7.out ?_ ?_ (Nat.le_refl _) ?_) HRN.out).mono ?_
          · rw [List.take_of_length_le (by rw [c3_len, rtell_len]; exact Nat.le_refl _)]
          · rw [c3_len, rtell_len]
          · unfold maxLen; omega
          rintro e W8 ⟨rfl, hk⟩
          rw [decide_eq_true rfl]
          have hb8 := Btrans hb7 hk
          have HB8 := Lib.hid (HB7.out.below hk)
          have HP8 := Lib.hid (HP7.out.below hk)
          have HR8 := Lib.hid (HR7.out.below hk)
          clear hk HB7 HP7 HR7 hb7 HCA7 HRN
          go_wp2
          go_roundw
          case rel => exact ⟨j + 1, F + 1, sp, by omega, by go_num, hb8, HB8.out, HP8.out, HR8.out, fun s hs => by have := HSP.out s hs; omega, by omega, by omega⟩
          case measure => simp [intOf]; omega
        | false =>
          have hsum : IntKind.i64.wrap ((F : Int) + ok) = (F : Int) + ok := IntWalk.i64_in _ (by omega)
          have hwk : IntKind.i64.wrap ok = ok := IntWalk.i64_in _ (by omega)
          obtain ⟨code, hcode⟩ : ∃ z, z = rcode N k F sp och ok := ⟨_, rfl⟩
          have HC1 := Lib.hid ((RS_code N k F sp och ok).trans hcode.symm)
          have HC2 := Lib.hid hcode.symm
          have HPc := Lib.hid (HP1.out.below (Bdrew (Below.refl _ _) 1))
          have HRc := Lib.hid (HR1.out.below (Bdrew (Below.refl _ _) 1))
          have h9 : S9 w gb F _ := ⟨hb1.drew, HRc.out.next⟩
          have hcc : (code != code) = false := by simp
          have dN : ∀ w', S9 w gb F w' → w'.cell? ⟨gb, 2, none⟩ = some (.int .i64 F) := fun _ h => h.2
          clear hcode cB
          have dO1 : ∀ w', S9 w gb F w' → w'.cell? ⟨(ad.add (j * 5)).block, (ad.add (j * 5)).off + 1, none⟩ = some (.int .i64 och) := fun w' hh => E1.out w' hh.1
          have dO2 : ∀ w', S9 w gb F w' → w'.cell? ⟨(ad.add (j * 5)).block, (ad.add (j * 5)).off + 2, none⟩ = some (.int .i16 ok) := fun w' hh => E2.out w' hh.1
          have dO3 : ∀ w', S9 w gb F w' → w'.cell? ⟨(ad.add (j * 5)).block, (ad.add (j * 5)).off + 3, none⟩ = some (.int .i64 ov) := fun w' hh => E3.out w' hh.1
          have dO4 : ∀ w', S9 w gb F w' → w'.cell? ⟨(ad.add (j * 5)).block, (ad.add (j * 5)).off + 4, none⟩ = some (.int .i64 of_) := fun w' hh => E4.out w' hh.1
          go_wp2_with fail
          have HB9 := Lib.hid (HB1.out.below (Bdrew (Below.refl _ _) 1))
          refine wp_region_held_drew (S := S9 w gb F) (by kernel_rfl) (h9) (fun hHeld => ?_)
          refine takeD 0 (some 53) (v := ?_) rfl rfl (by kernel_rfl) (by kernel_rfl) (by kernel_rfl) (fun _ _ _ h => h) (by rfl) ?_ (by assumption) ?_
          rotate_left
          · intro w hSw
            (try dsimp only at hSw)
            go_simp
            try with_reducible rfl
          try simp only [Act.put, List.setIfInBounds_toArray, List.set_cons_zero, List.set_cons_succ]
          refine takeD 1 (some 54) (v := ?_) rfl rfl (by kernel_rfl) (by kernel_rfl) (by kernel_rfl) (fun _ _ _ h => h) (by rfl) ?_ (by assumption) ?_
          rotate_left
          · intro w hSw
            (try dsimp only at hSw)
            go_simp
            try with_reducible rfl
          try simp only [Act.put, List.setIfInBounds_toArray, List.set_cons_zero, List.set_cons_succ]
          refine takeD 2 (some 55) (v := ?_) rfl rfl (by kernel_rfl) (by kernel_rfl) (by kernel_rfl) (fun _ _ _ h => h) (by rfl) ?_ (by assumption) ?_
          rotate_left
          · intro w hSw
            (try dsimp only at hSw)
            go_simp
            try with_reducible rfl
          try simp only [Act.put, List.setIfInBounds_toArray, List.set_cons_zero, List.set_cons_succ]
          refine takeD 3 (some 56) (v := ?_) rfl rfl (by kernel_rfl) (by kernel_rfl) (by kernel_rfl) (fun _ _ _ h => h) (by rfl) ?_ (by assumption) ?_
          rotate_left
          · intro w hSw
            (try dsimp only at hSw)
            go_simp
            try with_reducible rfl
          try simp only [Act.put, List.setIfInBounds_toArray, List.set_cons_zero, List.set_cons_succ]
          refine takeD 4 (some 57) (v := ?_) rfl rfl (by kernel_rfl) (by kernel_rfl) (by kernel_rfl) (fun _ _ _ h => h) (by rfl) ?_ (by assumption) ?_
          rotate_left
          · intro w hSw
            (try dsimp only at hSw)
            go_simp
            try with_reducible rfl
          try simp only [Act.put, List.setIfInBounds_toArray, List.set_cons_zero, List.set_cons_succ]
          refine takeD 5 (some 58) (v := ?_) rfl rfl (by kernel_rfl) (by kernel_rfl) (by kernel_rfl) (fun _ _ _ h => h) (by rfl) ?_ (by assumption) ?_
          rotate_left
          · intro w hSw
            (try dsimp only at hSw)
            go_simp
            try with_reducible rfl
          try simp only [Act.put, List.setIfInBounds_toArray, List.set_cons_zero, List.set_cons_succ]
          refine takeD 6 (some 59) (v := ?_) rfl rfl (by kernel_rfl) (by kernel_rfl) (by kernel_rfl) (fun _ _ _ h => h) (by rfl) ?_ (by assumption) ?_
          rotate_left
          · intro w hSw
            (try dsimp only at hSw)
            go_simp
            try with_reducible rfl
          try simp only [Act.put, List.setIfInBounds_toArray, List.set_cons_zero, List.set_cons_succ]
          refine takeD 7 (some 60) (v := ?_) rfl rfl (by kernel_rfl) (by kernel_rfl) (by kernel_rfl) (fun _ _ _ h => h) (by rfl) ?_ (by assumption) ?_
          rotate_left
          · intro w hSw
            (try dsimp only at hSw)
            go_simp
            try with_reducible rfl
          try simp only [Act.put, List.setIfInBounds_toArray, List.set_cons_zero, List.set_cons_succ]
          refine takeD 8 (some 61) (v := ?_) rfl rfl (by kernel_rfl) (by kernel_rfl) (by kernel_rfl) (fun _ _ _ h => h) (by rfl) ?_ (by assumption) ?_
          rotate_left
          · intro w hSw
            (try dsimp only at hSw)
            go_simp
            try with_reducible rfl
          try simp only [Act.put, List.setIfInBounds_toArray, List.set_cons_zero, List.set_cons_succ]
          refine takeD 9 (some 62) (v := ?_) rfl rfl (by kernel_rfl) (by kernel_rfl) (by kernel_rfl) (fun _ _ _ h => h) (by rfl) ?_ (by assumption) ?_
          rotate_left
          · intro w hSw
            (try dsimp only at hSw)
            go_simp
            try with_reducible rfl
          try simp only [Act.put, List.setIfInBounds_toArray, List.set_cons_zero, List.set_cons_succ]
          refine takeD 10 (some 63) (v := ?_) rfl rfl (by kernel_rfl) (by kernel_rfl) (by kernel_rfl) (fun _ _ _ h => h) (by rfl) ?_ (by assumption) ?_
          rotate_left
          · intro w hSw
            (try dsimp only at hSw)
            go_simp
            try with_reducible rfl
          try simp only [Act.put, List.setIfInBounds_toArray, List.set_cons_zero, List.set_cons_succ]
          refine takeD 11 (some 64) (v := ?_) rfl rfl (by kernel_rfl) (by kernel_rfl) (by kernel_rfl) (fun _ _ _ h => h) (by rfl) ?_ (by assumption) ?_
          rotate_left
          · intro w hSw
            (try dsimp only at hSw)
            go_simp
            try with_reducible rfl
          try simp only [Act.put, List.setIfInBounds_toArray, List.set_cons_zero, List.set_cons_succ]
          refine takeD 12 (some 65) (v := ?_) rfl rfl (by kernel_rfl) (by kernel_rfl) (by kernel_rfl) (fun _ _ _ h => h) (by rfl) ?_ (by assumption) ?_
          rotate_left
          · intro w hSw
            (try dsimp only at hSw)
            go_simp
            try with_reducible rfl
          try simp only [Act.put, List.setIfInBounds_toArray, List.set_cons_zero, List.set_cons_succ]
          refine takeD 13 (some 66) (v := ?_) rfl rfl (by kernel_rfl) (by kernel_rfl) (by kernel_rfl) (fun _ _ _ h => h) (by rfl) ?_ (by assumption) ?_
          rotate_left
          · intro w hSw
            (try dsimp only at hSw)
            go_simp
            try with_reducible rfl
          try simp only [Act.put, List.setIfInBounds_toArray, List.set_cons_zero, List.set_cons_succ]
          refine takeD 14 (some 67) (v := ?_) rfl rfl (by kernel_rfl) (by kernel_rfl) (by kernel_rfl) (fun _ _ _ h => h) (by rfl) ?_ (by assumption) ?_
          rotate_left
          · intro w hSw
            (try dsimp only at hSw)
            go_simp
            try with_reducible rfl
          try simp only [Act.put, List.setIfInBounds_toArray, List.set_cons_zero, List.set_cons_succ]
          refine takeD 15 (some 68) (v := ?_) rfl rfl (by kernel_rfl) (by kernel_rfl) (by kernel_rfl) (fun _ _ _ h => h) (by rfl) ?_ (by assumption) ?_
          rotate_left
          · intro w hSw
            (try dsimp only at hSw)
            go_simp
            try with_reducible rfl
          try simp only [Act.put, List.setIfInBounds_toArray, List.set_cons_zero, List.set_cons_succ]
          refine takeD 16 (some 69) (v := ?_) rfl rfl (by kernel_rfl) (by kernel_rfl) (by kernel_rfl) (fun _ _ _ h => h) (by rfl) ?_ (by assumption) ?_
          rotate_left
          · intro w hSw
            (try dsimp only at hSw)
            go_simp
            try with_reducible rfl
          try simp only [Act.put, List.setIfInBounds_toArray, List.set_cons_zero, List.set_cons_succ]
          refine takeD 17 (some 70) (v := ?_) rfl rfl (by kernel_rfl) (by kernel_rfl) (by kernel_rfl) (fun _ _ _ h => h) (by rfl) ?_ (by assumption) ?_
          rotate_left
          · intro w hSw
            (try dsimp only at hSw)
            go_simp
            try with_reducible rfl
          try simp only [Act.put, List.setIfInBounds_toArray, List.set_cons_zero, List.set_cons_succ]
          refine takeD 18 (some 71) (v := ?_) rfl rfl (by kernel_rfl) (by kernel_rfl) (by kernel_rfl) (fun _ _ _ h => h) (by rfl) ?_ (by assumption) ?_
          rotate_left
          · intro w hSw
            (try dsimp only at hSw)
            go_simp
            try with_reducible rfl
          try simp only [Act.put, List.setIfInBounds_toArray, List.set_cons_zero, List.set_cons_succ]
          refine takeD 19 (some 72) (v := ?_) rfl rfl (by kernel_rfl) (by kernel_rfl) (by kernel_rfl) (fun _ _ _ h => h) (by rfl) ?_ (by assumption) ?_
          rotate_left
          · intro w hSw
            (try dsimp only at hSw)
            go_simp
            try with_reducible rfl
          try simp only [Act.put, List.setIfInBounds_toArray, List.set_cons_zero, List.set_cons_succ]
          refine takeD 20 (some 73) (v := ?_) rfl rfl (by kernel_rfl) (by kernel_rfl) (by kernel_rfl) (fun _ _ _ h => h) (by rfl) ?_ (by assumption) ?_
          rotate_left
          · intro w hSw
            (try dsimp only at hSw)
            go_simp
            try with_reducible rfl
          try simp only [Act.put, List.setIfInBounds_toArray, List.set_cons_zero, List.set_cons_succ]
          refine takeD 21 (some 74) (v := ?_) rfl rfl (by kernel_rfl) (by kernel_rfl) (by kernel_rfl) (fun _ _ _ h => h) (by rfl) ?_ (by assumption) ?_
          rotate_left
          · intro w hSw
            (try dsimp only at hSw)
            go_simp
            try with_reducible rfl
          try simp only [Act.put, List.setIfInBounds_toArray, List.set_cons_zero, List.set_cons_succ]
          refine takeD 23 (some 76) (v := ?_) rfl rfl (by kernel_rfl) (by kernel_rfl) (by kernel_rfl) (fun _ _ _ h => h) (by rfl) ?_ (by assumption) ?_
          rotate_left
          · intro w hSw
            (try dsimp only at hSw)
            go_simp
            try with_reducible rfl
          try simp only [Act.put, List.setIfInBounds_toArray, List.set_cons_zero, List.set_cons_succ]
          refine takeD 24 (some 77) (v := ?_) rfl rfl (by kernel_rfl) (by kernel_rfl) (by kernel_rfl) (fun _ _ _ h => h) (by rfl) ?_ (by assumption) ?_
          rotate_left
          · intro w hSw
            (try dsimp only at hSw)
            go_simp
            try with_reducible rfl
          try simp only [Act.put, List.setIfInBounds_toArray, List.set_cons_zero, List.set_cons_succ]
          refine takeD 25 (some 78) (v := ?_) rfl rfl (by kernel_rfl) (by kernel_rfl) (by kernel_rfl) (fun _ _ _ h => h) (by rfl) ?_ (by assumption) ?_
          rotate_left
          · intro w hSw
            (try dsimp only at hSw)
            go_simp
            try with_reducible rfl
          try simp only [Act.put, List.setIfInBounds_toArray, List.set_cons_zero, List.set_cons_succ]
          refine takeD 26 (some 79) (v := ?_) rfl rfl (by kernel_rfl) (by kernel_rfl) (by kernel_rfl) (fun _ _ _ h => h) (by rfl) ?_ (by assumption) ?_
          rotate_left
          · intro w hSw
            (try dsimp only at hSw)
            go_simp
            try with_reducible rfl
          try simp only [Act.put, List.setIfInBounds_toArray, List.set_cons_zero, List.set_cons_succ]
          refine takeD 27 (some 80) (v := ?_) rfl rfl (by kernel_rfl) (by kernel_rfl) (by kernel_rfl) (fun _ _ _ h => h) (by rfl) ?_ (by assumption) ?_
          rotate_left
          · intro w hSw
            (try dsimp only at hSw)
            go_simp
            try with_reducible rfl
          try simp only [Act.put, List.setIfInBounds_toArray, List.set_cons_zero, List.set_cons_succ]
          refine takeD 28 (some 81) (v := ?_) rfl rfl (by kernel_rfl) (by kernel_rfl) (by kernel_rfl) (fun _ _ _ h => h) (by rfl) ?_ (by assumption) ?_
          rotate_left
          · intro w hSw
            (try dsimp only at hSw)
            go_simp
            try with_reducible rfl
          try simp only [Act.put, List.setIfInBounds_toArray, List.set_cons_zero, List.set_cons_succ]
          refine takeD 29 (some 82) (v := ?_) rfl rfl (by kernel_rfl) (by kernel_rfl) (by kernel_rfl) (fun _ _ _ h => h) (by rfl) ?_ (by assumption) ?_
          rotate_left
          · intro w hSw
            (try dsimp only at hSw)
            go_simp
            try with_reducible rfl
          try simp only [Act.put, List.setIfInBounds_toArray, List.set_cons_zero, List.set_cons_succ]
          refine takeD 30 (some 83) (v := ?_) rfl rfl (by kernel_rfl) (by kernel_rfl) (by kernel_rfl) (fun _ _ _ h => h) (by rfl) ?_ (by assumption) ?_
          rotate_left
          · intro w hSw
            (try dsimp only at hSw)
            go_simp
            try with_reducible rfl
          try simp only [Act.put, List.setIfInBounds_toArray, List.set_cons_zero, List.set_cons_succ]
          refine takeD 31 (some 84) (v := ?_) rfl rfl (by kernel_rfl) (by kernel_rfl) (by kernel_rfl) (fun _ _ _ h => h) (by rfl) ?_ (by assumption) ?_
          rotate_left
          · intro w hSw
            (try dsimp only at hSw)
            go_simp
            try with_reducible rfl
          try simp only [Act.put, List.setIfInBounds_toArray, List.set_cons_zero, List.set_cons_succ]
          refine takeD 32 (some 85) (v := ?_) rfl rfl (by kernel_rfl) (by kernel_rfl) (by kernel_rfl) (fun _ _ _ h => h) (by rfl) ?_ (by assumption) ?_
          rotate_left
          · intro w hSw
            (try dsimp only at hSw)
            go_simp
            try with_reducible rfl
          try simp only [Act.put, List.setIfInBounds_toArray, List.set_cons_zero, List.set_cons_succ]
          refine takeD 33 (some 86) (v := ?_) rfl rfl (by kernel_rfl) (by kernel_rfl) (by kernel_rfl) (fun _ _ _ h => h) (by rfl) ?_ (by assumption) ?_
          rotate_left
          · intro w hSw
            (try dsimp only at hSw)
            go_simp
            try with_reducible rfl
          try simp only [Act.put, List.setIfInBounds_toArray, List.set_cons_zero, List.set_cons_succ]
          refine takeD 34 (some 87) (v := ?_) rfl rfl (by kernel_rfl) (by kernel_rfl) (by kernel_rfl) (fun _ _ _ h => h) (by rfl) ?_ (by assumption) ?_
          rotate_left
          · intro w hSw
            (try dsimp only at hSw)
            go_simp
            try with_reducible rfl
          try simp only [Act.put, List.setIfInBounds_toArray, List.set_cons_zero, List.set_cons_succ]
          refine takeD 35 (some 88) (v := ?_) rfl rfl (by kernel_rfl) (by kernel_rfl) (by kernel_rfl) (fun _ _ _ h => h) (by rfl) ?_ (by assumption) ?_
          rotate_left
          · intro w hSw
            (try dsimp only at hSw)
            go_simp
            try with_reducible rfl
          try simp only [Act.put, List.setIfInBounds_toArray, List.set_cons_zero, List.set_cons_succ]
          refine takeD 36 (some 89) (v := ?_) rfl rfl (by kernel_rfl) (by kernel_rfl) (by kernel_rfl) (fun _ _ _ h => h) (by rfl) ?_ (by assumption) ?_
          rotate_left
          · intro w hSw
            (try dsimp only at hSw)
            go_simp
            try with_reducible rfl
          try simp only [Act.put, List.setIfInBounds_toArray, List.set_cons_zero, List.set_cons_succ]
          refine takeD 37 (some 90) (v := ?_) rfl rfl (by kernel_rfl) (by kernel_rfl) (by kernel_rfl) (fun _ _ _ h => h) (by rfl) ?_ (by assumption) ?_
          rotate_left
          · intro w hSw
            (try dsimp only at hSw)
            go_simp
            try with_reducible rfl
          try simp only [Act.put, List.setIfInBounds_toArray, List.set_cons_zero, List.set_cons_succ]
          refine takeD 38 (some 91) (v := ?_) rfl rfl (by kernel_rfl) (by kernel_rfl) (by kernel_rfl) (fun _ _ _ h => h) (by rfl) ?_ (by assumption) ?_
          rotate_left
          · intro w hSw
            (try dsimp only at hSw)
            go_simp
            try with_reducible rfl
          try simp only [Act.put, List.setIfInBounds_toArray, List.set_cons_zero, List.set_cons_succ]
          refine takeD 39 (some 92) (v := ?_) rfl rfl (by kernel_rfl) (by kernel_rfl) (by kernel_rfl) (fun _ _ _ h => h) (by rfl) ?_ (by assumption) ?_
          rotate_left
          · intro w hSw
            (try dsimp only at hSw)
            go_simp
            try with_reducible rfl
          try simp only [Act.put, List.setIfInBounds_toArray, List.set_cons_zero, List.set_cons_succ]
          refine takeD 40 (some 93) (v := ?_) rfl rfl (by kernel_rfl) (by kernel_rfl) (by kernel_rfl) (fun _ _ _ h => h) (by rfl) ?_ (by assumption) ?_
          rotate_left
          · intro w hSw
            (try dsimp only at hSw)
            go_simp
            try with_reducible rfl
          try simp only [Act.put, List.setIfInBounds_toArray, List.set_cons_zero, List.set_cons_succ]
          refine takeD 41 (some 94) (v := ?_) rfl rfl (by kernel_rfl) (by kernel_rfl) (by kernel_rfl) (fun _ _ _ h => h) (by rfl) ?_ (by assumption) ?_
          rotate_left
          · intro w hSw
            (try dsimp only at hSw)
            go_simp
            try with_reducible rfl
          try simp only [Act.put, List.setIfInBounds_toArray, List.set_cons_zero, List.set_cons_succ]
          refine takeD 42 (some 95) (v := ?_) rfl rfl (by kernel_rfl) (by kernel_rfl) (by kernel_rfl) (fun _ _ _ h => h) (by rfl) ?_ (by assumption) ?_
          rotate_left
          · intro w hSw
            (try dsimp only at hSw)
            go_simp
            try with_reducible rfl
          try simp only [Act.put, List.setIfInBounds_toArray, List.set_cons_zero, List.set_cons_succ]
          refine takeD 43 (some 96) (v := ?_) rfl rfl (by kernel_rfl) (by kernel_rfl) (by kernel_rfl) (fun _ _ _ h => h) (by rfl) ?_ (by assumption) ?_
          rotate_left
          · intro w hSw
            (try dsimp only at hSw)
            go_simp
            try with_reducible rfl
          try simp only [Act.put, List.setIfInBounds_toArray, List.set_cons_zero, List.set_cons_succ]
          refine takeD 44 (some 97) (v := ?_) rfl rfl (by kernel_rfl) (by kernel_rfl) (by kernel_rfl) (fun _ _ _ h => h) (by rfl) ?_ (by assumption) ?_
          rotate_left
          · intro w hSw
            (try dsimp only at hSw)
            go_simp
            try with_reducible rfl
          try simp only [Act.put, List.setIfInBounds_toArray, List.set_cons_zero, List.set_cons_succ]
          refine wpAnyH_ready (rs := [22]) (by kernel_rfl) (by simp) ?_
          refine AllReadyH.cons rfl (fun K hK => ?_) AllReadyH.nil
          rw [if_pos (by rfl)]
          go_simp
          go_at_call 18
          refine (gput_any _ Pg Pab k Pbs (RS N k F sp) och ((F : Int) + ok) (ov, of_) HPc.out (by omega)).mono ?_
          rintro e w2 ⟨rfl, hg, ho⟩
          rw [RS_next] at hg
          rw [HC1.out]
          have HRd := Lib.hid (HRc.out.only ho HUP'.out)
          have hS : S9 w gb F _ := ⟨Only.below hHeld.1 hHeld.1.size ho HLP'.out, HRd.out.next⟩
          have hB2 := Lib.hid (HB9.out.onlyG ho HLP.out hlPB)
          clear ho HPc HRc HB9
          have HPc := Lib.hid hg
          have HRc := Lib.hid HRd.out
          have HB9 := Lib.hid hB2.out
          clear hg HRd hB2
          go_wp2_with fail
          refine hK.out _ _ ?_ (fun hHeld2 => ?_)
          · clear hK; exact hS
          clear hK K hHeld hS
          have hHeld := hHeld2
          clear hHeld2
          try simp only [Act.put, List.setIfInBounds_toArray, List.set_cons_zero, List.set_cons_succ]
          refine wpAnyH_ready (rs := [45]) (by kernel_rfl) (by simp) ?_
          refine AllReadyH.cons rfl (fun K hK => ?_) AllReadyH.nil
          rw [if_pos (by rfl)]
          go_simp
          go_at_call 19
          refine (rgput_any _ base gb N k F sp och ok (ov, of_) HRc.out (by omega) (by omega) (by omega) (by omega) (by omega) (by have := HRc.out.lo; have := HRc.out.lt; omega)).mono ?_
          rintro e w3 ⟨rfl, hg, ho⟩
          rw [HC2.out]
          have HPd := Lib.hid (HPc.out.only ho DPG.out)
          have hS : S9 w gb F _ := ⟨Only.below hHeld.1 hHeld.1.size ho (by simp; omega), hg.next⟩
          have hB3 := Lib.hid (HB9.out.only ho (by simp; omega))
          clear ho HPc HRc HB9
          have HRc := Lib.hid hg
          have HPc := Lib.hid HPd.out
          have HB9 := Lib.hid hB3.out
          clear hg HPd hB3
          go_wp2_with fail
          refine hK.out _ _ ?_ (fun hHeld2 => ?_)
          · clear hK; exact hS
          clear hK K hHeld hS
          have hHeld := hHeld2
          clear hHeld2
          try simp only [Act.put, List.setIfInBounds_toArray, List.set_cons_zero, List.set_cons_succ]
          refine takeD 46 (some 99) (v := ?_) rfl rfl (by kernel_rfl) (by kernel_rfl) (by kernel_rfl) (fun _ _ _ h => h) (by rfl) ?_ (by assumption) ?_
          rotate_left
          · intro w hSw
            (try dsimp only at hSw)
            go_simp
            try with_reducible rfl
          try simp only [Act.put, List.setIfInBounds_toArray, List.set_cons_zero, List.set_cons_succ]
          refine wpAnyH_done (by kernel_rfl) ?_ _
          have hb9 := hHeld.1
          have hl9 := rnext_len N k F sp och ok ov of_
          have HS9 := Lib.hid (rnext_lt N k F sp och ok ov of_ HSP.out)
          clear dN dO1 dO2 dO3 dO4 hHeld hsum hwk
          go_wp2
          go_roundw
          case rel => exact ⟨j + 1, F, rnext N k F sp och ok ov of_, by omega, by go_num, hb9, HB9.out, HPc.out, HRc.out, HS9.out, by omega, by omega⟩
          case measure => simp [intOf]; omega
      · have he : j = l.length := by omega
        subst he
        go_wp2
        go_ret
        exact ⟨by first | rfl | simp, hb⟩
end Go.Proofs.Ytoiaagdpckgpoaa
