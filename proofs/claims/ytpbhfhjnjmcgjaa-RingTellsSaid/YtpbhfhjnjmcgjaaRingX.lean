/- Layer 12: the law of the text's answers, walked. -/
import Derived.Test.YtpbhfhjnjmcgjaaRingV
import Derived.StillTailTactics
namespace Go.Proofs.Ytpbhfhjnjmcgjaa
open Go.ChangeShapes Go.WideShapes Go.ChangeAt Go.RowKit Go.Deep
set_option linter.unusedVariables false
set_option linter.unusedSimpArgs false

theorem RR.first {w : World} {base rb fr K : Nat} {q : List (Int × Bool)} (h : RR w base rb fr K q) : w.cell? ⟨rb, 0, none⟩ = some (.int .i64 fr) ∧ rb < w.heap.size := by
  obtain ⟨hb, xb, hc, xc, h1, _⟩ := h.ex
  exact ⟨by rw [h1.cells]; rfl, h1.lt⟩
set_option maxRecDepth 100000 in
set_option maxHeartbeats 1000000 in
theorem walk_RingTells (m f : Int) (v : Value) (l : List (Int × Int)) (w : World) (h0 : (Lit.int .u8 m).wf = true) (h1 : (Lit.int .u16 f).wf = true) (h4 : OpsRow w v l) :
    Calls Try.prog 3 #[.int .u8 m, .int .u16 f, v] w fun e w' => e = .returned (.bool true) ∧ Below w.heap.size w w' := by
  have hm8 := bounds_u8 h0
  have hf16 := bounds_u16 h1
  obtain ⟨A, c, rfl, hc, hcm, hA⟩ := h4
  have HC := Lib.hid hA
  obtain ⟨M, hM⟩ : ∃ M : Nat, m % 9 + 1 = (M : Int) := ⟨(m % 9 + 1).toNat, by omega⟩
  obtain ⟨F, hF⟩ : ∃ F : Nat, f = (F : Int) := ⟨f.toNat, by omega⟩
  subst hF
  have hM1 : 1 ≤ M ∧ M ≤ 9 := by omega
  clear h0 h1 hA
  go_enter Try.func3, Try.ntmps3
  go_wp2_with fail
  refine (head_any _).mono ?_
  rintro e W1 ⟨rfl, hk⟩
  have hb1 := hk
  clear hk
  by_cases hbig : 200 < l.length
  · have g1 : decide (((l.length : Nat) : Int) > 200) = true := decide_eq_true (by omega)
    go_wp2
    go_ret
    exact ⟨by first | rfl | simp, hb1⟩
  have g1 : decide (((l.length : Nat) : Int) > 200) = false := decide_eq_false (by omega)
  go_wp2_with fail
  try rw [hM]
  refine (newI_any M F _ (by omega) (by omega)).mono ?_
  rintro e W2 ⟨ra, ga, rfl, hR, hk, l1a, l2a⟩
  have hza := hb1.size
  have hb2 := hb1.trans (hk.mono hb1.size)
  clear hk hb1
  have A2 := Lib.hid (show RingI W2 ra ga F M (List.replicate M (0, false)) from hR)
  clear hR
  have m1a := A2.out.head.lt
  have m2a : ga < W2.heap.size := A2.out.rest.elim fun _ hh => hh.1.lt
  go_wp2_with fail
  try rw [hM]
  refine (rnew_any M F _ (by omega) (by omega)).mono ?_
  rintro e W3 ⟨rb, rfl, hB, hk⟩
  have hzb := hb2.size
  have hb3 := hb2.trans (hk.mono hb2.size)
  have A3 := Lib.hid (A2.out.below hk)
  clear hk A2 hb2
  have B3 := Lib.hid (show RR W3 W2.heap.size rb F M (List.replicate M (0, false)) from hB)
  clear hB
  obtain ⟨base, hbase⟩ : ∃ b, b = W2.heap.size := ⟨_, rfl⟩
  have HBB := Lib.hid (show RR W3 base rb F M (List.replicate M (0, false)) by rw [hbase]; exact B3.out)
  have hab : w.heap.size ≤ ra ∧ w.heap.size ≤ ga ∧ ra < base ∧ ga < base ∧ w.heap.size ≤ base := by omega
  have hrb : base ≤ rb := HBB.out.lo
  clear l1a l2a hza m1a m2a hzb hbase B3
  go_wp2_with fail
  go_loopw [11] (fun i wr => ∃ (k fr : Nat) (q : List (Int × Bool)), k ≤ l.length ∧ i = .int .i64 k ∧ Below w.heap.size w wr ∧ fr ≤ F + k ∧ RingI wr ra ga fr M q ∧ RR wr base rb fr M q) (fun i _ => l.length - (intOf i).toNat)
  case atStart => exact ⟨0, F, _, by omega, rfl, hb3, by omega, A3.out, HBB.out⟩
  case round =>
    clear A3 HBB hb3
    obtain ⟨k, fr, q, hk, rfl, hb, hfr, hA, hB⟩ := hrel
    have HA := Lib.hid hA
    have HB := Lib.hid hB
    obtain ⟨cF, lF⟩ := hB.first
    have CF := Lib.hid cF
    obtain ⟨a0, r0, hqr⟩ : ∃ a0 r0, q = a0 :: r0 := by
      match q, hB.len with
      | a0 :: r0, _ => exact ⟨a0, r0, rfl⟩
      | [], h => simp at h; omega
    have HQR := Lib.hid hqr
    clear hA hB hqr
    by_cases hlt : k < l.length
    · obtain ⟨o, ho⟩ : ∃ o, l[k]? = some o := ⟨_, List.getElem?_eq_getElem hlt⟩
      obtain ⟨ad, rfl, had, hc0, hc1, hb0, hb1⟩ := HC.out k o ho
      obtain ⟨o1, o2⟩ := o
      dsimp only at hc0 hc1 hb0 hb1
      have hcell0 : Hid (∀ w', Below w.heap.size w w' → w'.cell? (ad.add (k * 2)) = some (.int .i64 o1)) := Lib.hid fun w' hb => by rw [hb.cell (by rw [block_add]; exact had)]; exact hc0
      have hcell1 : Hid (∀ w', Below w.heap.size w w' → w'.cell? ⟨(ad.add (k * 2)).block, (ad.add (k * 2)).off + 1, none⟩ = some (.int .i16 o2)) := Lib.hid fun w' hb => by
        have h2 : w'.cell? (ad.add (k * 2 + 1)) = some (.int .i16 o2) := by rw [hb.cell (by rw [block_add]; exact had)]; exact hc1
        rwa [← Go.Deep.add_add, addk _ 1 (by decide)] at h2
      have e0 := hcell0.out wr hb
      clear hc0 hc1 ho
      go_wp2_with fail
      refine (far_any _ _).mono ?_
      rintro e W4 ⟨rfl, rfl⟩
      by_cases hfar : -576460752303423488 ≤ o1 ∧ o1 ≤ 576460752303423488
      · rw [decide_eq_true hfar]
        have hwr : IntKind.i64.wrap ((fr : Int) + o1) = (fr : Int) + o1 := IntWalk.i64_in _ (by omega)
        have hki : (k : Int) < (l.length : Int) := by omega
        go_wp2_with fail
        go_still_tail 10, (by kernel_rfl)
        clear e0 cF hwr
        go_wp2_with fail
        refine (atI_any ra ga fr M ((fr : Int) + o1) q _ (HA.out.drw 1) (by omega)).mono ?_
        rintro e W5 ⟨rfl, m5, hW5⟩
        have hb5 : Below w.heap.size w W5 := by rw [← hW5]; exact Bdrew hb.drew m5
        have hA5 := (HA.out.drw 1).drw m5
        have hB5 := (HB.out.drw 1).drw m5
        have hW5' : (wr.drewN 1).drewN m5 = W5 := hW5
        rw [hW5'] at hA5 hB5
        have HA5 := Lib.hid hA5
        have HB5 := Lib.hid hB5
        clear hA5 hB5 hW5 hW5' HA HB hb CF
        go_wp2_with fail
        refine (rat_any base rb fr M ((fr : Int) + o1) q _ HB5.out (by omega)).mono ?_
        rintro e W7 ⟨rfl, m7, hW7⟩
        have hb7 : Below w.heap.size w W7 := by rw [← hW7]; exact Bdrew hb5 m7
        have hA7 := HA5.out.drw m7
        have hB7 := HB5.out.drw m7
        rw [hW7] at hA7 hB7
        have HA7 := Lib.hid hA7
        have HB7 := Lib.hid hB7
        obtain ⟨c7, l7⟩ := hB7.first
        clear hA7 hB7 hW7 HA5 HB5 hb5
        generalize atQ 0 fr M q ((fr : Int) + o1) = av at *
        have d7 : ∀ w', Below W7.heap.size W7 w' → w'.cell? ⟨rb, 0, none⟩ = some (.int .i64 fr) := fun w' hh => by rw [hh.cell (p := ⟨rb, 0, none⟩) l7]; exact c7
        go_wp2_with fail
        refine wp_region_held_drew (S := fun w' => Below W7.heap.size W7 w') (by kernel_rfl) (by go_grown) (fun hHeld => ?_)
        refine takeD 0 (some 74) (v := ?_) rfl rfl (by kernel_rfl) (by kernel_rfl) (by kernel_rfl) (fun _ _ _ h => h) (by rfl) ?_ (by assumption) ?_
        rotate_left
        · intro w hSw
          (try dsimp only at hSw)
          go_simp
          try with_reducible rfl
        try simp only [Act.put, List.setIfInBounds_toArray, List.set_cons_zero, List.set_cons_succ]
        refine takeD 1 (some 75) (v := ?_) rfl rfl (by kernel_rfl) (by kernel_rfl) (by kernel_rfl) (fun _ _ _ h => h) (by rfl) ?_ (by assumption) ?_
        rotate_left
        · intro w hSw
          (try dsimp only at hSw)
          go_simp
          try with_reducible rfl
        try simp only [Act.put, List.setIfInBounds_toArray, List.set_cons_zero, List.set_cons_succ]
        refine takeD 2 (some 76) (v := ?_) rfl rfl (by kernel_rfl) (by kernel_rfl) (by kernel_rfl) (fun _ _ _ h => h) (by rfl) ?_ (by assumption) ?_
        rotate_left
        · intro w hSw
          (try dsimp only at hSw)
          go_simp
          try with_reducible rfl
        try simp only [Act.put, List.setIfInBounds_toArray, List.set_cons_zero, List.set_cons_succ]
        refine takeD 3 (some 77) (v := ?_) rfl rfl (by kernel_rfl) (by kernel_rfl) (by kernel_rfl) (fun _ _ _ h => h) (by rfl) ?_ (by assumption) ?_
        rotate_left
        · intro w hSw
          (try dsimp only at hSw)
          go_simp
          try with_reducible rfl
        try simp only [Act.put, List.setIfInBounds_toArray, List.set_cons_zero, List.set_cons_succ]
        refine takeD 4 (some 78) (v := ?_) rfl rfl (by kernel_rfl) (by kernel_rfl) (by kernel_rfl) (fun _ _ _ h => h) (by rfl) ?_ (by assumption) ?_
        rotate_left
        · intro w hSw
          (try dsimp only at hSw)
          go_simp
          try with_reducible rfl
        try simp only [Act.put, List.setIfInBounds_toArray, List.set_cons_zero, List.set_cons_succ]
        refine takeD 5 (some 79) (v := ?_) rfl rfl (by kernel_rfl) (by kernel_rfl) (by kernel_rfl) (fun _ _ _ h => h) (by rfl) ?_ (by assumption) ?_
        rotate_left
        · intro w hSw
          (try dsimp only at hSw)
          go_simp
          try with_reducible rfl
        try simp only [Act.put, List.setIfInBounds_toArray, List.set_cons_zero, List.set_cons_succ]
        refine takeD 6 (some 80) (v := ?_) rfl rfl (by kernel_rfl) (by kernel_rfl) (by kernel_rfl) (fun _ _ _ h => h) (by rfl) ?_ (by assumption) ?_
        rotate_left
        · intro w hSw
          (try dsimp only at hSw)
          go_simp
          try with_reducible rfl
        try simp only [Act.put, List.setIfInBounds_toArray, List.set_cons_zero, List.set_cons_succ]
        refine takeD 7 (some 81) (v := ?_) rfl rfl (by kernel_rfl) (by kernel_rfl) (by kernel_rfl) (fun _ _ _ h => h) (by rfl) ?_ (by assumption) ?_
        rotate_left
        · intro w hSw
          (try dsimp only at hSw)
          go_simp
          try with_reducible rfl
        try simp only [Act.put, List.setIfInBounds_toArray, List.set_cons_zero, List.set_cons_succ]
        refine takeD 8 (some 82) (v := ?_) rfl rfl (by kernel_rfl) (by kernel_rfl) (by kernel_rfl) (fun _ _ _ h => h) (by rfl) ?_ (by assumption) ?_
        rotate_left
        · intro w hSw
          (try dsimp only at hSw)
          go_simp
          try with_reducible rfl
        try simp only [Act.put, List.setIfInBounds_toArray, List.set_cons_zero, List.set_cons_succ]
        refine takeD 9 (some 83) (v := ?_) rfl rfl (by kernel_rfl) (by kernel_rfl) (by kernel_rfl) (fun _ _ _ h => h) (by rfl) ?_ (by assumption) ?_
        rotate_left
        · intro w hSw
          (try dsimp only at hSw)
          go_simp
          try with_reducible rfl
        try simp only [Act.put, List.setIfInBounds_toArray, List.set_cons_zero, List.set_cons_succ]
        refine takeD 11 (some 85) (v := ?_) rfl rfl (by kernel_rfl) (by kernel_rfl) (by kernel_rfl) (fun _ _ _ h => h) (by rfl) ?_ (by assumption) ?_
        rotate_left
        · intro w hSw
          (try dsimp only at hSw)
          go_simp
          try with_reducible rfl
        try simp only [Act.put, List.setIfInBounds_toArray, List.set_cons_zero, List.set_cons_succ]
        refine takeD 12 (some 86) (v := ?_) rfl rfl (by kernel_rfl) (by kernel_rfl) (by kernel_rfl) (fun _ _ _ h => h) (by rfl) ?_ (by assumption) ?_
        rotate_left
        · intro w hSw
          (try dsimp only at hSw)
          go_simp
          try with_reducible rfl
        try simp only [Act.put, List.setIfInBounds_toArray, List.set_cons_zero, List.set_cons_succ]
        refine takeD 13 (some 87) (v := ?_) rfl rfl (by kernel_rfl) (by kernel_rfl) (by kernel_rfl) (fun _ _ _ h => h) (by rfl) ?_ (by assumption) ?_
        rotate_left
        · intro w hSw
          (try dsimp only at hSw)
          go_simp
          try with_reducible rfl
        try simp only [Act.put, List.setIfInBounds_toArray, List.set_cons_zero, List.set_cons_succ]
        refine takeD 14 (some 88) (v := ?_) rfl rfl (by kernel_rfl) (by kernel_rfl) (by kernel_rfl) (fun _ _ _ h => h) (by rfl) ?_ (by assumption) ?_
        rotate_left
        · intro w hSw
          (try dsimp only at hSw)
          go_simp
          try with_reducible rfl
        try simp only [Act.put, List.setIfInBounds_toArray, List.set_cons_zero, List.set_cons_succ]
        refine wpAnyH_ready (rs := [10]) (by kernel_rfl) (by simp) ?_
        refine AllReadyH.cons rfl (fun K hK => ?_) AllReadyH.nil
        rw [if_pos (by rfl)]
        go_simp
        go_at_call 15
        refine (fromI_any ra ga fr M q _ (HA7.out.below hHeld)).mono ?_
        rintro e w1 ⟨rfl, rfl⟩
        go_wp2_with fail
        refine hK.out _ _ ?_ (fun hHeld2 => ?_)
        · first | exact hHeld.trans (hk.mono hHeld.size) | (clear hK; have hz := hHeld.size; go_grown)
        clear hK K hHeld
        have hHeld := hHeld2
        clear hHeld2
        try clear hk
        try simp only [Act.put, List.setIfInBounds_toArray, List.set_cons_zero, List.set_cons_succ]
        refine takeD 15 (some 89) (v := ?_) rfl rfl (by kernel_rfl) (by kernel_rfl) (by kernel_rfl) (fun _ _ _ h => h) (by rfl) ?_ (by assumption) ?_
        rotate_left
        · intro w hSw
          (try dsimp only at hSw)
          go_simp
          try with_reducible rfl
        try simp only [Act.put, List.setIfInBounds_toArray, List.set_cons_zero, List.set_cons_succ]
        refine takeD 16 (some 90) (v := ?_) rfl rfl (by kernel_rfl) (by kernel_rfl) (by kernel_rfl) (fun _ _ _ h => h) (by rfl) ?_ (by assumption) ?_
        rotate_left
        · intro w hSw
          (try dsimp only at hSw)
          go_simp
          try with_reducible rfl
        try simp only [Act.put, List.setIfInBounds_toArray, List.set_cons_zero, List.set_cons_succ]
        refine wpAnyH_done (by kernel_rfl) ?_ _
        clear d7
        obtain ⟨W8, hW8⟩ : ∃ W8, W8 = W7.drew := ⟨_, rfl⟩
        rw [← hW8] at hHeld ⊢
        have hb8 := hb7.trans (hHeld.mono hb7.size)
        have HA8 := Lib.hid (HA7.out.below hHeld)
        have HB8 := Lib.hid (HB7.out.below hHeld)
        have e1 := hcell1.out W8 hb8
        clear hW8 HA7 HB7 hb7 hHeld c7
        by_cases hz : o2 = 0
        · have gz : (o2 != 0) = false := by simp [hz]
          go_wp2_with fail
          refine (takeI_any ra ga fr M q _ HA8.out (by omega) a0 r0 HQR.out).mono ?_
          rintro e W9 ⟨rfl, hA9, hO9⟩
          have hb9 := Only.below hb8 hb8.size hO9 (by simp; omega)
          have HA9 := Lib.hid hA9
          have HB9 := Lib.hid (HB8.out.only hO9 (by simp; omega))
          clear hA9 hO9 HA8 HB8 hb8 e1
          go_wp2_with fail
          refine (rtake_any base rb fr M a0 r0 q _ HB9.out HQR.out (by omega)).mono ?_
          rintro e W10 ⟨rfl, hB10, hk10⟩
          have hb10 := hb9.trans (hk10.mono (by omega))
          have HB10 := Lib.hid hB10
          have HA10 := Lib.hid (HA9.out.belowB hk10 (by omega) (by omega))
          clear hB10 hk10 HA9 HB9 hb9 gz hz
          go_wp2
          go_roundw
          case rel => exact ⟨k + 1, fr + 1, r0 ++ [(0, false)], by omega, by go_num, hb10, by omega, HA10.out, HB10.out⟩
          case measure => simp [intOf]; omega
        · have gz : (o2 != 0) = true := by simp [hz]
          obtain ⟨code, hcode⟩ : ∃ z, z = putC fr M q ((fr : Int) + o1) := ⟨_, rfl⟩
          have HCODE := Lib.hid hcode
          have hAc := HA8.out.drw 1
          have hBc := HB8.out.drw 1
          have dC1 : ∀ w', Below w.heap.size w w' → w'.cell? ⟨(ad.add (k * 2)).block, (ad.add (k * 2)).off + 1, none⟩ = some (.int .i16 o2) := hcell1.out
          have hw2 : IntKind.i64.wrap o2 = o2 := IntWalk.i64_in _ (by omega)
          clear hcode
          go_wp2_with fail
          refine wp_region_held_drew (S := fun w' => Below w.heap.size w w') (by kernel_rfl) (hb8.drew) (fun hHeld => ?_)
          refine takeD 0 (some 97) (v := ?_) rfl rfl (by kernel_rfl) (by kernel_rfl) (by kernel_rfl) (fun _ _ _ h => h) (by rfl) ?_ (by assumption) ?_
          rotate_left
          · intro w hSw
            (try dsimp only at hSw)
            go_simp
            try with_reducible rfl
          try simp only [Act.put, List.setIfInBounds_toArray, List.set_cons_zero, List.set_cons_succ]
          refine takeD 1 (some 98) (v := ?_) rfl rfl (by kernel_rfl) (by kernel_rfl) (by kernel_rfl) (fun _ _ _ h => h) (by rfl) ?_ (by assumption) ?_
          rotate_left
          · intro w hSw
            (try dsimp only at hSw)
            go_simp
            try with_reducible rfl
          try simp only [Act.put, List.setIfInBounds_toArray, List.set_cons_zero, List.set_cons_succ]
          refine takeD 2 (some 99) (v := ?_) rfl rfl (by kernel_rfl) (by kernel_rfl) (by kernel_rfl) (fun _ _ _ h => h) (by rfl) ?_ (by assumption) ?_
          rotate_left
          · intro w hSw
            (try dsimp only at hSw)
            go_simp
            try with_reducible rfl
          try simp only [Act.put, List.setIfInBounds_toArray, List.set_cons_zero, List.set_cons_succ]
          refine takeD 3 (some 100) (v := ?_) rfl rfl (by kernel_rfl) (by kernel_rfl) (by kernel_rfl) (fun _ _ _ h => h) (by rfl) ?_ (by assumption) ?_
          rotate_left
          · intro w hSw
            (try dsimp only at hSw)
            go_simp
            try with_reducible rfl
          try simp only [Act.put, List.setIfInBounds_toArray, List.set_cons_zero, List.set_cons_succ]
          refine takeD 4 (some 101) (v := ?_) rfl rfl (by kernel_rfl) (by kernel_rfl) (by kernel_rfl) (fun _ _ _ h => h) (by rfl) ?_ (by assumption) ?_
          rotate_left
          · intro w hSw
            (try dsimp only at hSw)
            go_simp
            try with_reducible rfl
          try simp only [Act.put, List.setIfInBounds_toArray, List.set_cons_zero, List.set_cons_succ]
          refine takeD 5 (some 102) (v := ?_) rfl rfl (by kernel_rfl) (by kernel_rfl) (by kernel_rfl) (fun _ _ _ h => h) (by rfl) ?_ (by assumption) ?_
          rotate_left
          · intro w hSw
            (try dsimp only at hSw)
            go_simp
            try with_reducible rfl
          try simp only [Act.put, List.setIfInBounds_toArray, List.set_cons_zero, List.set_cons_succ]
          refine takeD 6 (some 103) (v := ?_) rfl rfl (by kernel_rfl) (by kernel_rfl) (by kernel_rfl) (fun _ _ _ h => h) (by rfl) ?_ (by assumption) ?_
          rotate_left
          · intro w hSw
            (try dsimp only at hSw)
            go_simp
            try with_reducible rfl
          try simp only [Act.put, List.setIfInBounds_toArray, List.set_cons_zero, List.set_cons_succ]
          refine takeD 7 (some 104) (v := ?_) rfl rfl (by kernel_rfl) (by kernel_rfl) (by kernel_rfl) (fun _ _ _ h => h) (by rfl) ?_ (by assumption) ?_
          rotate_left
          · intro w hSw
            (try dsimp only at hSw)
            go_simp
            try with_reducible rfl
          try simp only [Act.put, List.setIfInBounds_toArray, List.set_cons_zero, List.set_cons_succ]
          refine takeD 9 (some 106) (v := ?_) rfl rfl (by kernel_rfl) (by kernel_rfl) (by kernel_rfl) (fun _ _ _ h => h) (by rfl) ?_ (by assumption) ?_
          rotate_left
          · intro w hSw
            (try dsimp only at hSw)
            go_simp
            try with_reducible rfl
          try simp only [Act.put, List.setIfInBounds_toArray, List.set_cons_zero, List.set_cons_succ]
          refine takeD 10 (some 107) (v := ?_) rfl rfl (by kernel_rfl) (by kernel_rfl) (by kernel_rfl) (fun _ _ _ h => h) (by rfl) ?_ (by assumption) ?_
          rotate_left
          · intro w hSw
            (try dsimp only at hSw)
            go_simp
            try with_reducible rfl
          try simp only [Act.put, List.setIfInBounds_toArray, List.set_cons_zero, List.set_cons_succ]
          refine takeD 11 (some 108) (v := ?_) rfl rfl (by kernel_rfl) (by kernel_rfl) (by kernel_rfl) (fun _ _ _ h => h) (by rfl) ?_ (by assumption) ?_
          rotate_left
          · intro w hSw
            (try dsimp only at hSw)
            go_simp
            try with_reducible rfl
          try simp only [Act.put, List.setIfInBounds_toArray, List.set_cons_zero, List.set_cons_succ]
          refine takeD 12 (some 109) (v := ?_) rfl rfl (by kernel_rfl) (by kernel_rfl) (by kernel_rfl) (fun _ _ _ h => h) (by rfl) ?_ (by assumption) ?_
          rotate_left
          · intro w hSw
            (try dsimp only at hSw)
            go_simp
            try with_reducible rfl
          try simp only [Act.put, List.setIfInBounds_toArray, List.set_cons_zero, List.set_cons_succ]
          refine takeD 13 (some 110) (v := ?_) rfl rfl (by kernel_rfl) (by kernel_rfl) (by kernel_rfl) (fun _ _ _ h => h) (by rfl) ?_ (by assumption) ?_
          rotate_left
          · intro w hSw
            (try dsimp only at hSw)
            go_simp
            try with_reducible rfl
          try simp only [Act.put, List.setIfInBounds_toArray, List.set_cons_zero, List.set_cons_succ]
          refine takeD 14 (some 111) (v := ?_) rfl rfl (by kernel_rfl) (by kernel_rfl) (by kernel_rfl) (fun _ _ _ h => h) (by rfl) ?_ (by assumption) ?_
          rotate_left
          · intro w hSw
            (try dsimp only at hSw)
            go_simp
            try with_reducible rfl
          try simp only [Act.put, List.setIfInBounds_toArray, List.set_cons_zero, List.set_cons_succ]
          refine takeD 15 (some 112) (v := ?_) rfl rfl (by kernel_rfl) (by kernel_rfl) (by kernel_rfl) (fun _ _ _ h => h) (by rfl) ?_ (by assumption) ?_
          rotate_left
          · intro w hSw
            (try dsimp only at hSw)
            go_simp
            try with_reducible rfl
          try simp only [Act.put, List.setIfInBounds_toArray, List.set_cons_zero, List.set_cons_succ]
          refine takeD 16 (some 113) (v := ?_) rfl rfl (by kernel_rfl) (by kernel_rfl) (by kernel_rfl) (fun _ _ _ h => h) (by rfl) ?_ (by assumption) ?_
          rotate_left
          · intro w hSw
            (try dsimp only at hSw)
            go_simp
            try with_reducible rfl
          try simp only [Act.put, List.setIfInBounds_toArray, List.set_cons_zero, List.set_cons_succ]
          refine wpAnyH_ready (rs := [8]) (by kernel_rfl) (by simp) ?_
          refine AllReadyH.cons rfl (fun K hK => ?_) AllReadyH.nil
          rw [if_pos (by rfl)]
          go_simp
          go_at_call 16
          refine (putI_any ra ga fr M ((fr : Int) + o1) o2 q _ hAc (by omega)).mono ?_
          rintro e w1 ⟨rfl, hN, hO⟩
          have hBd := hBc.only hO (by simp; omega)
          have hk := Only.below hHeld hHeld.size hO (by simp; omega)
          clear hO hAc hBc
          have hAc := hN
          have hBc := hBd
          clear hN hBd
          rw [← HCODE.out]
          go_wp2_with fail
          refine hK.out _ _ ?_ (fun hHeld2 => ?_)
          · first | exact hk | (clear hK; exact hk)
          clear hK K hHeld
          have hHeld := hHeld2
          clear hHeld2
          try clear hk
          try simp only [Act.put, List.setIfInBounds_toArray, List.set_cons_zero, List.set_cons_succ]
          refine wpAnyH_ready (rs := [17]) (by kernel_rfl) (by simp) ?_
          refine AllReadyH.cons rfl (fun K hK => ?_) AllReadyH.nil
          rw [if_pos (by rfl)]
          go_simp
          go_at_call 17
          refine (rput_any base rb fr M ((fr : Int) + o1) o2 q _ hBc (by omega)).mono ?_
          rintro e w1 ⟨rfl, hN, hkB⟩
          have hAd := hAc.belowB hkB (by omega) (by omega)
          have hk := hHeld.trans (hkB.mono (by omega))
          clear hkB hAc hBc
          have hAc := hAd
          have hBc := hN
          clear hN hAd
          rw [← HCODE.out]
          go_wp2_with fail
          refine hK.out _ _ ?_ (fun hHeld2 => ?_)
          · first | exact hk | (clear hK; exact hk)
          clear hK K hHeld
          have hHeld := hHeld2
          clear hHeld2
          try clear hk
          try simp only [Act.put, List.setIfInBounds_toArray, List.set_cons_zero, List.set_cons_succ]
          refine takeD 18 (some 115) (v := ?_) rfl rfl (by kernel_rfl) (by kernel_rfl) (by kernel_rfl) (fun _ _ _ h => h) (by rfl) ?_ (by assumption) ?_
          rotate_left
          · intro w hSw
            (try dsimp only at hSw)
            go_simp
            try with_reducible rfl
          try simp only [Act.put, List.setIfInBounds_toArray, List.set_cons_zero, List.set_cons_succ]
          refine wpAnyH_done (by kernel_rfl) ?_ _
          clear dC1 e1
          have HA9 := Lib.hid hAc
          have HB9 := Lib.hid hBc
          have hb9 := Lib.hid hHeld
          clear hAc hBc HA8 HB8 hb8 hHeld gz hz
          go_wp2
          go_roundw
          case rel => exact ⟨k + 1, fr, putQ fr M q ((fr : Int) + o1) o2, by omega, by go_num, hb9.out, by omega, HA9.out, HB9.out⟩
          case measure => simp [intOf]; omega
      · rw [decide_eq_false hfar]
        go_wp2
        go_ret
        exact ⟨by first | rfl | simp, hb⟩
    · have he : k = l.length := by omega
      subst he
      have d0 : ∀ w', Below wr.heap.size wr w' → w'.cell? ⟨rb, 0, none⟩ = some (.int .i64 fr) := fun w' hh => by rw [hh.cell (p := ⟨rb, 0, none⟩) lF]; exact cF
      go_wp2_with fail
      refine wp_region_held_drew (S := fun w' => Below wr.heap.size wr w') (by kernel_rfl) (by go_grown) (fun hHeld => ?_)
      refine takeD 0 (some 134) (v := ?_) rfl rfl (by kernel_rfl) (by kernel_rfl) (by kernel_rfl) (fun _ _ _ h => h) (by rfl) ?_ (by assumption) ?_
      rotate_left
      · intro w hSw
        (try dsimp only at hSw)
        go_simp
        try with_reducible rfl
      try simp only [Act.put, List.setIfInBounds_toArray, List.set_cons_zero, List.set_cons_succ]
      refine takeD 1 (some 135) (v := ?_) rfl rfl (by kernel_rfl) (by kernel_rfl) (by kernel_rfl) (fun _ _ _ h => h) (by rfl) ?_ (by assumption) ?_
      rotate_left
      · intro w hSw
        (try dsimp only at hSw)
        go_simp
        try with_reducible rfl
      try simp only [Act.put, List.setIfInBounds_toArray, List.set_cons_zero, List.set_cons_succ]
      refine takeD 2 (some 136) (v := ?_) rfl rfl (by kernel_rfl) (by kernel_rfl) (by kernel_rfl) (fun _ _ _ h => h) (by rfl) ?_ (by assumption) ?_
      rotate_left
      · intro w hSw
        (try dsimp only at hSw)
        go_simp
        try with_reducible rfl
      try simp only [Act.put, List.setIfInBounds_toArray, List.set_cons_zero, List.set_cons_succ]
      refine takeD 4 (some 138) (v := ?_) rfl rfl (by kernel_rfl) (by kernel_rfl) (by kernel_rfl) (fun _ _ _ h => h) (by rfl) ?_ (by assumption) ?_
      rotate_left
      · intro w hSw
        (try dsimp only at hSw)
        go_simp
        try with_reducible rfl
      try simp only [Act.put, List.setIfInBounds_toArray, List.set_cons_zero, List.set_cons_succ]
      refine takeD 5 (some 139) (v := ?_) rfl rfl (by kernel_rfl) (by kernel_rfl) (by kernel_rfl) (fun _ _ _ h => h) (by rfl) ?_ (by assumption) ?_
      rotate_left
      · intro w hSw
        (try dsimp only at hSw)
        go_simp
        try with_reducible rfl
      try simp only [Act.put, List.setIfInBounds_toArray, List.set_cons_zero, List.set_cons_succ]
      refine takeD 6 (some 140) (v := ?_) rfl rfl (by kernel_rfl) (by kernel_rfl) (by kernel_rfl) (fun _ _ _ h => h) (by rfl) ?_ (by assumption) ?_
      rotate_left
      · intro w hSw
        (try dsimp only at hSw)
        go_simp
        try with_reducible rfl
      try simp only [Act.put, List.setIfInBounds_toArray, List.set_cons_zero, List.set_cons_succ]
      refine takeD 7 (some 141) (v := ?_) rfl rfl (by kernel_rfl) (by kernel_rfl) (by kernel_rfl) (fun _ _ _ h => h) (by rfl) ?_ (by assumption) ?_
      rotate_left
      · intro w hSw
        (try dsimp only at hSw)
        go_simp
        try with_reducible rfl
      try simp only [Act.put, List.setIfInBounds_toArray, List.set_cons_zero, List.set_cons_succ]
      refine wpAnyH_ready (rs := [3]) (by kernel_rfl) (by simp) ?_
      refine AllReadyH.cons rfl (fun K hK => ?_) AllReadyH.nil
      rw [if_pos (by rfl)]
      go_simp
      go_at_call 15
      refine (fromI_any ra ga fr M q _ (HA.out.below hHeld)).mono ?_
      rintro e w1 ⟨rfl, rfl⟩
      go_wp2_with fail
      refine hK.out _ _ ?_ (fun hHeld2 => ?_)
      · first | exact hHeld.trans (hk.mono hHeld.size) | (clear hK; have hz := hHeld.size; go_grown)
      clear hK K hHeld
      have hHeld := hHeld2
      clear hHeld2
      try clear hk
      try simp only [Act.put, List.setIfInBounds_toArray, List.set_cons_zero, List.set_cons_succ]
      refine takeD 8 (some 142) (v := ?_) rfl rfl (by kernel_rfl) (by kernel_rfl) (by kernel_rfl) (fun _ _ _ h => h) (by rfl) ?_ (by assumption) ?_
      rotate_left
      · intro w hSw
        (try dsimp only at hSw)
        go_simp
        try with_reducible rfl
      try simp only [Act.put, List.setIfInBounds_toArray, List.set_cons_zero, List.set_cons_succ]
      refine takeD 9 (some 143) (v := ?_) rfl rfl (by kernel_rfl) (by kernel_rfl) (by kernel_rfl) (fun _ _ _ h => h) (by rfl) ?_ (by assumption) ?_
      rotate_left
      · intro w hSw
        (try dsimp only at hSw)
        go_simp
        try with_reducible rfl
      try simp only [Act.put, List.setIfInBounds_toArray, List.set_cons_zero, List.set_cons_succ]
      refine takeD 10 (some 6) (v := ?_) rfl rfl (by kernel_rfl) (by kernel_rfl) (by kernel_rfl) (fun _ _ _ h => h) (by rfl) ?_ (by assumption) ?_
      rotate_left
      · intro w hSw
        (try dsimp only at hSw)
        go_simp
        try with_reducible rfl
      try simp only [Act.put, List.setIfInBounds_toArray, List.set_cons_zero, List.set_cons_succ]
      refine wpAnyH_done (by kernel_rfl) ?_ _
      go_wp2
      go_ret
      exact ⟨by first | rfl | simp, hb.trans (hHeld.mono hb.size)⟩
end Go.Proofs.Ytpbhfhjnjmcgjaa
