/- Layer 12: laws, walked. -/
import Derived.Test.YtpbhfhjnjmcgjaaRingK
namespace Go.Proofs.Ytpbhfhjnjmcgjaa
open Go.ChangeShapes Go.WideShapes Go.ChangeAt Go.RowKit Go.Deep
set_option linter.unusedVariables false
set_option linter.unusedSimpArgs false

theorem addk (a : Addr) (k : Nat) (h : 0 < k) : a.add k = ⟨a.block, a.off + k, none⟩ := by
  unfold Addr.add
  split
  · omega
  · rfl
theorem Only.mono {s t : List Nat} {a b : World} (h : Only s a b) (hs : ∀ x ∈ s, x ∈ t) : Only t a b := ⟨h.os, h.tape, h.output, h.size, fun i hi hn => h.block i hi fun hm => hn (hs i hm)⟩
set_option maxRecDepth 100000 in
set_option maxHeartbeats 1000000 in
theorem walk_RingApart (m f : Int) (v : Value) (l : List (Int × Int)) (w : World) (h0 : (Lit.int .u8 m).wf = true) (h1 : (Lit.int .u16 f).wf = true) (h4 : OpsRow w v l) :
    Calls Try.prog 7 #[.int .u8 m, .int .u16 f, v] w fun e w' => e = .returned (.bool true) ∧ Below w.heap.size w w' := by
  have hm8 := bounds_u8 h0
  have hf16 := bounds_u16 h1
  obtain ⟨A, c, rfl, hc, hcm, hA⟩ := h4
  have HC := Lib.hid hA
  obtain ⟨M, hK⟩ : ∃ M : Nat, m % 9 + 1 = (M : Int) := ⟨(m % 9 + 1).toNat, by omega⟩
  obtain ⟨F, hF⟩ : ∃ F : Nat, f = (F : Int) := ⟨f.toNat, by omega⟩
  subst hF
  have hK1 : 1 ≤ M ∧ M ≤ 9 := by omega
  clear h0 h1 hA
  go_enter Try.func7, Try.ntmps7
  go_wp2_with fail
  refine (head_any _).mono ?_
  rintro e W1 ⟨rfl, hk⟩
  have hb1 := hk
  clear hk
  by_cases hbig : 60 < l.length
  · have g1 : decide (((l.length : Nat) : Int) > 60) = true := decide_eq_true (by omega)
    go_wp2
    go_ret
    exact ⟨by first | rfl | simp, hb1⟩
  have g1 : decide (((l.length : Nat) : Int) > 60) = false := decide_eq_false (by omega)
  go_wp2_with fail
  try rw [hK]
  refine (newI_any M F _ (by omega) (by omega)).mono ?_
  rintro e W2 ⟨ra, ga, rfl, hR, hk, l1a, l2a⟩
  have hza := hb1.size
  have hb2 := hb1.trans (hk.mono hb1.size)
  clear hk hb1
  have A2 := Lib.hid (show RingI W2 ra ga F M (List.replicate M (0, false)) from hR)
  clear hR
  have m1a := A2.out.head.lt
  have m2a : ga < W2.heap.size := A2.out.rest.elim fun _ hh => hh.1.lt
  go_wp2_with fail
  try rw [hK]
  refine (newI_any M F _ (by omega) (by omega)).mono ?_
  rintro e W3 ⟨rb, gb, rfl, hR, hk, l1b, l2b⟩
  have hzb := hb2.size
  have hb3 := hb2.trans (hk.mono hb2.size)
  have A3 := Lib.hid (A2.out.below hk)
  clear hk A2 hb2
  have B3 := Lib.hid (show RingI W3 rb gb F M (List.replicate M (0, false)) from hR)
  clear hR
  have m1b := B3.out.head.lt
  have m2b : gb < W3.heap.size := B3.out.rest.elim fun _ hh => hh.1.lt
  go_wp2_with fail
  try rw [hK]
  refine (newI_any M F _ (by omega) (by omega)).mono ?_
  rintro e W4 ⟨rc, gc, rfl, hR, hk, l1c, l2c⟩
  have hzc := hb3.size
  have hb4 := hb3.trans (hk.mono hb3.size)
  have A4 := Lib.hid (A3.out.below hk)
  have B4 := Lib.hid (B3.out.below hk)
  clear hk A3 B3 hb3
  have C4 := Lib.hid (show RingI W4 rc gc F M (List.replicate M (0, false)) from hR)
  clear hR
  have m1c := C4.out.head.lt
  have m2c : gc < W4.heap.size := C4.out.rest.elim fun _ hh => hh.1.lt
  go_wp2_with fail
  have hw6 : w.heap.size ≤ ra ∧ w.heap.size ≤ ga ∧ w.heap.size ≤ rb ∧ w.heap.size ≤ gb ∧ w.heap.size ≤ rc ∧ w.heap.size ≤ gc := by omega
  have hab : ra < rb ∧ ra < gb ∧ ga < rb ∧ ga < gb := by omega
  have hbc : rb < rc ∧ rb < gc ∧ gb < rc ∧ gb < gc ∧ ra < rc ∧ ra < gc ∧ ga < rc ∧ ga < gc := by omega
  clear l1a l2a hza m1a m2a l1b l2b hzb m1b m2b l1c l2c hzc m1c m2c
  go_loopw [12] (fun i wr => ∃ (k fr : Nat) (q : List (Int × Bool)), k ≤ l.length ∧ i = .int .i64 k ∧ Below w.heap.size w wr ∧ fr ≤ F + k ∧ RingI wr ra ga fr M q ∧ RingI wr rb gb fr M q ∧ RingI wr rc gc (F + k) M (qW M [])) (fun i _ => l.length - (intOf i).toNat)
  case atStart => exact ⟨0, F, _, by omega, rfl, hb4, by omega, A4.out, B4.out, by simpa [qW] using C4.out⟩
  case round =>
    clear A4 B4 C4 hb4
    obtain ⟨k, fr, q, hk, rfl, hb, hfr, hA, hB, hC⟩ := hrel
    have HA := Lib.hid hA
    have HB := Lib.hid hB
    have HCr := Lib.hid hC
    have hql := hA.rest.elim fun cs hh => hh.2.2.1
    obtain ⟨a0, r0, hqr⟩ : ∃ a0 r0, q = a0 :: r0 := by
      match q, hql with
      | a0 :: r0, _ => exact ⟨a0, r0, rfl⟩
      | [], h => simp at h; omega
    have HQR := Lib.hid hqr
    clear hA hB hC hql hqr
    by_cases hlt : k < l.length
    · obtain ⟨o, ho⟩ : ∃ o, l[k]? = some o := ⟨_, List.getElem?_eq_getElem hlt⟩
      obtain ⟨ad, rfl, had, hc0, hc1, hb0, hb1⟩ := HC.out k o ho
      obtain ⟨o1, o2⟩ := o
      dsimp only at hc0 hc1 hb0 hb1
      have hcell0 : Hid (∀ w', Below w.heap.size w w' → w'.cell? (ad.add (k * 2)) = some (.int .i64 o1)) := Lib.hid fun w' hb => by rw [hb.cell (by rw [block_add]; exact had)]; exact hc0
      have hcell1 : Hid (∀ w', Below w.heap.size w w' → w'.cell? ⟨(ad.add (k * 2)).block, (ad.add (k * 2)).off + 1, none⟩ = some (.int .i16 o2)) := Lib.hid fun w' hb => by
        have h2 : w'.cell? (ad.add (k * 2 + 1)) = some (.int .i16 o2) := by rw [hb.cell (by rw [block_add]; exact had)]; exact hc1
        rwa [← Go.Deep.add_add, addk _ 1 (by decide)] at h2
      have e0 := hcell0.out wr hb
      clear hc0 hc1 ho
      go_wp2_with fail
      refine (far_any _ _).mono ?_
      rintro e W4 ⟨rfl, rfl⟩
      by_cases hfar : -576460752303423488 ≤ o1 ∧ o1 ≤ 576460752303423488
      · rw [decide_eq_true hfar]
        have hwr : IntKind.i64.wrap ((fr : Int) + o1) = (fr : Int) + o1 := IntWalk.i64_in _ (by omega)
        have hkl : k < l.length := hlt
        have dC0 : ∀ w', Below wr.heap.size wr w' → w'.cell? (ad.add (k * 2)) = some (.int .i64 o1) := fun w' hh => hcell0.out w' (hb.trans (hh.mono hb.size))
        clear e0
        go_wp2_with fail
        refine wp_region_held_drew (S := fun w' => Below wr.heap.size wr w') (by kernel_rfl) (by go_grown) (fun hHeld => ?_)
        refine takeD 0 (some 55) (v := ?_) rfl rfl (by kernel_rfl) (by kernel_rfl) (by kernel_rfl) (fun _ _ _ h => h) (by rfl) ?_ (by assumption) ?_
        rotate_left
        · intro w hSw
          (try dsimp only at hSw)
          go_simp
          try with_reducible rfl
        try simp only [Act.put, List.setIfInBounds_toArray, List.set_cons_zero, List.set_cons_succ]
        refine takeD 2 (some 57) (v := ?_) rfl rfl (by kernel_rfl) (by kernel_rfl) (by kernel_rfl) (fun _ _ _ h => h) (by rfl) ?_ (by assumption) ?_
        rotate_left
        · intro w hSw
          (try dsimp only at hSw)
          go_simp
          try with_reducible rfl
        try simp only [Act.put, List.setIfInBounds_toArray, List.set_cons_zero, List.set_cons_succ]
        refine takeD 3 (some 58) (v := ?_) rfl rfl (by kernel_rfl) (by kernel_rfl) (by kernel_rfl) (fun _ _ _ h => h) (by rfl) ?_ (by assumption) ?_
        rotate_left
        · intro w hSw
          (try dsimp only at hSw)
          go_simp
          try with_reducible rfl
        try simp only [Act.put, List.setIfInBounds_toArray, List.set_cons_zero, List.set_cons_succ]
        refine takeD 4 (some 59) (v := ?_) rfl rfl (by kernel_rfl) (by kernel_rfl) (by kernel_rfl) (fun _ _ _ h => h) (by rfl) ?_ (by assumption) ?_
        rotate_left
        · intro w hSw
          (try dsimp only at hSw)
          go_simp
          try with_reducible rfl
        try simp only [Act.put, List.setIfInBounds_toArray, List.set_cons_zero, List.set_cons_succ]
        refine takeD 5 (some 60) (v := ?_) rfl rfl (by kernel_rfl) (by kernel_rfl) (by kernel_rfl) (fun _ _ _ h => h) (by rfl) ?_ (by assumption) ?_
        rotate_left
        · intro w hSw
          (try dsimp only at hSw)
          go_simp
          try with_reducible rfl
        try simp only [Act.put, List.setIfInBounds_toArray, List.set_cons_zero, List.set_cons_succ]
        refine takeD 6 (some 61) (v := ?_) rfl rfl (by kernel_rfl) (by kernel_rfl) (by kernel_rfl) (fun _ _ _ h => h) (by rfl) ?_ (by assumption) ?_
        rotate_left
        · intro w hSw
          (try dsimp only at hSw)
          go_simp
          try with_reducible rfl
        try simp only [Act.put, List.setIfInBounds_toArray, List.set_cons_zero, List.set_cons_succ]
        refine wpAnyH_ready (rs := [1]) (by kernel_rfl) (by simp) ?_
        refine AllReadyH.cons rfl (fun K hK => ?_) AllReadyH.nil
        rw [if_pos (by rfl)]
        go_simp
        go_at_call 15
        refine (fromI_any ra ga fr M q _ (HA.out.below hHeld)).mono ?_
        rintro e w1 ⟨rfl, rfl⟩
        go_wp2_with fail
        refine hK.out _ _ ?_ (fun hHeld2 => ?_)
        · first | exact hHeld.trans (hk.mono hHeld.size) | (clear hK; have hz := hHeld.size; go_grown)
        clear hK K hHeld
        have hHeld := hHeld2
        clear hHeld2
        try clear hk
        try simp only [Act.put, List.setIfInBounds_toArray, List.set_cons_zero, List.set_cons_succ]
        refine takeD 7 (some 62) (v := ?_) rfl rfl (by kernel_rfl) (by kernel_rfl) (by kernel_rfl) (fun _ _ _ h => h) (by rfl) ?_ (by assumption) ?_
        rotate_left
        · intro w hSw
          (try dsimp only at hSw)
          go_simp
          try with_reducible rfl
        try simp only [Act.put, List.setIfInBounds_toArray, List.set_cons_zero, List.set_cons_succ]
        refine takeD 8 (some 13) (v := ?_) rfl rfl (by kernel_rfl) (by kernel_rfl) (by kernel_rfl) (fun _ _ _ h => h) (by rfl) ?_ (by assumption) ?_
        rotate_left
        · intro w hSw
          (try dsimp only at hSw)
          go_simp
          try with_reducible rfl
        try simp only [Act.put, List.setIfInBounds_toArray, List.set_cons_zero, List.set_cons_succ]
        refine wpAnyH_done (by kernel_rfl) ?_ _
        clear dC0 hwr
        obtain ⟨W5, hW5⟩ : ∃ W5, W5 = wr.drew := ⟨_, rfl⟩
        rw [← hW5] at hHeld ⊢
        have hb5 := hb.trans (hHeld.mono hb.size)
        have HA5 := Lib.hid (HA.out.below hHeld)
        have HB5 := Lib.hid (HB.out.below hHeld)
        have HC5 := Lib.hid (HCr.out.below hHeld)
        have e1 := hcell1.out W5 hb5
        clear hW5 HA HB HCr hb hHeld
        by_cases hz : o2 = 0
        · have gz : (o2 != 0) = false := by simp [hz]
          go_wp2_with fail
          refine (takeI_any ra ga fr M q _ HA5.out (by omega) a0 r0 HQR.out).mono ?_
          rintro e W6 ⟨rfl, hA6, hO6⟩
          have hb6 := Only.below hb5 hb5.size hO6 (by simp; omega)
          have HA6 := Lib.hid hA6
          have HB6 := Lib.hid (HB5.out.only hO6 (by simp; omega) (by simp; omega))
          have HC6 := Lib.hid (HC5.out.only hO6 (by simp; omega) (by simp; omega))
          clear hA6 hO6 HA5 HB5 HC5 hb5 e1
          go_wp2_with fail
          refine (takeI_any rb gb fr M q _ HB6.out (by omega) a0 r0 HQR.out).mono ?_
          rintro e W7 ⟨rfl, hB7, hO7⟩
          have hb7 := Only.below hb6 hb6.size hO7 (by simp; omega)
          have HB7 := Lib.hid hB7
          have HA7 := Lib.hid (HA6.out.only hO7 (by simp; omega) (by simp; omega))
          have HC7 := Lib.hid (HC6.out.only hO7 (by simp; omega) (by simp; omega))
          clear hB7 hO7 HA6 HB6 HC6 hb6 gz hz
          go_wp2_with fail
          refine (fromI_any rc gc (F + k) M _ _ HC7.out).mono ?_
          rintro e W8 ⟨rfl, rfl⟩
          go_wp2_with fail
          refine (putI_any rc gc (F + k) M _ 7 _ _ HC7.out (by omega)).mono ?_
          rintro e W8 ⟨rfl, hC8, hO8⟩
          rw [qW_putQ (F + k) M [] (by simp; omega) _ (by simp)] at hC8
          generalize putC (F + k) M (qW M []) ((F + k : Nat) : Int) = cc at *
          have hb8 := Only.below hb7 hb7.size hO8 (by simp; omega)
          have HC8 := Lib.hid hC8
          have HA8 := Lib.hid (HA7.out.only hO8 (by simp; omega) (by simp; omega))
          have HB8 := Lib.hid (HB7.out.only hO8 (by simp; omega) (by simp; omega))
          clear hC8 hO8 HA7 HB7 HC7 hb7
          go_wp2_with fail
          refine (takeI_any rc gc (F + k) M _ _ HC8.out (by omega) (7, true) _ (qW_cons M 7 [])).mono ?_
          rintro e W9 ⟨rfl, hC9, hO9⟩
          rw [qW_take M [] (by simp; omega), Nat.add_assoc] at hC9
          have hb9 := Only.below hb8 hb8.size hO9 (by simp; omega)
          have HC9 := Lib.hid hC9
          have HA9 := Lib.hid (HA8.out.only hO9 (by simp; omega) (by simp; omega))
          have HB9 := Lib.hid (HB8.out.only hO9 (by simp; omega) (by simp; omega))
          clear hC9 hO9 HA8 HB8 HC8 hb8
          go_wp2
          go_roundw
          case rel => exact ⟨k + 1, fr + 1, r0 ++ [(0, false)], by omega, by go_num, hb9, by omega, HA9.out, HB9.out, HC9.out⟩
          case measure => simp [intOf]; omega
        · have gz : (o2 != 0) = true := by simp [hz]
          obtain ⟨code, hcode⟩ : ∃ z, z = putC fr M q ((fr : Int) + o1) := ⟨_, rfl⟩
          have HCODE := Lib.hid hcode
          have hAc := HA5.out.drw 1
          have hBc := HB5.out.drw 1
          have dC1 : ∀ w', Only [ra, ga, rb, gb] W5 w' → w'.cell? ⟨(ad.add (k * 2)).block, (ad.add (k * 2)).off + 1, none⟩ = some (.int .i16 o2) := fun w' hO => hcell1.out w' (Only.below hb5 hb5.size hO (by simp; omega))
          have hw2 : IntKind.i64.wrap o2 = o2 := IntWalk.i64_in _ (by omega)
          have hki : (k : Int) < (l.length : Int) := by omega
          clear hcode
          go_wp2_with fail
          refine wp_region_held_drew (S := fun w' => Only [ra, ga, rb, gb] W5 w') (by kernel_rfl) ((Only.refl _ _).drew 1) (fun hHeld => ?_)
          refine takeD 0 (some 69) (v := ?_) rfl rfl (by kernel_rfl) (by kernel_rfl) (by kernel_rfl) (fun _ _ _ h => h) (by rfl) ?_ (by assumption) ?_
          rotate_left
          · intro w hSw
            (try dsimp only at hSw)
            go_simp
            try with_reducible rfl
          try simp only [Act.put, List.setIfInBounds_toArray, List.set_cons_zero, List.set_cons_succ]
          refine takeD 1 (some 70) (v := ?_) rfl rfl (by kernel_rfl) (by kernel_rfl) (by kernel_rfl) (fun _ _ _ h => h) (by rfl) ?_ (by assumption) ?_
          rotate_left
          · intro w hSw
            (try dsimp only at hSw)
            go_simp
            try with_reducible rfl
          try simp only [Act.put, List.setIfInBounds_toArray, List.set_cons_zero, List.set_cons_succ]
          refine takeD 2 (some 71) (v := ?_) rfl rfl (by kernel_rfl) (by kernel_rfl) (by kernel_rfl) (fun _ _ _ h => h) (by rfl) ?_ (by assumption) ?_
          rotate_left
          · intro w hSw
            (try dsimp only at hSw)
            go_simp
            try with_reducible rfl
          try simp only [Act.put, List.setIfInBounds_toArray, List.set_cons_zero, List.set_cons_succ]
          refine takeD 3 (some 72) (v := ?_) rfl rfl (by kernel_rfl) (by kernel_rfl) (by kernel_rfl) (fun _ _ _ h => h) (by rfl) ?_ (by assumption) ?_
          rotate_left
          · intro w hSw
            (try dsimp only at hSw)
            go_simp
            try with_reducible rfl
          try simp only [Act.put, List.setIfInBounds_toArray, List.set_cons_zero, List.set_cons_succ]
          refine takeD 4 (some 73) (v := ?_) rfl rfl (by kernel_rfl) (by kernel_rfl) (by kernel_rfl) (fun _ _ _ h => h) (by rfl) ?_ (by assumption) ?_
          rotate_left
          · intro w hSw
            (try dsimp only at hSw)
            go_simp
            try with_reducible rfl
          try simp only [Act.put, List.setIfInBounds_toArray, List.set_cons_zero, List.set_cons_succ]
          refine takeD 5 (some 74) (v := ?_) rfl rfl (by kernel_rfl) (by kernel_rfl) (by kernel_rfl) (fun _ _ _ h => h) (by rfl) ?_ (by assumption) ?_
          rotate_left
          · intro w hSw
            (try dsimp only at hSw)
            go_simp
            try with_reducible rfl
          try simp only [Act.put, List.setIfInBounds_toArray, List.set_cons_zero, List.set_cons_succ]
          refine takeD 6 (some 75) (v := ?_) rfl rfl (by kernel_rfl) (by kernel_rfl) (by kernel_rfl) (fun _ _ _ h => h) (by rfl) ?_ (by assumption) ?_
          rotate_left
          · intro w hSw
            (try dsimp only at hSw)
            go_simp
            try with_reducible rfl
          try simp only [Act.put, List.setIfInBounds_toArray, List.set_cons_zero, List.set_cons_succ]
          refine takeD 7 (some 76) (v := ?_) rfl rfl (by kernel_rfl) (by kernel_rfl) (by kernel_rfl) (fun _ _ _ h => h) (by rfl) ?_ (by assumption) ?_
          rotate_left
          · intro w hSw
            (try dsimp only at hSw)
            go_simp
            try with_reducible rfl
          try simp only [Act.put, List.setIfInBounds_toArray, List.set_cons_zero, List.set_cons_succ]
          refine takeD 9 (some 78) (v := ?_) rfl rfl (by kernel_rfl) (by kernel_rfl) (by kernel_rfl) (fun _ _ _ h => h) (by rfl) ?_ (by assumption) ?_
          rotate_left
          · intro w hSw
            (try dsimp only at hSw)
            go_simp
            try with_reducible rfl
          try simp only [Act.put, List.setIfInBounds_toArray, List.set_cons_zero, List.set_cons_succ]
          refine takeD 10 (some 79) (v := ?_) rfl rfl (by kernel_rfl) (by kernel_rfl) (by kernel_rfl) (fun _ _ _ h => h) (by rfl) ?_ (by assumption) ?_
          rotate_left
          · intro w hSw
            (try dsimp only at hSw)
            go_simp
            try with_reducible rfl
          try simp only [Act.put, List.setIfInBounds_toArray, List.set_cons_zero, List.set_cons_succ]
          refine takeD 11 (some 80) (v := ?_) rfl rfl (by kernel_rfl) (by kernel_rfl) (by kernel_rfl) (fun _ _ _ h => h) (by rfl) ?_ (by assumption) ?_
          rotate_left
          · intro w hSw
            (try dsimp only at hSw)
            go_simp
            try with_reducible rfl
          try simp only [Act.put, List.setIfInBounds_toArray, List.set_cons_zero, List.set_cons_succ]
          refine takeD 12 (some 81) (v := ?_) rfl rfl (by kernel_rfl) (by kernel_rfl) (by kernel_rfl) (fun _ _ _ h => h) (by rfl) ?_ (by assumption) ?_
          rotate_left
          · intro w hSw
            (try dsimp only at hSw)
            go_simp
            try with_reducible rfl
          try simp only [Act.put, List.setIfInBounds_toArray, List.set_cons_zero, List.set_cons_succ]
          refine takeD 13 (some 82) (v := ?_) rfl rfl (by kernel_rfl) (by kernel_rfl) (by kernel_rfl) (fun _ _ _ h => h) (by rfl) ?_ (by assumption) ?_
          rotate_left
          · intro w hSw
            (try dsimp only at hSw)
            go_simp
            try with_reducible rfl
          try simp only [Act.put, List.setIfInBounds_toArray, List.set_cons_zero, List.set_cons_succ]
          refine takeD 14 (some 83) (v := ?_) rfl rfl (by kernel_rfl) (by kernel_rfl) (by kernel_rfl) (fun _ _ _ h => h) (by rfl) ?_ (by assumption) ?_
          rotate_left
          · intro w hSw
            (try dsimp only at hSw)
            go_simp
            try with_reducible rfl
          try simp only [Act.put, List.setIfInBounds_toArray, List.set_cons_zero, List.set_cons_succ]
          refine takeD 15 (some 84) (v := ?_) rfl rfl (by kernel_rfl) (by kernel_rfl) (by kernel_rfl) (fun _ _ _ h => h) (by rfl) ?_ (by assumption) ?_
          rotate_left
          · intro w hSw
            (try dsimp only at hSw)
            go_simp
            try with_reducible rfl
          try simp only [Act.put, List.setIfInBounds_toArray, List.set_cons_zero, List.set_cons_succ]
          refine takeD 16 (some 85) (v := ?_) rfl rfl (by kernel_rfl) (by kernel_rfl) (by kernel_rfl) (fun _ _ _ h => h) (by rfl) ?_ (by assumption) ?_
          rotate_left
          · intro w hSw
            (try dsimp only at hSw)
            go_simp
            try with_reducible rfl
          try simp only [Act.put, List.setIfInBounds_toArray, List.set_cons_zero, List.set_cons_succ]
          refine wpAnyH_ready (rs := [8]) (by kernel_rfl) (by simp) ?_
          refine AllReadyH.cons rfl (fun K hK => ?_) AllReadyH.nil
          rw [if_pos (by rfl)]
          go_simp
          go_at_call 16
          refine (putI_any ra ga fr M ((fr : Int) + o1) o2 q _ hAc (by omega)).mono ?_
          rintro e w1 ⟨rfl, hN, hO⟩
          have hAd := hN
          have hBd := hBc.only hO (by simp; omega) (by simp; omega)
          have hk := Only.mono (t := [ra, ga, rb, gb]) hO (by simp)
          clear hN hO hAc hBc
          have hAc := hAd
          have hBc := hBd
          clear hAd hBd
          rw [← HCODE.out]
          go_wp2_with fail
          refine hK.out _ _ ?_ (fun hHeld2 => ?_)
          · first | exact hHeld.trans hk | (clear hK; exact hHeld)
          clear hK K hHeld
          have hHeld := hHeld2
          clear hHeld2
          try clear hk
          try simp only [Act.put, List.setIfInBounds_toArray, List.set_cons_zero, List.set_cons_succ]
          refine wpAnyH_ready (rs := [17]) (by kernel_rfl) (by simp) ?_
          refine AllReadyH.cons rfl (fun K hK => ?_) AllReadyH.nil
          rw [if_pos (by rfl)]
          go_simp
          go_at_call 16
          refine (putI_any rb gb fr M ((fr : Int) + o1) o2 q _ hBc (by omega)).mono ?_
          rintro e w1 ⟨rfl, hN, hO⟩
          have hBd := hN
          have hAd := hAc.only hO (by simp; omega) (by simp; omega)
          have hk := Only.mono (t := [ra, ga, rb, gb]) hO (by simp)
          clear hN hO hBc hAc
          have hBc := hBd
          have hAc := hAd
          clear hBd hAd
          rw [← HCODE.out]
          go_wp2_with fail
          refine hK.out _ _ ?_ (fun hHeld2 => ?_)
          · first | exact hHeld.trans hk | (clear hK; exact hHeld)
          clear hK K hHeld
          have hHeld := hHeld2
          clear hHeld2
          try clear hk
          try simp only [Act.put, List.setIfInBounds_toArray, List.set_cons_zero, List.set_cons_succ]
          refine takeD 18 (some 87) (v := ?_) rfl rfl (by kernel_rfl) (by kernel_rfl) (by kernel_rfl) (fun _ _ _ h => h) (by rfl) ?_ (by assumption) ?_
          rotate_left
          · intro w hSw
            (try dsimp only at hSw)
            go_simp
            try with_reducible rfl
          try simp only [Act.put, List.setIfInBounds_toArray, List.set_cons_zero, List.set_cons_succ]
          refine wpAnyH_done (by kernel_rfl) ?_ _
          clear dC1 e1
          have hb7 := Only.below hb5 hb5.size hHeld (by simp; omega)
          have HC7 := Lib.hid (HC5.out.only hHeld (by simp; omega) (by simp; omega))
          have HA7 := Lib.hid hAc
          have HB7 := Lib.hid hBc
          clear hAc hBc HC5 HA5 HB5 hb5 hHeld gz hz
          go_wp2_with fail
          refine (fromI_any rc gc (F + k) M _ _ HC7.out).mono ?_
          rintro e W8 ⟨rfl, rfl⟩
          go_wp2_with fail
          refine (putI_any rc gc (F + k) M _ 7 _ _ HC7.out (by omega)).mono ?_
          rintro e W8 ⟨rfl, hC8, hO8⟩
          rw [qW_putQ (F + k) M [] (by simp; omega) _ (by simp)] at hC8
          generalize putC (F + k) M (qW M []) ((F + k : Nat) : Int) = cc at *
          have hb8 := Only.below hb7 hb7.size hO8 (by simp; omega)
          have HC8 := Lib.hid hC8
          have HA8 := Lib.hid (HA7.out.only hO8 (by simp; omega) (by simp; omega))
          have HB8 := Lib.hid (HB7.out.only hO8 (by simp; omega) (by simp; omega))
          clear hC8 hO8 HA7 HB7 HC7 hb7
          go_wp2_with fail
          refine (takeI_any rc gc (F + k) M _ _ HC8.out (by omega) (7, true) _ (qW_cons M 7 [])).mono ?_
          rintro e W9 ⟨rfl, hC9, hO9⟩
          rw [qW_take M [] (by simp; omega), Nat.add_assoc] at hC9
          have hb9 := Only.below hb8 hb8.size hO9 (by simp; omega)
          have HC9 := Lib.hid hC9
          have HA9 := Lib.hid (HA8.out.only hO9 (by simp; omega) (by simp; omega))
          have HB9 := Lib.hid (HB8.out.only hO9 (by simp; omega) (by simp; omega))
          clear hC9 hO9 HA8 HB8 HC8 hb8
          go_wp2
          go_roundw
          case rel => exact ⟨k + 1, fr, putQ fr M q ((fr : Int) + o1) o2, by omega, by go_num, hb9, by omega, HA9.out, HB9.out, HC9.out⟩
          case measure => simp [intOf]; omega
      · rw [decide_eq_false hfar]
        go_wp2
        go_ret
        exact ⟨by first | rfl | simp, hb⟩
    · have he : k = l.length := by omega
      subst he
      go_wp2_with fail
      refine (fromI_any ra ga fr M q _ HA.out).mono ?_
      rintro e W8 ⟨rfl, rfl⟩
      go_wp2_with fail
      refine (fromI_any rb gb fr M q _ HB.out).mono ?_
      rintro e W8 ⟨rfl, rfl⟩
      go_wp2
      go_ret
      exact ⟨by first | rfl | simp, hb⟩
end Go.Proofs.Ytpbhfhjnjmcgjaa
