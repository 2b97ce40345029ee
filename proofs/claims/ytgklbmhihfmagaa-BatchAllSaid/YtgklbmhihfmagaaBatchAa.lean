/- Layer 14: the law BatchAll. -/
import Derived.Test.YtgklbmhihfmagaaBatchC
import Derived.Test.YtgklbmhihfmagaaBatchZ
namespace Go.Proofs.Ytgklbmhihfmagaa
open Go.ChangeShapes Go.WideShapes Go.ChangeAt Go.RowKit Go.Deep
set_option linter.unusedVariables false
set_option linter.unusedSimpArgs false

theorem not_in_take {l : List PV} {j : Nat} {x : PV} (h : (l.map PV.p).Nodup) (hx : l[j]? = some x) : x.p ∉ (l.take j).map PV.p := by
  intro hm
  obtain ⟨y, hy, e⟩ := List.mem_map.1 hm
  obtain ⟨i, hi, e2⟩ := List.getElem_of_mem hy
  rw [List.length_take] at hi
  rw [List.getElem_take] at e2
  obtain ⟨hj, e3⟩ := List.getElem?_eq_some_iff.1 hx
  have := (List.pairwise_iff_getElem.1 h) i j (by simp; omega) (by simp; omega) (by omega)
  rw [List.getElem_map, List.getElem_map] at this
  apply this
  rw [e2, e3, e]
set_option maxRecDepth 100000 in
set_option maxHeartbeats 8000000 in
theorem walk_BatchAll (vt : Value) (ts : List TV) (vl : Value) (l : List PV) (w : World) (h0 : TRow w vt ts) (h1 : PRow w vl l) :
    Calls Try.prog 5 #[vt, vl] w fun e w' => e = .returned (.bool true) ∧ Below w.heap.size w w' := by
  obtain ⟨LA, LC, rfl⟩ := h1.1
  have hlc := h1.caps
  have hl1 := hlc.2.1
  have hl2 := hlc.2.2
  clear hlc
  have H0' := Lib.hid h0
  have H1' := Lib.hid h1
  clear h0 h1
  go_enter Try.func5, Try.ntmps5
  go_wp2_with fail
  go_at_call 9
  refine (head_any _).mono ?_
  rintro e w1 ⟨rfl, hk1⟩
  have H0 := Lib.hid (H0'.out.below hk1)
  have H1 := Lib.hid (H1'.out.below hk1)
  have HB1 := Lib.hid hk1
  clear hk1 H0' H1'
  go_wp2_with fail
  go_at_call 10
  refine (good_any vt _ ts l _ H0.out H1.out).mono ?_
  rintro e V1 ⟨b, hb, rfl, hk1⟩
  have HGD := Lib.hid hb
  have H2 := Lib.hid (H0.out.below hk1)
  have H3 := Lib.hid (H1.out.below hk1)
  have HB2 := Lib.hid (Btrans HB1.out hk1)
  clear hb hk1 H0 H1 HB1
  cases b
  · go_wp2
    go_ret
    exact ⟨by simp, HB2.out⟩
  have HG := Lib.hid (HGD.out rfl)
  clear HGD
  have hl60 : l.length ≤ 60 := HG.out.2.1
  go_wp2_with fail
  go_at_call 12
  refine (order_any vt _ ts l _ H2.out H3.out HG.out.2.2.2 HG.out.2.2.1 (by have := HG.out.2.1; omega)).mono ?_
  rintro e V2 ⟨va, La, rfl, hP, hL, hk⟩
  obtain ⟨AA, AC, rfl⟩ := hP.1
  have hac := hP.caps
  have ha1 := hac.2.1
  have ha2 := hac.2.2
  have hLl : La.length ≤ l.length := by
    have h1 := congrArg List.length hL.1
    have h2 := ordR_len (ts := ts.map TV.t) (l := l.map PV.p) (fun x hx => by obtain ⟨y, hy, rfl⟩ := List.mem_map.1 hx; exact HG.out.2.2.2 y hy)
    simp at h1 h2
    omega
  have HPa := Lib.hid hP
  have HLa := Lib.hid hL.1
  have HLs := Lib.hid hL.2
  have H4 := Lib.hid (H2.out.below hk)
  have H5 := Lib.hid (H3.out.below hk)
  have HB3 := Lib.hid (Btrans HB2.out hk)
  have HRl := Lib.hid (show ∀ x ∈ l.map PV.p, x.right from fun x hx => by obtain ⟨y, hy, rfl⟩ := List.mem_map.1 hx; exact HG.out.2.2.2 y hy)
  clear hac hP hL hk H2 H3 HB2
  go_wp2_with fail
  go_loopw [7] (fun i wr => ∃ k : Nat, k ≤ l.length ∧ i = .int .i64 k ∧ Below V2.heap.size V2 wr) (fun i _ => l.length - (intOf i).toNat)
  case atStart => exact ⟨0, by omega, rfl, Below.refl _ _⟩
  case round =>
    obtain ⟨k, hk, rfl, hb⟩ := hrel
    have HB := Lib.hid hb
    clear hb
    by_cases hlt : k < l.length
    · obtain ⟨x, hx⟩ : ∃ x, l[k]? = some x := ⟨_, List.getElem?_eq_getElem hlt⟩
      have HX := Lib.hid hx
      obtain ⟨ad, rfl, _, hab, c0, c1, c2, c3, c4, c5⟩ := H5.out.atw hx
      clear hx
      have k0 := (HB.out.cell hab).trans c0
      have k1 := (HB.out.cell (p := ⟨(ad.add (k * 6)).block, (ad.add (k * 6)).off + 1, none⟩) hab).trans c1
      have k2 := (HB.out.cell (p := ⟨(ad.add (k * 6)).block, (ad.add (k * 6)).off + 2, none⟩) hab).trans c2
      have k3 := (HB.out.cell (p := ⟨(ad.add (k * 6)).block, (ad.add (k * 6)).off + 3, none⟩) hab).trans c3
      have k4 := (HB.out.cell (p := ⟨(ad.add (k * 6)).block, (ad.add (k * 6)).off + 4, none⟩) hab).trans c4
      have k5 := (HB.out.cell (p := ⟨(ad.add (k * 6)).block, (ad.add (k * 6)).off + 5, none⟩) hab).trans c5
      clear c0 c1 c2 c3 c4 c5
      have hkl : (k : Int) < (l.length : Int) := by omega
      go_wp2_with fail
      go_at_call 14
      refine (has_any _ x.agg La x.p _ (HPa.out.below HB.out) ((H5.out.pk (List.mem_of_getElem? HX.out)).below HB.out)).mono ?_
      rintro e W2 ⟨rfl, hkk⟩
      rw [show decide (x.p ∈ La.map PV.p) = true from decide_eq_true (by rw [HLa.out, ordR_mem HRl.out]; exact List.mem_map.2 ⟨x, List.mem_of_getElem? HX.out, rfl⟩)]
      have HB4 := Lib.hid (Btrans HB.out hkk)
      clear hkk
      go_wp2
      go_roundw
      case rel => exact ⟨k + 1, by omega, by go_num, HB4.out⟩
      case measure => simp [intOf]; omega
    · obtain rfl : k = l.length := by omega
      have HND := Lib.hid (show (La.map PV.p).Nodup by rw [HLa.out]; exact asc_nodup (ordR_asc HRl.out))
      have hbs := HB.out.size
      obtain ⟨u1, hu1⟩ : ∃ u, u = wr := ⟨wr, rfl⟩
      subst hu1
      go_wp2_with fail
      go_loopw [8] (fun i wr => ∃ k : Nat, k ≤ La.length ∧ i = .int .i64 k ∧ Below V2.heap.size V2 wr) (fun i _ => La.length - (intOf i).toNat)
      case atStart => exact ⟨0, by omega, rfl, HB.out⟩
      case round =>
        clear HB
        obtain ⟨j, hj, rfl, hb⟩ := hrel
        have HB := Lib.hid hb
        clear hb
        by_cases hjt : j < La.length
        · obtain ⟨x, hx⟩ : ∃ x, La[j]? = some x := ⟨_, List.getElem?_eq_getElem hjt⟩
          have HX := Lib.hid hx
          obtain ⟨ad, rfl, _, hsx⟩ := HPa.out.six hx
          have HSX := Lib.hid hsx
          clear hx hsx
          have hjl : (j : Int) < (La.length : Int) := by omega
          have hjc : (j : Int) ≤ (AC : Int) := by omega
          have hbs2 := HB.out.size
          go_wp2_with fail
          have Sp := HSX.out.at HB.out hbs2
          have p0 := fun V hV => (Sp V hV).1
          have p1 := fun V hV => (Sp V hV).2.1
          have p2 := fun V hV => (Sp V hV).2.2.1
          have p3 := fun V hV => (Sp V hV).2.2.2.1
          have p4 := fun V hV => (Sp V hV).2.2.2.2.1
          have p5 := fun V hV => (Sp V hV).2.2.2.2.2
          clear Sp
          refine wp_region_held_drew (S := fun w' => Below wr.heap.size wr w') (by kernel_rfl) (by exact (Below.refl _ _).drew) (fun hHeld => ?_)
          refine takeD 0 (some 37) (v := ?_) rfl rfl (by kernel_rfl) (by kernel_rfl) (by kernel_rfl) (fun _ _ _ h => h) (by rfl) ?_ (by assumption) ?_
          rotate_left
          · intro w hSw
            (try dsimp only at hSw)
            go_simp
            try with_reducible rfl
          try simp only [Act.put, List.setIfInBounds_toArray, List.set_cons_zero, List.set_cons_succ]
          refine takeD 1 (some 38) (v := ?_) rfl rfl (by kernel_rfl) (by kernel_rfl) (by kernel_rfl) (fun _ _ _ h => h) (by rfl) ?_ (by assumption) ?_
          rotate_left
          · intro w hSw
            (try dsimp only at hSw)
            go_simp
            try with_reducible rfl
          try simp only [Act.put, List.setIfInBounds_toArray, List.set_cons_zero, List.set_cons_succ]
          refine takeD 2 (some 39) (v := ?_) rfl rfl (by kernel_rfl) (by kernel_rfl) (by kernel_rfl) (fun _ _ _ h => h) (by rfl) ?_ (by assumption) ?_
          rotate_left
          · intro w hSw
            (try dsimp only at hSw)
            go_simp
            try with_reducible rfl
          try simp only [Act.put, List.setIfInBounds_toArray, List.set_cons_zero, List.set_cons_succ]
          refine takeD 3 (some 40) (v := ?_) rfl rfl (by kernel_rfl) (by kernel_rfl) (by kernel_rfl) (fun _ _ _ h => h) (by rfl) ?_ (by assumption) ?_
          rotate_left
          · intro w hSw
            (try dsimp only at hSw)
            go_simp
            try with_reducible rfl
          try simp only [Act.put, List.setIfInBounds_toArray, List.set_cons_zero, List.set_cons_succ]
          refine takeD 4 (some 41) (v := ?_) rfl rfl (by kernel_rfl) (by kernel_rfl) (by kernel_rfl) (fun _ _ _ h => h) (by rfl) ?_ (by assumption) ?_
          rotate_left
          · intro w hSw
            (try dsimp only at hSw)
            go_simp
            try with_reducible rfl
          try simp only [Act.put, List.setIfInBounds_toArray, List.set_cons_zero, List.set_cons_succ]
          refine wpAnyH_ready (rs := [5]) (by kernel_rfl) (by simp) ?_
          refine AllReadyH.cons rfl (fun K hK => ?_) AllReadyH.nil
          rw [if_pos (by rfl)]
          go_simp
          go_at_call 14
          refine (has_any _ (.agg #[.int .i64 x.p.dev, .int .i64 x.p.chan, .int .i64 x.p.boot, .int .i64 x.p.seq, .int .i64 x.p.stamp, .slice x.A x.p.vals.length x.c]) l x.p _ (H5.out.below (HB.out.trans (hHeld.mono hbs2))) ⟨x.vs, rfl, (HPa.out.2.2 x (List.mem_of_getElem? HX.out)).below (HB.out.trans (hHeld.mono hbs2))⟩).mono ?_
          rintro e W2 ⟨rfl, hk⟩
          rw [show decide (x.p ∈ l.map PV.p) = true from decide_eq_true (by rw [← ordR_mem HRl.out (ts := ts.map TV.t), ← HLa.out]; exact List.mem_map.2 ⟨x, List.mem_of_getElem? HX.out, rfl⟩)]
          go_wp2_with fail
          refine hK.out _ _ ?_ (fun hHeld2 => ?_)
          · first | exact hHeld.trans (hk.mono hHeld.size) | (clear hK; have hz := hHeld.size; exact (Below.refl _ _).drew)
          clear hK K hHeld
          have hHeld := hHeld2
          clear hHeld2
          try clear hk
          try simp only [Act.put, List.setIfInBounds_toArray, List.set_cons_zero, List.set_cons_succ]
          refine takeD 6 (some 43) (v := ?_) rfl rfl (by kernel_rfl) (by kernel_rfl) (by kernel_rfl) (fun _ _ _ h => h) (by rfl) ?_ (by assumption) ?_
          rotate_left
          · intro w hSw
            (try dsimp only at hSw)
            go_simp
            try with_reducible rfl
          try simp only [Act.put, List.setIfInBounds_toArray, List.set_cons_zero, List.set_cons_succ]
          refine takeD 7 (some 44) (v := ?_) rfl rfl (by kernel_rfl) (by kernel_rfl) (by kernel_rfl) (fun _ _ _ h => h) (by rfl) ?_ (by assumption) ?_
          rotate_left
          · intro w hSw
            (try dsimp only at hSw)
            go_simp
            try with_reducible rfl
          try simp only [Act.put, List.setIfInBounds_toArray, List.set_cons_zero, List.set_cons_succ]
          refine takeD 8 (some 45) (v := ?_) rfl rfl (by kernel_rfl) (by kernel_rfl) (by kernel_rfl) (fun _ _ _ h => h) (by rfl) ?_ (by assumption) ?_
          rotate_left
          · intro w hSw
            (try dsimp only at hSw)
            go_simp
            try with_reducible rfl
          try simp only [Act.put, List.setIfInBounds_toArray, List.set_cons_zero, List.set_cons_succ]
          refine takeD 9 (some 46) (v := ?_) rfl rfl (by kernel_rfl) (by kernel_rfl) (by kernel_rfl) (fun _ _ _ h => h) (by rfl) ?_ (by assumption) ?_
          rotate_left
          · intro w hSw
            (try dsimp only at hSw)
            go_simp
            try with_reducible rfl
          try simp only [Act.put, List.setIfInBounds_toArray, List.set_cons_zero, List.set_cons_succ]
          refine takeD 10 (some 47) (v := ?_) rfl rfl (by kernel_rfl) (by kernel_rfl) (by kernel_rfl) (fun _ _ _ h => h) (by rfl) ?_ (by assumption) ?_
          rotate_left
          · intro w hSw
            (try dsimp only at hSw)
            go_simp
            try with_reducible rfl
          try simp only [Act.put, List.setIfInBounds_toArray, List.set_cons_zero, List.set_cons_succ]
          refine takeD 11 (some 48) (v := ?_) rfl rfl (by kernel_rfl) (by kernel_rfl) (by kernel_rfl) (fun _ _ _ h => h) (by rfl) ?_ (by assumption) ?_
          rotate_left
          · intro w hSw
            (try dsimp only at hSw)
            go_simp
            try with_reducible rfl
          try simp only [Act.put, List.setIfInBounds_toArray, List.set_cons_zero, List.set_cons_succ]
          refine takeD 12 (some 49) (v := ?_) rfl rfl (by kernel_rfl) (by kernel_rfl) (by kernel_rfl) (fun _ _ _ h => h) (by rfl) ?_ (by assumption) ?_
          rotate_left
          · intro w hSw
            (try dsimp only at hSw)
            go_simp
            try with_reducible rfl
          try simp only [Act.put, List.setIfInBounds_toArray, List.set_cons_zero, List.set_cons_succ]
          refine takeD 13 (some 50) (v := ?_) rfl rfl (by kernel_rfl) (by kernel_rfl) (by kernel_rfl) (fun _ _ _ h => h) (by rfl) ?_ (by assumption) ?_
          rotate_left
          · intro w hSw
            (try dsimp only at hSw)
            go_simp
            try with_reducible rfl
          try simp only [Act.put, List.setIfInBounds_toArray, List.set_cons_zero, List.set_cons_succ]
          refine takeD 14 (some 51) (v := ?_) rfl rfl (by kernel_rfl) (by kernel_rfl) (by kernel_rfl) (fun _ _ _ h => h) (by rfl) ?_ (by assumption) ?_
          rotate_left
          · intro w hSw
            (try dsimp only at hSw)
            go_simp
            try with_reducible rfl
          try simp only [Act.put, List.setIfInBounds_toArray, List.set_cons_zero, List.set_cons_succ]
          refine wpAnyH_ready (rs := [15]) (by kernel_rfl) (by simp) ?_
          refine AllReadyH.cons rfl (fun K hK => ?_) AllReadyH.nil
          rw [if_pos (by rfl)]
          go_simp
          go_at_call 14
          refine (has_any _ (.agg #[.int .i64 x.p.dev, .int .i64 x.p.chan, .int .i64 x.p.boot, .int .i64 x.p.seq, .int .i64 x.p.stamp, .slice x.A x.p.vals.length x.c]) (La.take j) x.p _ ((HPa.out.pre (by omega)).below (HB.out.trans (hHeld.mono hbs2))) ⟨x.vs, rfl, (HPa.out.2.2 x (List.mem_of_getElem? HX.out)).below (HB.out.trans (hHeld.mono hbs2))⟩).mono ?_
          rintro e W3 ⟨rfl, hk⟩
          rw [show decide (x.p ∈ (La.take j).map PV.p) = false from decide_eq_false (not_in_take HND.out HX.out)]
          go_wp2_with fail
          refine hK.out _ _ ?_ (fun hHeld2 => ?_)
          · first | exact hHeld.trans (hk.mono hHeld.size) | (clear hK; have hz := hHeld.size; exact (Below.refl _ _).drew)
          clear hK K hHeld
          have hHeld := hHeld2
          clear hHeld2
          try clear hk
          try simp only [Act.put, List.setIfInBounds_toArray, List.set_cons_zero, List.set_cons_succ]
          refine takeD 16 (some 53) (v := ?_) rfl rfl (by kernel_rfl) (by kernel_rfl) (by kernel_rfl) (fun _ _ _ h => h) (by rfl) ?_ (by assumption) ?_
          rotate_left
          · intro w hSw
            (try dsimp only at hSw)
            go_simp
            try with_reducible rfl
          try simp only [Act.put, List.setIfInBounds_toArray, List.set_cons_zero, List.set_cons_succ]
          refine wpAnyH_done (by kernel_rfl) ?_ _
          have HB5 := Lib.hid (HB.out.trans (hHeld.mono hbs2))
          clear hHeld p0 p1 p2 p3 p4 p5
          go_wp2
          go_roundw
          case rel => exact ⟨j + 1, by omega, by go_num, HB5.out⟩
          case measure => simp [intOf]; omega
        · obtain rfl : j = La.length := by omega
          go_wp2
          go_ret
          exact ⟨by simp, Btrans HB3.out HB.out⟩
end Go.Proofs.Ytgklbmhihfmagaa
