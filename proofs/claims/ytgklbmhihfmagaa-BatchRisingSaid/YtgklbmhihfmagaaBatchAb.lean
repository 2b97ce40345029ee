/- Layer 14: the law BatchRising. -/
import Derived.Test.YtgklbmhihfmagaaBatchC
import Derived.Test.YtgklbmhihfmagaaBatchZ
import Derived.IntWalk
namespace Go.Proofs.Ytgklbmhihfmagaa
open Go.ChangeShapes Go.WideShapes Go.ChangeAt Go.RowKit Go.Deep
set_option linter.unusedVariables false
set_option linter.unusedSimpArgs false

theorem asc_next {us : List Tk} {l : List PV} {k : Nat} {x y : PV} (h : Asc us (l.map PV.p)) (hx : l[k]? = some x) (hy : l[k + 1]? = some y) : ahead us x.p y.p := by
  obtain ⟨h1, e1⟩ := List.getElem?_eq_some_iff.1 hx
  obtain ⟨h2, e2⟩ := List.getElem?_eq_some_iff.1 hy
  have := (List.pairwise_iff_getElem.1 h) k (k + 1) (by simp; omega) (by simp; omega) (by omega)
  rwa [List.getElem_map, List.getElem_map, e1, e2] at this
theorem cells6 {V W : World} {b : Addr} {v0 v1 v2 v3 v4 v5 : Value} (h : Below V.heap.size V W) (hb : b.block < V.heap.size) (c0 : V.cell? b = some v0) (c1 : V.cell? ⟨b.block, b.off + 1, none⟩ = some v1) (c2 : V.cell? ⟨b.block, b.off + 2, none⟩ = some v2) (c3 : V.cell? ⟨b.block, b.off + 3, none⟩ = some v3) (c4 : V.cell? ⟨b.block, b.off + 4, none⟩ = some v4) (c5 : V.cell? ⟨b.block, b.off + 5, none⟩ = some v5) :
    W.cell? b = some v0 ∧ W.cell? ⟨b.block, b.off + 1, none⟩ = some v1 ∧ W.cell? ⟨b.block, b.off + 2, none⟩ = some v2 ∧ W.cell? ⟨b.block, b.off + 3, none⟩ = some v3 ∧ W.cell? ⟨b.block, b.off + 4, none⟩ = some v4 ∧ W.cell? ⟨b.block, b.off + 5, none⟩ = some v5 :=
  ⟨(h.cell hb).trans c0, (h.cell (p := ⟨b.block, b.off + 1, none⟩) hb).trans c1, (h.cell (p := ⟨b.block, b.off + 2, none⟩) hb).trans c2, (h.cell (p := ⟨b.block, b.off + 3, none⟩) hb).trans c3, (h.cell (p := ⟨b.block, b.off + 4, none⟩) hb).trans c4, (h.cell (p := ⟨b.block, b.off + 5, none⟩) hb).trans c5⟩
set_option maxRecDepth 100000 in
set_option maxHeartbeats 8000000 in
theorem walk_BatchRising (vt : Value) (ts : List TV) (vl : Value) (l : List PV) (w : World) (h0 : TRow w vt ts) (h1 : PRow w vl l) :
    Calls Try.prog 6 #[vt, vl] w fun e w' => e = .returned (.bool true) ∧ Below w.heap.size w w' := by
  obtain ⟨LA, LC, rfl⟩ := h1.1
  have hlc := h1.caps
  have hl1 := hlc.2.1
  have hl2 := hlc.2.2
  clear hlc
  have H0' := Lib.hid h0
  have H1' := Lib.hid h1
  clear h0 h1
  go_enter Try.func6, Try.ntmps6
  go_wp2_with fail
  go_at_call 9
  refine (head_any _).mono ?_
  rintro e w1 ⟨rfl, hk1⟩
  have H0 := Lib.hid (H0'.out.below hk1)
  have H1 := Lib.hid (H1'.out.below hk1)
  have HB1 := Lib.hid hk1
  clear hk1 H0' H1'
  go_wp2_with fail
  go_at_call 10
  refine (good_any vt _ ts l _ H0.out H1.out).mono ?_
  rintro e V1 ⟨b, hb, rfl, hk1⟩
  have HGD := Lib.hid hb
  have H2 := Lib.hid (H0.out.below hk1)
  have H3 := Lib.hid (H1.out.below hk1)
  have HB2 := Lib.hid (Btrans HB1.out hk1)
  clear hb hk1 H0 H1 HB1
  cases b
  · go_wp2
    go_ret
    exact ⟨by simp, HB2.out⟩
  have HG := Lib.hid (HGD.out rfl)
  clear HGD
  have hl60 : l.length ≤ 60 := HG.out.2.1
  go_wp2_with fail
  go_at_call 12
  refine (order_any vt _ ts l _ H2.out H3.out HG.out.2.2.2 HG.out.2.2.1 (by have := HG.out.2.1; omega)).mono ?_
  rintro e V2 ⟨va, La, rfl, hP, hL, hk⟩
  obtain ⟨AA, AC, rfl⟩ := hP.1
  have hac := hP.caps
  have ha1 := hac.2.1
  have ha2 := hac.2.2
  have hLl : La.length ≤ l.length := by
    have h1 := congrArg List.length hL.1
    have h2 := ordR_len (ts := ts.map TV.t) (l := l.map PV.p) (fun x hx => by obtain ⟨y, hy, rfl⟩ := List.mem_map.1 hx; exact HG.out.2.2.2 y hy)
    simp at h1 h2
    omega
  have HPa := Lib.hid hP
  have HLa := Lib.hid hL.1
  have HLs := Lib.hid hL.2
  have H4 := Lib.hid (H2.out.below hk)
  have H5 := Lib.hid (H3.out.below hk)
  have HB3 := Lib.hid (Btrans HB2.out hk)
  have HRl := Lib.hid (show ∀ x ∈ l.map PV.p, x.right from fun x hx => by obtain ⟨y, hy, rfl⟩ := List.mem_map.1 hx; exact HG.out.2.2.2 y hy)
  clear hac hP hL hk H2 H3 HB2
  go_wp2_with fail
  go_loopw [7] (fun i wr => ∃ n : Nat, 1 ≤ n ∧ i = .int .i64 n ∧ Below V2.heap.size V2 wr) (fun i _ => La.length - (intOf i).toNat)
  case atStart => exact ⟨1, by omega, rfl, Below.refl _ _⟩
  case round =>
    obtain ⟨n, hn, rfl, hb⟩ := hrel
    have HB := Lib.hid hb
    clear hb
    by_cases hlt : n < La.length
    · obtain ⟨k, hk⟩ : ∃ k, n = k + 1 := ⟨n - 1, by omega⟩
      have hkl0 : k < La.length := by omega
      have hw1 : IntKind.i64.wrap ((n : Int) - 1) = (k : Int) := by rw [show (n : Int) - 1 = (k : Int) by omega]; exact IntWalk.i64_in _ (by omega)
      have HNK := Lib.hid hk
      clear hk
      obtain ⟨x, hx⟩ : ∃ x, La[k]? = some x := ⟨_, List.getElem?_eq_getElem hkl0⟩
      obtain ⟨y, hy⟩ : ∃ y, La[n]? = some y := ⟨_, List.getElem?_eq_getElem hlt⟩
      have HX := Lib.hid hx
      have HY := Lib.hid hy
      obtain ⟨ad, rfl, _, hsx⟩ := HPa.out.six hx
      obtain ⟨ad2, hade, _, hsy⟩ := HPa.out.six hy
      injection hade with hade
      subst hade
      have HSX := Lib.hid hsx
      have HSY := Lib.hid hsy
      clear hx hy hsx hsy
      have hkl : (n : Int) < (La.length : Int) := by omega
      have hkl2 : (k : Int) < (La.length : Int) := by omega
      have hbs2 := HB.out.size
      have hah : ahead (ts.map TV.t) x.p y.p := by
        have h := ordR_asc (ts := ts.map TV.t) HRl.out
        rw [← HLa.out] at h
        exact asc_next h HX.out (by rw [← HNK.out]; exact HY.out)
      have hdv := ahead_dev hah
      have hdv2 : ¬ y.p.dev < x.p.dev := by omega
      have HAH := Lib.hid hah
      clear hah
      go_wp2_with fail
      have Sp := HSX.out.at HB.out hbs2
      have p0 := fun V hV => (Sp V hV).1
      have p1 := fun V hV => (Sp V hV).2.1
      have p2 := fun V hV => (Sp V hV).2.2.1
      have p3 := fun V hV => (Sp V hV).2.2.2.1
      have p4 := fun V hV => (Sp V hV).2.2.2.2.1
      have p5 := fun V hV => (Sp V hV).2.2.2.2.2
      clear Sp
      have Sq := HSY.out.at HB.out hbs2
      have q0 := fun V hV => (Sq V hV).1
      have q1 := fun V hV => (Sq V hV).2.1
      have q2 := fun V hV => (Sq V hV).2.2.1
      have q3 := fun V hV => (Sq V hV).2.2.2.1
      have q4 := fun V hV => (Sq V hV).2.2.2.2.1
      have q5 := fun V hV => (Sq V hV).2.2.2.2.2
      clear Sq
      refine wp_region_held_drew (S := fun w' => Below wr.heap.size wr w') (by kernel_rfl) (by exact (Below.refl _ _).drew) (fun hHeld => ?_)
      refine takeD 0 (some 23) (v := ?_) rfl rfl (by kernel_rfl) (by kernel_rfl) (by kernel_rfl) (fun _ _ _ h => h) (by rfl) ?_ (by assumption) ?_
      rotate_left
      · intro w hSw
        (try dsimp only at hSw)
        go_simp
        try with_reducible rfl
      try simp only [Act.put, List.setIfInBounds_toArray, List.set_cons_zero, List.set_cons_succ]
      refine takeD 1 (some 24) (v := ?_) rfl rfl (by kernel_rfl) (by kernel_rfl) (by kernel_rfl) (fun _ _ _ h => h) (by rfl) ?_ (by assumption) ?_
      rotate_left
      · intro w hSw
        (try dsimp only at hSw)
        go_simp
        try with_reducible rfl
      try simp only [Act.put, List.setIfInBounds_toArray, List.set_cons_zero, List.set_cons_succ]
      refine takeD 2 (some 25) (v := ?_) rfl rfl (by kernel_rfl) (by kernel_rfl) (by kernel_rfl) (fun _ _ _ h => h) (by rfl) ?_ (by assumption) ?_
      rotate_left
      · intro w hSw
        (try dsimp only at hSw)
        go_simp
        try with_reducible rfl
      try simp only [Act.put, List.setIfInBounds_toArray, List.set_cons_zero, List.set_cons_succ]
      refine takeD 3 (some 26) (v := ?_) rfl rfl (by kernel_rfl) (by kernel_rfl) (by kernel_rfl) (fun _ _ _ h => h) (by rfl) ?_ (by assumption) ?_
      rotate_left
      · intro w hSw
        (try dsimp only at hSw)
        go_simp
        try with_reducible rfl
      try simp only [Act.put, List.setIfInBounds_toArray, List.set_cons_zero, List.set_cons_succ]
      refine takeD 4 (some 27) (v := ?_) rfl rfl (by kernel_rfl) (by kernel_rfl) (by kernel_rfl) (fun _ _ _ h => h) (by rfl) ?_ (by assumption) ?_
      rotate_left
      · intro w hSw
        (try dsimp only at hSw)
        go_simp
        try with_reducible rfl
      try simp only [Act.put, List.setIfInBounds_toArray, List.set_cons_zero, List.set_cons_succ]
      refine takeD 5 (some 28) (v := ?_) rfl rfl (by kernel_rfl) (by kernel_rfl) (by kernel_rfl) (fun _ _ _ h => h) (by rfl) ?_ (by assumption) ?_
      rotate_left
      · intro w hSw
        (try dsimp only at hSw)
        go_simp
        try with_reducible rfl
      try simp only [Act.put, List.setIfInBounds_toArray, List.set_cons_zero, List.set_cons_succ]
      refine takeD 6 (some 29) (v := ?_) rfl rfl (by kernel_rfl) (by kernel_rfl) (by kernel_rfl) (fun _ _ _ h => h) (by rfl) ?_ (by assumption) ?_
      rotate_left
      · intro w hSw
        (try dsimp only at hSw)
        go_simp
        try with_reducible rfl
      try simp only [Act.put, List.setIfInBounds_toArray, List.set_cons_zero, List.set_cons_succ]
      refine takeD 7 (some 30) (v := ?_) rfl rfl (by kernel_rfl) (by kernel_rfl) (by kernel_rfl) (fun _ _ _ h => h) (by rfl) ?_ (by assumption) ?_
      rotate_left
      · intro w hSw
        (try dsimp only at hSw)
        go_simp
        try with_reducible rfl
      try simp only [Act.put, List.setIfInBounds_toArray, List.set_cons_zero, List.set_cons_succ]
      refine takeD 8 (some 31) (v := ?_) rfl rfl (by kernel_rfl) (by kernel_rfl) (by kernel_rfl) (fun _ _ _ h => h) (by rfl) ?_ (by assumption) ?_
      rotate_left
      · intro w hSw
        (try dsimp only at hSw)
        go_simp
        try with_reducible rfl
      try simp only [Act.put, List.setIfInBounds_toArray, List.set_cons_zero, List.set_cons_succ]
      refine takeD 9 (some 32) (v := ?_) rfl rfl (by kernel_rfl) (by kernel_rfl) (by kernel_rfl) (fun _ _ _ h => h) (by rfl) ?_ (by assumption) ?_
      rotate_left
      · intro w hSw
        (try dsimp only at hSw)
        go_simp
        try with_reducible rfl
      try simp only [Act.put, List.setIfInBounds_toArray, List.set_cons_zero, List.set_cons_succ]
      refine wpAnyH_ready (rs := [10]) (by kernel_rfl) (by simp) ?_
      refine AllReadyH.cons rfl (fun K hK => ?_) AllReadyH.nil
      rw [if_pos (by rfl)]
      go_simp
      go_at_call 15
      refine (rahead_any vt ts x y _ (H4.out.below (HB.out.trans (hHeld.mono hbs2))) ((HPa.out.2.2 x (List.mem_of_getElem? HX.out)).below (HB.out.trans (hHeld.mono hbs2))) ((HPa.out.2.2 y (List.mem_of_getElem? HY.out)).below (HB.out.trans (hHeld.mono hbs2))) (HG.out.2.2.2 x (HLs.out x (List.mem_of_getElem? HX.out))) (HG.out.2.2.2 y (HLs.out y (List.mem_of_getElem? HY.out))) HG.out.2.2.1).mono ?_
      rintro e W2 ⟨rfl, hk⟩
      rw [decide_eq_true HAH.out]
      go_wp2_with fail
      refine hK.out _ _ ?_ (fun hHeld2 => ?_)
      · first | exact hHeld.trans (hk.mono hHeld.size) | (clear hK; have hz := hHeld.size; exact (Below.refl _ _).drew)
      clear hK K hHeld
      have hHeld := hHeld2
      clear hHeld2
      try clear hk
      try simp only [Act.put, List.setIfInBounds_toArray, List.set_cons_zero, List.set_cons_succ]
      refine takeD 11 (some 34) (v := ?_) rfl rfl (by kernel_rfl) (by kernel_rfl) (by kernel_rfl) (fun _ _ _ h => h) (by rfl) ?_ (by assumption) ?_
      rotate_left
      · intro w hSw
        (try dsimp only at hSw)
        go_simp
        try with_reducible rfl
      try simp only [Act.put, List.setIfInBounds_toArray, List.set_cons_zero, List.set_cons_succ]
      refine takeD 12 (some 35) (v := ?_) rfl rfl (by kernel_rfl) (by kernel_rfl) (by kernel_rfl) (fun _ _ _ h => h) (by rfl) ?_ (by assumption) ?_
      rotate_left
      · intro w hSw
        (try dsimp only at hSw)
        go_simp
        try with_reducible rfl
      try simp only [Act.put, List.setIfInBounds_toArray, List.set_cons_zero, List.set_cons_succ]
      refine takeD 13 (some 36) (v := ?_) rfl rfl (by kernel_rfl) (by kernel_rfl) (by kernel_rfl) (fun _ _ _ h => h) (by rfl) ?_ (by assumption) ?_
      rotate_left
      · intro w hSw
        (try dsimp only at hSw)
        go_simp
        try with_reducible rfl
      try simp only [Act.put, List.setIfInBounds_toArray, List.set_cons_zero, List.set_cons_succ]
      refine takeD 14 (some 37) (v := ?_) rfl rfl (by kernel_rfl) (by kernel_rfl) (by kernel_rfl) (fun _ _ _ h => h) (by rfl) ?_ (by assumption) ?_
      rotate_left
      · intro w hSw
        (try dsimp only at hSw)
        go_simp
        try with_reducible rfl
      try simp only [Act.put, List.setIfInBounds_toArray, List.set_cons_zero, List.set_cons_succ]
      refine takeD 15 (some 38) (v := ?_) rfl rfl (by kernel_rfl) (by kernel_rfl) (by kernel_rfl) (fun _ _ _ h => h) (by rfl) ?_ (by assumption) ?_
      rotate_left
      · intro w hSw
        (try dsimp only at hSw)
        go_simp
        try with_reducible rfl
      try simp only [Act.put, List.setIfInBounds_toArray, List.set_cons_zero, List.set_cons_succ]
      refine takeD 16 (some 39) (v := ?_) rfl rfl (by kernel_rfl) (by kernel_rfl) (by kernel_rfl) (fun _ _ _ h => h) (by rfl) ?_ (by assumption) ?_
      rotate_left
      · intro w hSw
        (try dsimp only at hSw)
        go_simp
        try with_reducible rfl
      try simp only [Act.put, List.setIfInBounds_toArray, List.set_cons_zero, List.set_cons_succ]
      refine takeD 17 (some 40) (v := ?_) rfl rfl (by kernel_rfl) (by kernel_rfl) (by kernel_rfl) (fun _ _ _ h => h) (by rfl) ?_ (by assumption) ?_
      rotate_left
      · intro w hSw
        (try dsimp only at hSw)
        go_simp
        try with_reducible rfl
      try simp only [Act.put, List.setIfInBounds_toArray, List.set_cons_zero, List.set_cons_succ]
      refine takeD 18 (some 41) (v := ?_) rfl rfl (by kernel_rfl) (by kernel_rfl) (by kernel_rfl) (fun _ _ _ h => h) (by rfl) ?_ (by assumption) ?_
      rotate_left
      · intro w hSw
        (try dsimp only at hSw)
        go_simp
        try with_reducible rfl
      try simp only [Act.put, List.setIfInBounds_toArray, List.set_cons_zero, List.set_cons_succ]
      refine takeD 19 (some 42) (v := ?_) rfl rfl (by kernel_rfl) (by kernel_rfl) (by kernel_rfl) (fun _ _ _ h => h) (by rfl) ?_ (by assumption) ?_
      rotate_left
      · intro w hSw
        (try dsimp only at hSw)
        go_simp
        try with_reducible rfl
      try simp only [Act.put, List.setIfInBounds_toArray, List.set_cons_zero, List.set_cons_succ]
      refine takeD 20 (some 43) (v := ?_) rfl rfl (by kernel_rfl) (by kernel_rfl) (by kernel_rfl) (fun _ _ _ h => h) (by rfl) ?_ (by assumption) ?_
      rotate_left
      · intro w hSw
        (try dsimp only at hSw)
        go_simp
        try with_reducible rfl
      try simp only [Act.put, List.setIfInBounds_toArray, List.set_cons_zero, List.set_cons_succ]
      refine takeD 21 (some 44) (v := ?_) rfl rfl (by kernel_rfl) (by kernel_rfl) (by kernel_rfl) (fun _ _ _ h => h) (by rfl) ?_ (by assumption) ?_
      rotate_left
      · intro w hSw
        (try dsimp only at hSw)
        go_simp
        try with_reducible rfl
      try simp only [Act.put, List.setIfInBounds_toArray, List.set_cons_zero, List.set_cons_succ]
      refine takeD 22 (some 45) (v := ?_) rfl rfl (by kernel_rfl) (by kernel_rfl) (by kernel_rfl) (fun _ _ _ h => h) (by rfl) ?_ (by assumption) ?_
      rotate_left
      · intro w hSw
        (try dsimp only at hSw)
        go_simp
        try with_reducible rfl
      try simp only [Act.put, List.setIfInBounds_toArray, List.set_cons_zero, List.set_cons_succ]
      refine takeD 23 (some 46) (v := ?_) rfl rfl (by kernel_rfl) (by kernel_rfl) (by kernel_rfl) (fun _ _ _ h => h) (by rfl) ?_ (by assumption) ?_
      rotate_left
      · intro w hSw
        (try dsimp only at hSw)
        go_simp
        try with_reducible rfl
      try simp only [Act.put, List.setIfInBounds_toArray, List.set_cons_zero, List.set_cons_succ]
      refine takeD 24 (some 47) (v := ?_) rfl rfl (by kernel_rfl) (by kernel_rfl) (by kernel_rfl) (fun _ _ _ h => h) (by rfl) ?_ (by assumption) ?_
      rotate_left
      · intro w hSw
        (try dsimp only at hSw)
        go_simp
        try with_reducible rfl
      try simp only [Act.put, List.setIfInBounds_toArray, List.set_cons_zero, List.set_cons_succ]
      refine takeD 25 (some 48) (v := ?_) rfl rfl (by kernel_rfl) (by kernel_rfl) (by kernel_rfl) (fun _ _ _ h => h) (by rfl) ?_ (by assumption) ?_
      rotate_left
      · intro w hSw
        (try dsimp only at hSw)
        go_simp
        try with_reducible rfl
      try simp only [Act.put, List.setIfInBounds_toArray, List.set_cons_zero, List.set_cons_succ]
      refine wpAnyH_done (by kernel_rfl) ?_ _
      have HB4 := Lib.hid (HB.out.trans (hHeld.mono hbs2))
      clear hHeld p0 p1 p2 p3 p4 p5 q0 q1 q2 q3 q4 q5
      go_wp2
      go_roundw
      case rel => exact ⟨n + 1, by omega, by go_num, HB4.out⟩
      case measure => simp [intOf]; omega
    · go_wp2
      go_ret
      exact ⟨by simp, Btrans HB3.out HB.out⟩
end Go.Proofs.Ytgklbmhihfmagaa
