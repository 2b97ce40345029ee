/- Layer 14: the law BatchOrder. -/
import Derived.Test.YtgklbmhihfmagaaBatchC
import Derived.Test.YtgklbmhihfmagaaBatchZ
import Derived.IntWalk
namespace Go.Proofs.Ytgklbmhihfmagaa
open Go.ChangeShapes Go.WideShapes Go.ChangeAt Go.RowKit Go.Deep
set_option linter.unusedVariables false
set_option linter.unusedSimpArgs false

theorem map_mem {l m : List PV} (h : ∀ x, x ∈ m ↔ x ∈ l) : ∀ p, p ∈ m.map PV.p ↔ p ∈ l.map PV.p := by
  intro p
  rw [List.mem_map, List.mem_map]
  exact ⟨fun ⟨y, hy, e⟩ => ⟨y, (h y).1 hy, e⟩, fun ⟨y, hy, e⟩ => ⟨y, (h y).2 hy, e⟩⟩
theorem Ints.shapeU {k : IntKind} {w : World} {v : Value} {xs : List Int} (h : Ints k w v xs) : ∃ A c, v = .slice A xs.length c := by
  obtain ⟨⟨A, c, e, _⟩, _⟩ := h
  exact ⟨A, c, by rw [e]; simp⟩
theorem Ints.at {k : IntKind} {w : World} {A : Option Addr} {n c : Nat} {xs : List Int} (h : Ints k w (.slice A n c) xs) {i : Nat} {z : Int} (hi : xs[i]? = some z) : ∃ ad, A = some ad ∧ ad.block < w.heap.size ∧ w.cell? (ad.add i) = some (.int k z) := by
  obtain ⟨⟨A1, c1, e, h2, h3, h4⟩, _⟩ := h
  injection e with e1 e2 e3
  subst e1
  have hx : (xs.map (Value.int k))[i]? = some (.int k z) := by rw [List.getElem?_map, hi]; rfl
  rcases h4 with ⟨_, h5⟩ | ⟨ad, rfl, hb, hc⟩
  · have := (List.getElem?_eq_some_iff.1 hi).1
    simp at h2
    omega
  · exact ⟨ad, rfl, hb (by have := (List.getElem?_eq_some_iff.1 hi).1; simp; omega), hc i _ hx⟩
set_option maxRecDepth 100000 in
set_option maxHeartbeats 8000000 in
theorem walk_BatchOrder (vt : Value) (ts : List TV) (vl : Value) (l : List PV) (a2 : Int) (vm : Value) (ms : List Int) (w : World) (h0 : TRow w vt ts) (h1 : PRow w vl l) (w2 : (Lit.int .u8 a2).wf = true) (h3 : Ints .u8 w vm ms) :
    Calls Try.prog 4 #[vt, vl, .int .u8 a2, vm] w fun e w' => e = .returned (.bool true) ∧ Below w.heap.size w w' := by
  obtain ⟨LA, LC, rfl⟩ := h1.1
  have hlc := h1.caps
  have hl1 := hlc.2.1
  have hl2 := hlc.2.2
  clear hlc
  have wf2 := wf_u8 w2
  obtain ⟨MA, MC, rfl⟩ := h3.shapeU
  have H3' := Lib.hid h3
  clear h3 w2
  have H0' := Lib.hid h0
  have H1' := Lib.hid h1
  clear h0 h1
  go_enter Try.func4, Try.ntmps4
  go_wp2_with fail
  go_at_call 9
  refine (head_any _).mono ?_
  rintro e w1 ⟨rfl, hk1⟩
  have H0 := Lib.hid (H0'.out.below hk1)
  have H1 := Lib.hid (H1'.out.below hk1)
  have HM1 := Lib.hid (H3'.out.below hk1)
  have HB1 := Lib.hid hk1
  clear hk1 H0' H1' H3'
  go_wp2_with fail
  go_at_call 10
  refine (good_any vt _ ts l _ H0.out H1.out).mono ?_
  rintro e V1 ⟨b, hb, rfl, hk1⟩
  have HGD := Lib.hid hb
  have H2 := Lib.hid (H0.out.below hk1)
  have H3 := Lib.hid (H1.out.below hk1)
  have HM2 := Lib.hid (HM1.out.below hk1)
  have HB2 := Lib.hid (Btrans HB1.out hk1)
  clear hb hk1 H0 H1 HB1 HM1
  cases b
  · go_wp2
    go_ret
    exact ⟨by simp, HB2.out⟩
  have HG := Lib.hid (HGD.out rfl)
  clear HGD
  have hl60 : l.length ≤ 60 := HG.out.2.1
  by_cases hl0 : l.length = 0
  · go_wp2
    go_ret
    exact ⟨by simp, HB2.out⟩
  by_cases hm30 : 30 < ms.length
  · go_wp2
    go_ret
    exact ⟨by simp, HB2.out⟩
  have g0 : ((l.length : Int) == 0) = false := beq_eq_false_iff_ne.2 (by omega)
  have g30 : ¬ (30 : Int) < (ms.length : Int) := by omega
  obtain ⟨W0, hW0⟩ : ∃ W, W = V1 := ⟨_, rfl⟩
  subst hW0
  obtain ⟨k, hk⟩ : ∃ k : Nat, k = (a2 % (l.length : Int)).toNat := ⟨_, rfl⟩
  have hkb := Int.emod_nonneg a2 (show (l.length : Int) ≠ 0 by omega)
  have hkl := Int.emod_lt_of_pos a2 (show (0 : Int) < (l.length : Int) by omega)
  have hkk : a2 % (l.length : Int) = (k : Int) := by rw [hk, Int.toNat_of_nonneg hkb]
  have hklt : k < l.length := by omega
  have HKK := Lib.hid hkk
  clear hk hkb hkl hkk
  obtain ⟨ad, hade, _⟩ := H3.out.at (List.getElem?_eq_getElem hklt)
  subst hade
  have HPRE := Lib.hid (H3.out.pre (Nat.le_of_lt hklt)).2.1
  have HSUF := Lib.hid (RowN.suf f6_len H3.out.2.1 rfl (Nat.le_of_lt hklt))
  have hpl : (l.take k).length = k := by rw [List.length_take]; omega
  rw [hpl] at HPRE
  go_wp2_with fail
  rw [HKK.out]
  have hki : (k : Int) < (l.length : Int) := by omega
  have hkc : ¬ LC = k := by omega
  have hkle : k ≤ l.length := by omega
  have hkLC : k ≤ LC := by omega
  have hbW := Below.refl W0.heap.size W0
  refine wp_region_held_drew (S := fun W => Below W0.heap.size W0 W) (by kernel_rfl) ((Below.refl W0.heap.size W0).drew) (fun hHeld => ?_)
  refine takeD 1 (some 38) (v := ?_) rfl rfl (by kernel_rfl) (by kernel_rfl) (by kernel_rfl) (fun _ _ _ h => h) (by rfl) ?_ (by assumption) ?_
  rotate_left
  · intro w hSw
    (try dsimp only at hSw)
    go_simp
    try with_reducible rfl
  try simp only [Act.put, List.setIfInBounds_toArray, List.set_cons_zero, List.set_cons_succ]
  refine takeD 2 (some 39) (v := ?_) rfl rfl (by kernel_rfl) (by kernel_rfl) (by kernel_rfl) (fun _ _ _ h => h) (by rfl) ?_ (by assumption) ?_
  rotate_left
  · intro w hSw
    (try dsimp only at hSw)
    go_simp
    try with_reducible rfl
  try simp only [Act.put, List.setIfInBounds_toArray, List.set_cons_zero, List.set_cons_succ]
  refine takeD 3 (some 40) (v := ?_) rfl rfl (by kernel_rfl) (by kernel_rfl) (by kernel_rfl) (fun _ _ _ h => h) (by rfl) ?_ (by assumption) ?_
  rotate_left
  · intro w hSw
    (try dsimp only at hSw)
    go_simp
    try with_reducible rfl
  try simp only [Act.put, List.setIfInBounds_toArray, List.set_cons_zero, List.set_cons_succ]
  refine takeD 5 (some 42) (v := ?_) rfl rfl (by kernel_rfl) (by kernel_rfl) (by kernel_rfl) (fun _ _ _ h => h) (by rfl) ?_ (by assumption) ?_
  rotate_left
  · intro w hSw
    (try dsimp only at hSw)
    go_simp
    try with_reducible rfl
  try simp only [Act.put, List.setIfInBounds_toArray, List.set_cons_zero, List.set_cons_succ]
  refine takeD 6 (some 43) (v := ?_) rfl rfl (by kernel_rfl) (by kernel_rfl) (by kernel_rfl) (fun _ _ _ h => h) (by rfl) ?_ (by assumption) ?_
  rotate_left
  · intro w hSw
    (try dsimp only at hSw)
    go_simp
    try with_reducible rfl
  try simp only [Act.put, List.setIfInBounds_toArray, List.set_cons_zero, List.set_cons_succ]
  refine takeD 7 (some 44) (v := ?_) rfl rfl (by kernel_rfl) (by kernel_rfl) (by kernel_rfl) (fun _ _ _ h => h) (by rfl) ?_ (by assumption) ?_
  rotate_left
  · intro w hSw
    (try dsimp only at hSw)
    go_simp
    try with_reducible rfl
  try simp only [Act.put, List.setIfInBounds_toArray, List.set_cons_zero, List.set_cons_succ]
  refine wpAnyH_ready (rs := [0]) (by kernel_rfl) (by simp) ?_
  refine AllReadyH.cons rfl (fun K hK => ?_) AllReadyH.nil
  rw [if_pos (by rfl)]
  go_simp
  refine nameV (fun V2 => Below W0.heap.size W0 V2 ∧ World.ownsRow V2 W0.heap.size 31 6 (.slice (some ⟨W0.heap.size, 0, none⟩) 0 0) 0 []) ⟨(hbW.alloc hbW.size _).drew, (World.ownsRow.drew (own_emptyN _ _ _ _ _ hbW.size rfl))⟩ fun V2 ⟨hbW2, qHC⟩ => ?_
  have hbW := hbW2
  clear hbW2
  have HC := Lib.hid qHC
  clear qHC
  have hS := hbW
  refine hK.out _ _ ?_ (fun hHeld2 => ?_)
  · clear hK; exact hS
  clear hK K hHeld hS
  have hHeld := hHeld2
  clear hHeld2
  try simp only [Act.put, List.setIfInBounds_toArray, List.set_cons_zero, List.set_cons_succ]
  refine wpAnyH_ready (rs := [4]) (by kernel_rfl) (by simp) ?_
  refine AllReadyH.cons rfl (fun K hK => ?_) AllReadyH.nil
  rw [if_pos (by rfl)]
  refine wp_appN elPk (.tmp 37) (.tmp 40) rfl W0.heap.size _ 0 [] rfl HC.out _ (l.length - k) (tk f6 (l.drop k)) rfl (HSUF.out.below hbW) (tk_all f6_one _) (by unfold maxLen; omega) (by omega) hbW.size ?_
  intro v2 V3 hO hg hor
  have hbW2 := below_app hbW hbW.size HC.out hg (Nat.le_refl _)
  clear HC
  have HC := Lib.hid hO
  clear hO hg hor hbW
  have hbW := hbW2
  clear hbW2
  have hS := hbW
  refine hK.out _ _ ?_ (fun hHeld2 => ?_)
  · clear hK; exact hS
  clear hK K hHeld hS
  have hHeld := hHeld2
  clear hHeld2
  try simp only [Act.put, List.setIfInBounds_toArray, List.set_cons_zero, List.set_cons_succ]
  refine wpAnyH_ready (rs := [8]) (by kernel_rfl) (by simp) ?_
  refine AllReadyH.cons rfl (fun K hK => ?_) AllReadyH.nil
  rw [if_pos (by rfl)]
  refine wp_appN elPk (.tmp 41) (.tmp 44) rfl W0.heap.size _ (0 + (l.length - k)) ([] ++ tk f6 (l.drop k)) rfl HC.out _ k (tk f6 (l.take k)) rfl (HPRE.out.below hbW) (tk_all f6_one _) (by unfold maxLen; omega) (by omega) hbW.size ?_
  intro v3 V4 hO hg hor
  have hbW2 := below_app hbW hbW.size HC.out hg (Nat.le_refl _)
  clear HC
  have HC := Lib.hid hO
  clear hO hg hor hbW
  have hbW := hbW2
  clear hbW2
  have hS := hbW
  refine hK.out _ _ ?_ (fun hHeld2 => ?_)
  · clear hK; exact hS
  clear hK K hHeld hS
  have hHeld := hHeld2
  clear hHeld2
  try simp only [Act.put, List.setIfInBounds_toArray, List.set_cons_zero, List.set_cons_succ]
  refine takeD 9 (some 11) (v := ?_) rfl rfl (by kernel_rfl) (by kernel_rfl) (by kernel_rfl) (fun _ _ _ h => h) (by rfl) ?_ (by assumption) ?_
  rotate_left
  · intro w hSw
    (try dsimp only at hSw)
    go_simp
    try with_reducible rfl
  try simp only [Act.put, List.setIfInBounds_toArray, List.set_cons_zero, List.set_cons_succ]
  refine wpAnyH_done (by kernel_rfl) ?_ _
  have HBW := Lib.hid hbW
  clear hHeld hbW
  obtain ⟨m0, M0, HM0, HE0⟩ : ∃ (n : Nat) (M : List PV), RowKit.Hid (World.ownsRow V4 W0.heap.size 31 6 v3 n (tk f6 M) ∧ n = M.length) ∧ RowKit.Hid (M.length = l.length ∧ ∀ x, x ∈ M ↔ x ∈ l) := ⟨0 + (l.length - k) + k, l.drop k ++ l.take k, Lib.hid ⟨by have h := HC.out; rw [List.nil_append, ← tk_app] at h; exact h, by rw [List.length_append, List.length_drop, hpl]; omega⟩, Lib.hid ⟨by rw [List.length_append, List.length_drop, hpl]; omega, fun x => by
    rw [List.mem_append, Or.comm, ← List.mem_append, List.take_append_drop]⟩⟩
  obtain ⟨A4, c4, rfl, _⟩ := own_shapeX HM0.out.1
  have hm0 := HM0.out.2
  subst hm0
  have HO0 := Lib.hid HM0.out.1
  clear HC HM0
  go_wp2_with fail
  go_loopw [11, 12] (fun m i wr => ∃ (j : Nat) (M : List PV) (A : Option Addr) (c : Nat), j ≤ ms.length ∧ i = .int .i64 j ∧ m = .slice A M.length c ∧ Below W0.heap.size W0 wr ∧ wr.ownsRow W0.heap.size 31 6 (.slice A M.length c) M.length (tk f6 M) ∧ M.length = l.length + j ∧ ∀ x, x ∈ M ↔ x ∈ l) (fun _ i _ => ms.length - (intOf i).toNat)
  case atStart => exact ⟨0, M0, A4, c4, by omega, rfl, rfl, HBW.out, HO0.out, HE0.out⟩
  case round =>
    clear HO0 HE0 HBW
    obtain ⟨j, M, A5, c5, hj, rfl, rfl, hb, hO, hML, hE⟩ := hrel
    have HB := Lib.hid hb
    have HO := Lib.hid hO
    have HE := Lib.hid hE
    have HML := Lib.hid hML
    have hbs := HB.out.size
    clear hb hO hE hML
    by_cases hjt : j < ms.length
    · obtain ⟨z, hz⟩ : ∃ z, ms[j]? = some z := ⟨_, List.getElem?_eq_getElem hjt⟩
      obtain ⟨md, rfl, hmd, hzc⟩ := HM2.out.at hz
      have hz8 := wf_u8 (HM2.out.2 z (List.mem_of_getElem? hz))
      obtain ⟨q, hq⟩ : ∃ q : Nat, q = (z % (l.length : Int)).toNat := ⟨_, rfl⟩
      have hqb := Int.emod_nonneg z (show (l.length : Int) ≠ 0 by omega)
      have hql := Int.emod_lt_of_pos z (show (0 : Int) < (l.length : Int) by omega)
      have hqq : z % (l.length : Int) = (q : Int) := by rw [hq, Int.toNat_of_nonneg hqb]
      have hqlt : q < l.length := by omega
      have HQQ := Lib.hid hqq
      have hzc2 := (HB.out.cell (p := md.add j) (by rw [block_add]; exact hmd)).trans hzc
      clear hq hqb hql hz hzc
      obtain ⟨x, hx⟩ : ∃ x, l[q]? = some x := ⟨_, List.getElem?_eq_getElem hqlt⟩
      have HX := Lib.hid hx
      obtain ⟨ad2, hade, _, hab, c0, c1, c2, c3, c4, c5⟩ := H3.out.atw hx
      injection hade with hade
      subst hade
      clear hx
      have k0 := (HB.out.cell hab).trans c0
      have k1 := (HB.out.cell (p := ⟨(ad.add (q * 6)).block, (ad.add (q * 6)).off + 1, none⟩) hab).trans c1
      have k2 := (HB.out.cell (p := ⟨(ad.add (q * 6)).block, (ad.add (q * 6)).off + 2, none⟩) hab).trans c2
      have k3 := (HB.out.cell (p := ⟨(ad.add (q * 6)).block, (ad.add (q * 6)).off + 3, none⟩) hab).trans c3
      have k4 := (HB.out.cell (p := ⟨(ad.add (q * 6)).block, (ad.add (q * 6)).off + 4, none⟩) hab).trans c4
      have k5 := (HB.out.cell (p := ⟨(ad.add (q * 6)).block, (ad.add (q * 6)).off + 5, none⟩) hab).trans c5
      clear c0 c1 c2 c3 c4 c5
      have hjl : (j : Int) < (ms.length : Int) := by omega
      have hql2 : (q : Int) < (l.length : Int) := by omega
      go_wp2_with (first | (refine wpList_one6 (by rfl) ?_) | (at_builtin; refine wpList_appN elPk rfl (.tmp 52) (.tmp 64) rfl W0.heap.size _ M.length (tk f6 M) rfl (own_below HO.out ((Below.refl _ _).alloc (Nat.le_refl _) _)) _ 1 (f6 x) rfl (RowN.of_blk (Blk.new _ _ _ _ rfl) rfl rfl (Nat.le_refl _) (by decide)) (f6_one _) ?_ ?_ ?_ ?_))
      case refine_1 => have := HML.out; unfold maxLen; omega
      case refine_2 => have := HML.out; omega
      case refine_3 => (try simp); omega
      intro v5 V5 hO5 hg5 _
      have HB5 := Lib.hid (below_app (HB.out.alloc hbs _) (by simp; omega) (own_below HO.out ((Below.refl _ _).alloc (Nat.le_refl _) _)) hg5 (Nat.le_refl _))
      obtain ⟨A6, c6, rfl, _⟩ := own_shapeX hO5
      have HO5 := Lib.hid hO5
      clear hO5 hg5 hqq k0 k1 k2 k3 k4 k5
      go_wp2
      go_roundw
      case rel => exact ⟨j + 1, M ++ [x], A6, c6, by omega, by go_num, by simp, HB5.out, by rw [tk_app, tk_one, List.length_append, List.length_singleton]; exact HO5.out, by have := HML.out; simp; omega, fun y => by
        rw [List.mem_append, HE.out y, List.mem_singleton]
        exact ⟨fun h => h.elim id (fun h => h ▸ List.mem_of_getElem? HX.out), .inl⟩⟩
      case measure => simp [intOf]; omega
    · obtain rfl : j = ms.length := by omega
      have HPM := Lib.hid (PRow.of_own HO.out rfl (fun y hy => (H3.out.2.2 y ((HE.out y).1 hy)).below HB.out))
      obtain ⟨u1, hu1⟩ : ∃ u, u = wr := ⟨wr, rfl⟩
      subst hu1
      clear HO
      have hw1 : IntKind.i64.wrap ((l.length : Int) - 1) = (l.length : Int) - 1 := IntWalk.i64_in _ (by omega)
      go_wp2_with fail
      go_loopw [13, 14] (fun b i wk => ∃ (j : Nat) (iz : Int) (A : Option Addr) (c : Nat), j ≤ l.length ∧ i = .int .i64 iz ∧ iz = (j : Int) - 1 ∧ b = .slice A (l.length - j) c ∧ Below u1.heap.size u1 wk ∧ wk.ownsRow u1.heap.size 31 6 (.slice A (l.length - j) c) (l.length - j) (tk f6 (l.drop j).reverse)) (fun _ i _ => (intOf i + 1).toNat)
      case atStart => exact ⟨l.length, _, none, 0, by omega, rfl, rfl, by simp, Below.refl _ _, by simp [tk]; exact own_nilN _ _⟩
      case round =>
        clear hw1
        obtain ⟨j, iz, A6, c6, hj2, rfl, hiz, rfl, hb, hO⟩ := hrel
        have HB6 := Lib.hid hb
        have HO6 := Lib.hid hO
        have hbs6 := HB6.out.size
        clear hb hO
        by_cases hj0 : j = 0
        · subst hj0
          have hz0 : ¬ (0 : Int) ≤ iz := by omega
          clear hiz
          have HPB := Lib.hid (PRow.of_own HO6.out (by simp) (fun y hy => by
            have hy2 : y ∈ l := by simpa using hy
            exact (H3.out.2.2 y hy2).below (HB.out.trans (HB6.out.mono HB.out.size))))
          have HTR := Lib.hid (H2.out.below (HB.out.trans (HB6.out.mono HB.out.size)))
          have HLR := Lib.hid (H3.out.below (HB.out.trans (HB6.out.mono HB.out.size)))
          have HMR := Lib.hid (HPM.out.below HB6.out)
          have HBA := Lib.hid (Btrans HB2.out (HB.out.trans (HB6.out.mono HB.out.size)))
          have HRl := Lib.hid (show ∀ x ∈ l.map PV.p, x.right from fun x hx => by obtain ⟨y, hy, rfl⟩ := List.mem_map.1 hx; exact HG.out.2.2.2 y hy)
          clear HO6 HPM
          go_wp2_with fail
          go_at_call 12
          refine (order_any vt _ ts l _ HTR.out HLR.out HG.out.2.2.2 HG.out.2.2.1 (by omega)).mono ?_
          rintro e X1 ⟨va, La, rfl, hP, hL, hk1⟩
          have HPa := Lib.hid hP
          have HLa := Lib.hid hL.1
          have HTR1 := Lib.hid (HTR.out.below hk1)
          have HMR1 := Lib.hid (HMR.out.below hk1)
          have HPB1 := Lib.hid (HPB.out.below hk1)
          have HBA1 := Lib.hid (Btrans HBA.out hk1)
          clear hP hL hk1 HTR HLR HMR HPB HBA
          go_wp2_with fail
          go_at_call 12
          refine (order_any vt _ ts M _ HTR1.out HMR1.out (fun x hx => HG.out.2.2.2 x ((HE.out x).1 hx)) HG.out.2.2.1 (by have h := HML.out; clear hz0; omega)).mono ?_
          rintro e X2 ⟨vm, Lm, rfl, hP, hL, hk1⟩
          have HPm := Lib.hid hP
          have HLm := Lib.hid hL.1
          have HPa2 := Lib.hid (HPa.out.below hk1)
          have HTR2 := Lib.hid (HTR1.out.below hk1)
          have HPB2 := Lib.hid (HPB1.out.below hk1)
          have HBA2 := Lib.hid (Btrans HBA1.out hk1)
          clear hP hL hk1 HTR1 HMR1 HPB1 HBA1 HPa
          go_wp2_with fail
          go_at_call 11
          refine (sameAll_any va vm La Lm _ HPa2.out HPm.out).mono ?_
          rintro e X3 ⟨rfl, hk1⟩
          rw [show decide (La.map PV.p = Lm.map PV.p) = true from decide_eq_true (by rw [HLa.out, HLm.out]; exact (ordR_same HRl.out (map_mem HE.out)).symm)]
          have HPa3 := Lib.hid (HPa2.out.below hk1)
          have HTR3 := Lib.hid (HTR2.out.below hk1)
          have HPB3 := Lib.hid (HPB2.out.below hk1)
          have HBA3 := Lib.hid (Btrans HBA2.out hk1)
          clear hk1 HPa2 HTR2 HPB2 HBA2 HPm
          go_wp2_with fail
          go_at_call 12
          refine (order_any vt _ ts (l.drop 0).reverse _ HTR3.out HPB3.out (fun x hx => HG.out.2.2.2 x (by simpa using hx)) HG.out.2.2.1 (by simp; omega)).mono ?_
          rintro e X4 ⟨vb, Lb, rfl, hP, hL, hk1⟩
          have HPb := Lib.hid hP
          have HLb := Lib.hid hL.1
          have HPa4 := Lib.hid (HPa3.out.below hk1)
          have HBA4 := Lib.hid (Btrans HBA3.out hk1)
          clear hP hL hk1 HTR3 HPB3 HBA3 HPa3
          go_wp2_with fail
          go_at_call 11
          refine (sameAll_any va vb La Lb _ HPa4.out HPb.out).mono ?_
          rintro e X5 ⟨rfl, hk1⟩
          rw [show decide (La.map PV.p = Lb.map PV.p) = true from decide_eq_true (by rw [HLa.out, HLb.out]; exact (ordR_same HRl.out (map_mem (fun x => by simp))).symm)]
          have HBA5 := Lib.hid (Btrans HBA4.out hk1)
          clear hk1
          go_wp2
          go_ret
          exact ⟨by simp, HBA5.out⟩
        · obtain ⟨q2, rfl⟩ : ∃ q2, j = q2 + 1 := ⟨j - 1, by omega⟩
          obtain rfl : iz = (q2 : Int) := by omega
          clear hiz hj0
          have hk2 : q2 < l.length := by omega
          obtain ⟨x, hx⟩ : ∃ x, l[q2]? = some x := ⟨_, List.getElem?_eq_getElem hk2⟩
          have HX := Lib.hid hx
          obtain ⟨ad2, hade, _, hab, c0, c1, c2, c3, c4, c5⟩ := H3.out.atw hx
          injection hade with hade
          subst hade
          clear hx
          have HBW := Lib.hid (HB.out.trans (HB6.out.mono HB.out.size))
          have k0 := (HBW.out.cell hab).trans c0
          have k1 := (HBW.out.cell (p := ⟨(ad.add (q2 * 6)).block, (ad.add (q2 * 6)).off + 1, none⟩) hab).trans c1
          have k2 := (HBW.out.cell (p := ⟨(ad.add (q2 * 6)).block, (ad.add (q2 * 6)).off + 2, none⟩) hab).trans c2
          have k3 := (HBW.out.cell (p := ⟨(ad.add (q2 * 6)).block, (ad.add (q2 * 6)).off + 3, none⟩) hab).trans c3
          have k4 := (HBW.out.cell (p := ⟨(ad.add (q2 * 6)).block, (ad.add (q2 * 6)).off + 4, none⟩) hab).trans c4
          have k5 := (HBW.out.cell (p := ⟨(ad.add (q2 * 6)).block, (ad.add (q2 * 6)).off + 5, none⟩) hab).trans c5
          clear c0 c1 c2 c3 c4 c5
          have hki2 : (q2 : Int) < (l.length : Int) := by omega
          have hw2 : IntKind.i64.wrap ((q2 : Int) - 1) = (q2 : Int) - 1 := IntWalk.i64_in _ (by omega)
          go_wp2_with (first | (refine wpList_one6 (by rfl) ?_) | (at_builtin; refine wpList_appN elPk rfl (.tmp 73) (.tmp 78) rfl u1.heap.size _ (l.length - (q2 + 1)) (tk f6 (l.drop (q2 + 1)).reverse) rfl (own_below HO6.out ((Below.refl _ _).alloc (Nat.le_refl _) _)) _ 1 (f6 x) rfl (RowN.of_blk (Blk.new _ _ _ _ rfl) rfl rfl (Nat.le_refl _) (by decide)) (f6_one _) ?_ ?_ ?_ ?_))
          case refine_1 => unfold maxLen; omega
          case refine_2 => omega
          case refine_3 => (try simp); omega
          intro v5 V5 hO5 hg5 _
          have HB5 := Lib.hid (below_app (HB6.out.alloc hbs6 _) (by simp; omega) (own_below HO6.out ((Below.refl _ _).alloc (Nat.le_refl _) _)) hg5 (Nat.le_refl _))
          have hn5 : l.length - (q2 + 1) + 1 = l.length - q2 := by omega
          rw [hn5] at hO5
          obtain ⟨A7, c7, rfl, _⟩ := own_shapeX hO5
          have HO5 := Lib.hid hO5
          clear hO5 hg5 k0 k1 k2 k3 k4 k5 hn5
          go_wp2
          go_roundw
          case rel => exact ⟨q2, _, A7, c7, by omega, rfl, by first | rfl | omega, rfl, HB5.out, by
            have h := HO5.out
            rw [← tk_one (f := f6) x, ← tk_app] at h
            rw [List.drop_eq_getElem_cons hk2, List.reverse_cons, (List.getElem?_eq_some_iff.1 HX.out).2]
            exact h⟩
          case measure => first | (simp [intOf]; done) | (simp [intOf]; omega)
end Go.Proofs.Ytgklbmhihfmagaa
