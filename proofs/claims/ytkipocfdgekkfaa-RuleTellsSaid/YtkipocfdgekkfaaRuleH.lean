/- Layer 18: the live question. -/
import Derived.Test.YtkipocfdgekkfaaRuleT
import Derived.Test.YtkipocfdgekkfaaRuleK
import Derived.StillTailTactics
namespace Go.Proofs.Ytkipocfdgekkfaa
open Go.ChangeShapes Go.WideShapes Go.ChangeAt Go.RowKit
set_option linter.unusedVariables false
set_option linter.unusedSimpArgs false

theorem row_shape {w : World} {v : Value} {xs : List Int} (h : Row w v (xs.map (.int .i64))) : ∃ A c, v = .slice A xs.length c ∧ xs.length ≤ c ∧ c ≤ maxLen ∧
    ∀ (k : Nat) (x : Int), xs[k]? = some x → ∃ ad, A = some ad ∧ ad.block < w.heap.size ∧ w.cell? (ad.add k) = some (.int .i64 x) := by
  obtain ⟨A, c, h1, h2, h3, hA⟩ := h
  rw [List.length_map] at h1 h2 hA
  refine ⟨A, c, h1, h2, h3, fun k x hx => ?_⟩
  have hk : k < xs.length := (List.getElem?_eq_some_iff.1 hx).1
  rcases hA with ⟨_, h0⟩ | ⟨ad, h1, h2, h3⟩
  · omega
  · exact ⟨ad, h1, h2 (by omega), h3 k _ (by rw [List.getElem?_map, hx]; rfl)⟩
theorem take_eq_step {α : Type} {xs ys : List α} {k : Nat} {x : α} (h : xs.take k = ys.take k) (hx : xs[k]? = some x) (hy : ys[k]? = some x) : xs.take (k + 1) = ys.take (k + 1) := by
  rw [List.take_add_one, List.take_add_one, hx, hy, h]

set_option maxRecDepth 100000 in
set_option maxHeartbeats 4000000 in
theorem sameints_any (va vb : Value) (xs ys : List Int) (w : World) (ha : Row w va (xs.map (.int .i64))) (hb : Row w vb (ys.map (.int .i64))) :
    Calls Try.prog 12 #[va, vb] w fun e w' => e = .returned (.bool (decide (xs = ys))) ∧ Below w.heap.size w w' := by
  obtain ⟨A, c, rfl, hc, hcm, hA⟩ := row_shape ha
  obtain ⟨B, d, rfl, hd, hdm, hB⟩ := row_shape hb
  have HA := Lib.hid hA
  have HB := Lib.hid hB
  have hxl : ((xs.length : Nat) : Int) ≤ 9223372036854775807 := by unfold maxLen at hcm; omega
  have hyl : ((ys.length : Nat) : Int) ≤ 9223372036854775807 := by unfold maxLen at hdm; omega
  clear ha hb hA hB hcm hdm
  by_cases hl : xs.length = ys.length
  · go_enter Try.func12, Try.ntmps12
    have g : ((xs.length : Int) != (ys.length : Int)) = false := by simp; omega
    have HL := Lib.hid hl
    have hle : ys.length ≤ xs.length := by omega
    have hle2 : xs.length ≤ ys.length := by omega
    clear hl
    go_wp2_with fail
    go_loopw [5] (fun i wr => ∃ k : Nat, k ≤ xs.length ∧ i = .int .i64 k ∧ xs.take k = ys.take k ∧ Below w.heap.size w wr) (fun i _ => xs.length - (intOf i).toNat)
    case atStart => exact ⟨0, by omega, rfl, rfl, Below.refl _ _⟩
    case round =>
      obtain ⟨k, hk, rfl, ht, hb⟩ := hrel
      have HT := Lib.hid ht
      clear ht
      by_cases hlt : k < xs.length
      · obtain ⟨x, hx⟩ : ∃ x, xs[k]? = some x := ⟨_, List.getElem?_eq_getElem hlt⟩
        obtain ⟨y, hy⟩ : ∃ y, ys[k]? = some y := ⟨_, List.getElem?_eq_getElem (by omega)⟩
        obtain ⟨ad, rfl, had, hcx⟩ := HA.out k x hx
        obtain ⟨bd, rfl, hbd, hcy⟩ := HB.out k y hy
        have hcx' := (hb.cell (by rw [block_add]; exact had)).trans hcx
        have hcy' := (hb.cell (by rw [block_add]; exact hbd)).trans hcy
        have hkb : (k : Int) < (ys.length : Int) := by omega
        have HX := Lib.hid hx
        have HY := Lib.hid hy
        clear hx hy hcx hcy
        by_cases hxy : x = y
        · subst hxy
          go_wp2_with fail
          go_still_tail 8, (by kernel_rfl)
          go_wp2_with fail
          go_roundw
          case rel => exact ⟨k + 1, by omega, by go_num, take_eq_step HT.out HX.out HY.out, hb.drew⟩
          case measure => simp [intOf]; omega
        · have hne : decide (xs = ys) = false := decide_eq_false fun h => hxy (by
            have h1 := HX.out
            have h2 := HY.out
            rw [h, h2] at h1
            exact (Option.some.inj h1).symm)
          have gxy : decide (x = y) = false := decide_eq_false hxy
          go_wp2_with fail
          go_still_tail 8, (by kernel_rfl)
          go_wp2
          go_ret
          exact ⟨by first | rfl | (rw [hne]; rfl), hb.drew⟩
      · have he : k = xs.length := by omega
        subst he
        have hyes : decide (xs = ys) = true := decide_eq_true (by
          have h := HT.out
          rw [List.take_length, HL.out, List.take_length] at h
          exact h)
        go_wp2
        go_ret
        exact ⟨by first | rfl | (rw [hyes]; rfl), hb⟩
  · have hne : decide (xs = ys) = false := decide_eq_false fun h => hl (by rw [h])
    have g : decide (((xs.length : Nat) : Int) = ((ys.length : Nat) : Int)) = false := decide_eq_false (by omega)
    go_enter Try.func12, Try.ntmps12
    go_wp2
    go_ret
    exact ⟨by first | rfl | (rw [hne]; rfl), Below.refl _ _⟩

theorem nameW {K : Act → World → Prop} {a : Act} {W0 : World} (R : World → Prop) (h0 : R W0) (h : ∀ W, R W → K a W) : K a W0 := h _ h0
set_option maxRecDepth 100000 in
set_option maxHeartbeats 16000000 in
theorem head_any : Hd := by
  intro w
  go_enter Try.func9, Try.ntmps9
  go_wp2_with fail
  refine wp_world (fun W => Below w.heap.size w W ∧ Blk W w.heap.size 35 #[.int .i64 2, .int .i64 0, .int .i64 0]) ⟨by go_grown, Blk.new _ _ _ _ rfl⟩ fun W0 ⟨hb0, hB0⟩ => ?_
  have HB0 := Lib.hid hB0
  have dB : ∀ w', Below W0.heap.size W0 w' → ∀ i, w'.cell? ⟨w.heap.size, i, none⟩ = (#[.int .i64 2, .int .i64 0, .int .i64 0] : Array Value)[i]? := fun w' hb i => (HB0.out.below hb).cells i
  clear hB0
  refine wp_region_held_drew (S := fun w' => Below W0.heap.size W0 w') (by kernel_rfl) ((Below.refl _ _).drew) (fun hHeld => ?_)
  refine wpAnyH_ready (rs := [0]) (by kernel_rfl) (by simp) ?_
  refine AllReadyH.cons rfl (fun K hK => ?_) AllReadyH.nil
  rw [if_pos (by rfl)]
  go_simp
  go_at_call 23
  refine (one_any _).mono ?_
  rintro e w1 ⟨vr, rfl, hr, hk⟩
  have HR := Lib.hid hr
  clear hr
  have hS : Below W0.heap.size W0 _ := hHeld.trans (hk.mono hHeld.size)
  clear hk
  go_wp2_with fail
  refine hK.out _ _ ?_ (fun hHeld2 => ?_)
  · clear hK; exact hS
  clear hK K hHeld hS
  have hHeld := hHeld2
  clear hHeld2
  try simp only [Act.put, List.setIfInBounds_toArray, List.set_cons_zero, List.set_cons_succ]
  refine wpAnyH_ready (rs := [1]) (by kernel_rfl) (by simp) ?_
  refine AllReadyH.cons rfl (fun K hK => ?_) AllReadyH.nil
  rw [if_pos (by rfl)]
  go_simp
  go_at_call 10
  refine (right_any _ 2 false oneL 2 _ HR.out).mono ?_
  rintro e w1 ⟨rfl, hk⟩
  rw [show (ruleB 2 oneL 2) = true by decide]
  clear HR
  have hS : Below W0.heap.size W0 _ := hHeld.trans (hk.mono hHeld.size)
  clear hk
  go_wp2_with fail
  refine hK.out _ _ ?_ (fun hHeld2 => ?_)
  · clear hK; exact hS
  clear hK K hHeld hS
  have hHeld := hHeld2
  clear hHeld2
  try simp only [Act.put, List.setIfInBounds_toArray, List.set_cons_zero, List.set_cons_succ]
  refine takeD 2 (some 6) (v := ?_) rfl rfl (by kernel_rfl) (by kernel_rfl) (by kernel_rfl) (fun _ _ _ h => h) (by rfl) ?_ (by assumption) ?_
  rotate_left
  · intro w hSw
    (try dsimp only at hSw)
    go_simp
    try with_reducible rfl
  try simp only [Act.put, List.setIfInBounds_toArray, List.set_cons_zero, List.set_cons_succ]
  refine wpAnyH_ready (rs := [3]) (by kernel_rfl) (by simp) ?_
  refine AllReadyH.cons rfl (fun K hK => ?_) AllReadyH.nil
  rw [if_pos (by rfl)]
  go_simp
  go_at_call 23
  refine (one_any _).mono ?_
  rintro e w1 ⟨vr, rfl, hr, hk⟩
  have HR := Lib.hid hr
  clear hr
  have hS : Below W0.heap.size W0 _ := hHeld.trans (hk.mono hHeld.size)
  clear hk
  go_wp2_with fail
  refine hK.out _ _ ?_ (fun hHeld2 => ?_)
  · clear hK; exact hS
  clear hK K hHeld hS
  have hHeld := hHeld2
  clear hHeld2
  try simp only [Act.put, List.setIfInBounds_toArray, List.set_cons_zero, List.set_cons_succ]
  refine wpAnyH_ready (rs := [4]) (by kernel_rfl) (by simp) ?_
  refine AllReadyH.cons rfl (fun K hK => ?_) AllReadyH.nil
  rw [if_pos (by rfl)]
  go_simp
  go_at_call 10
  refine (right_any _ 2 false oneL 1 _ HR.out).mono ?_
  rintro e w1 ⟨rfl, hk⟩
  rw [show (ruleB 2 oneL 1) = false by decide]
  clear HR
  have hS : Below W0.heap.size W0 _ := hHeld.trans (hk.mono hHeld.size)
  clear hk
  go_wp2_with fail
  refine hK.out _ _ ?_ (fun hHeld2 => ?_)
  · clear hK; exact hS
  clear hK K hHeld hS
  have hHeld := hHeld2
  clear hHeld2
  try simp only [Act.put, List.setIfInBounds_toArray, List.set_cons_zero, List.set_cons_succ]
  refine takeD 5 (some 9) (v := ?_) rfl rfl (by kernel_rfl) (by kernel_rfl) (by kernel_rfl) (fun _ _ _ h => h) (by rfl) ?_ (by assumption) ?_
  rotate_left
  · intro w hSw
    (try dsimp only at hSw)
    go_simp
    try with_reducible rfl
  try simp only [Act.put, List.setIfInBounds_toArray, List.set_cons_zero, List.set_cons_succ]
  refine takeD 6 (some 10) (v := ?_) rfl rfl (by kernel_rfl) (by kernel_rfl) (by kernel_rfl) (fun _ _ _ h => h) (by rfl) ?_ (by assumption) ?_
  rotate_left
  · intro w hSw
    (try dsimp only at hSw)
    go_simp
    try with_reducible rfl
  try simp only [Act.put, List.setIfInBounds_toArray, List.set_cons_zero, List.set_cons_succ]
  refine takeD 7 (some 11) (v := ?_) rfl rfl (by kernel_rfl) (by kernel_rfl) (by kernel_rfl) (fun _ _ _ h => h) (by rfl) ?_ (by assumption) ?_
  rotate_left
  · intro w hSw
    (try dsimp only at hSw)
    go_simp
    try with_reducible rfl
  try simp only [Act.put, List.setIfInBounds_toArray, List.set_cons_zero, List.set_cons_succ]
  refine takeD 8 (some 12) (v := ?_) rfl rfl (by kernel_rfl) (by kernel_rfl) (by kernel_rfl) (fun _ _ _ h => h) (by rfl) ?_ (by assumption) ?_
  rotate_left
  · intro w hSw
    (try dsimp only at hSw)
    go_simp
    try with_reducible rfl
  try simp only [Act.put, List.setIfInBounds_toArray, List.set_cons_zero, List.set_cons_succ]
  refine wpAnyH_ready (rs := [9]) (by kernel_rfl) (by simp) ?_
  refine AllReadyH.cons rfl (fun K hK => ?_) AllReadyH.nil
  rw [if_pos (by rfl)]
  go_simp
  go_at_call 10
  refine (right_any _ 0 false [] 2 _ ⟨none, 0, rfl, RowN.nil_⟩).mono ?_
  rintro e w1 ⟨rfl, hk⟩
  rw [show (ruleB 0 [] 2) = false by decide]
  have hS : Below W0.heap.size W0 _ := hHeld.trans (hk.mono hHeld.size)
  clear hk
  go_wp2_with fail
  refine hK.out _ _ ?_ (fun hHeld2 => ?_)
  · clear hK; exact hS
  clear hK K hHeld hS
  have hHeld := hHeld2
  clear hHeld2
  try simp only [Act.put, List.setIfInBounds_toArray, List.set_cons_zero, List.set_cons_succ]
  refine takeD 10 (some 14) (v := ?_) rfl rfl (by kernel_rfl) (by kernel_rfl) (by kernel_rfl) (fun _ _ _ h => h) (by rfl) ?_ (by assumption) ?_
  rotate_left
  · intro w hSw
    (try dsimp only at hSw)
    go_simp
    try with_reducible rfl
  try simp only [Act.put, List.setIfInBounds_toArray, List.set_cons_zero, List.set_cons_succ]
  refine takeD 11 (some 15) (v := ?_) rfl rfl (by kernel_rfl) (by kernel_rfl) (by kernel_rfl) (fun _ _ _ h => h) (by rfl) ?_ (by assumption) ?_
  rotate_left
  · intro w hSw
    (try dsimp only at hSw)
    go_simp
    try with_reducible rfl
  try simp only [Act.put, List.setIfInBounds_toArray, List.set_cons_zero, List.set_cons_succ]
  refine takeD 12 (some 16) (v := ?_) rfl rfl (by kernel_rfl) (by kernel_rfl) (by kernel_rfl) (fun _ _ _ h => h) (by rfl) ?_ (by assumption) ?_
  rotate_left
  · intro w hSw
    (try dsimp only at hSw)
    go_simp
    try with_reducible rfl
  try simp only [Act.put, List.setIfInBounds_toArray, List.set_cons_zero, List.set_cons_succ]
  refine takeD 14 (some 18) (v := ?_) rfl rfl (by kernel_rfl) (by kernel_rfl) (by kernel_rfl) (fun _ _ _ h => h) (by rfl) ?_ (by assumption) ?_
  rotate_left
  · intro w hSw
    (try dsimp only at hSw)
    go_simp
    try with_reducible rfl
  try simp only [Act.put, List.setIfInBounds_toArray, List.set_cons_zero, List.set_cons_succ]
  refine takeD 16 (some 20) (v := ?_) rfl rfl (by kernel_rfl) (by kernel_rfl) (by kernel_rfl) (fun _ _ _ h => h) (by rfl) ?_ (by assumption) ?_
  rotate_left
  · intro w hSw
    (try dsimp only at hSw)
    go_simp
    try with_reducible rfl
  try simp only [Act.put, List.setIfInBounds_toArray, List.set_cons_zero, List.set_cons_succ]
  refine wpAnyH_ready (rs := [13]) (by kernel_rfl) (by simp) ?_
  refine AllReadyH.cons rfl (fun K hK => ?_) AllReadyH.nil
  rw [if_pos (by rfl)]
  go_simp
  go_at_call 23
  refine (one_any _).mono ?_
  rintro e w1 ⟨vr, rfl, hr, hk⟩
  have HR := Lib.hid hr
  clear hr
  have hS : Below W0.heap.size W0 _ := hHeld.trans (hk.mono hHeld.size)
  clear hk
  go_wp2_with fail
  refine hK.out _ _ ?_ (fun hHeld2 => ?_)
  · clear hK; exact hS
  clear hK K hHeld hS
  have hHeld := hHeld2
  clear hHeld2
  try simp only [Act.put, List.setIfInBounds_toArray, List.set_cons_zero, List.set_cons_succ]
  refine wpAnyH_ready (rs := [15]) (by kernel_rfl) (by simp) ?_
  refine AllReadyH.cons rfl (fun K hK => ?_) AllReadyH.nil
  rw [if_pos (by rfl)]
  go_simp
  go_at_call 22
  refine (headc_any 2 _).mono ?_
  rintro e w1 ⟨rfl, hk⟩
  have HRd := Lib.hid (HR.out.below hk)
  clear HR
  have HR := Lib.hid HRd.out
  clear HRd
  have hS : Below W0.heap.size W0 _ := hHeld.trans (hk.mono hHeld.size)
  clear hk
  go_wp2_with fail
  refine hK.out _ _ ?_ (fun hHeld2 => ?_)
  · clear hK; exact hS
  clear hK K hHeld hS
  have hHeld := hHeld2
  clear hHeld2
  try simp only [Act.put, List.setIfInBounds_toArray, List.set_cons_zero, List.set_cons_succ]
  refine wpAnyH_ready (rs := [17]) (by kernel_rfl) (by simp) ?_
  refine AllReadyH.cons rfl (fun K hK => ?_) AllReadyH.nil
  rw [if_pos (by rfl)]
  go_simp
  go_at_call 22
  refine (headc_any 6 _).mono ?_
  rintro e w1 ⟨rfl, hk⟩
  have HRd := Lib.hid (HR.out.below hk)
  clear HR
  have HR := Lib.hid HRd.out
  clear HRd
  have hS : Below W0.heap.size W0 _ := hHeld.trans (hk.mono hHeld.size)
  clear hk
  go_wp2_with fail
  refine hK.out _ _ ?_ (fun hHeld2 => ?_)
  · clear hK; exact hS
  clear hK K hHeld hS
  have hHeld := hHeld2
  clear hHeld2
  try simp only [Act.put, List.setIfInBounds_toArray, List.set_cons_zero, List.set_cons_succ]
  refine wpAnyH_ready (rs := [18]) (by kernel_rfl) (by simp) ?_
  refine AllReadyH.cons rfl (fun K hK => ?_) AllReadyH.nil
  rw [if_pos (by rfl)]
  go_simp
  refine nameW (fun V1 => Below W0.heap.size W0 V1 ∧ Blk V1 _ 35 #[.int .i64 1, .int .i64 2, .int .i64 0, .int .i64 1, .int .i64 6, .int .i64 0] ∧ IsRule V1 vr 2 false oneL) ⟨hHeld.alloc hHeld.size _, Blk.new _ _ _ _ rfl, HR.out.below ((Below.refl _ _).alloc (Nat.le_refl _) _)⟩ fun V1 ⟨hS, hbk, qHR⟩ => ?_
  have HCL := Lib.hid hbk
  clear hbk
  clear HR
  have HR := Lib.hid qHR
  clear qHR
  refine hK.out _ _ ?_ (fun hHeld2 => ?_)
  · clear hK; exact hS
  clear hK K hHeld hS
  have hHeld := hHeld2
  clear hHeld2
  try simp only [Act.put, List.setIfInBounds_toArray, List.set_cons_zero, List.set_cons_succ]
  refine wpAnyH_ready (rs := [19]) (by kernel_rfl) (by simp) ?_
  refine AllReadyH.cons rfl (fun K hK => ?_) AllReadyH.nil
  rw [if_pos (by rfl)]
  go_simp
  go_at_call 16
  refine (says_any _ 2 false oneL _ 2 [(1, 2, 0), (1, 6, 0)] _ HR.out (RowN.of_blk HCL.out rfl rfl (Nat.le_refl _) (by decide)) (by decide) (by decide)).mono ?_
  rintro e w1 ⟨rfl, hk⟩
  rw [show saysR oneL [(1, 2, 0), (1, 6, 0)] = 2 by decide]
  clear HCL HR
  have hS : Below W0.heap.size W0 _ := hHeld.trans (hk.mono hHeld.size)
  clear hk
  go_wp2_with fail
  refine hK.out _ _ ?_ (fun hHeld2 => ?_)
  · clear hK; exact hS
  clear hK K hHeld hS
  have hHeld := hHeld2
  clear hHeld2
  try simp only [Act.put, List.setIfInBounds_toArray, List.set_cons_zero, List.set_cons_succ]
  refine takeD 20 (some 24) (v := ?_) rfl rfl (by kernel_rfl) (by kernel_rfl) (by kernel_rfl) (fun _ _ _ h => h) (by rfl) ?_ (by assumption) ?_
  rotate_left
  · intro w hSw
    (try dsimp only at hSw)
    go_simp
    try with_reducible rfl
  try simp only [Act.put, List.setIfInBounds_toArray, List.set_cons_zero, List.set_cons_succ]
  refine takeD 21 (some 25) (v := ?_) rfl rfl (by kernel_rfl) (by kernel_rfl) (by kernel_rfl) (fun _ _ _ h => h) (by rfl) ?_ (by assumption) ?_
  rotate_left
  · intro w hSw
    (try dsimp only at hSw)
    go_simp
    try with_reducible rfl
  try simp only [Act.put, List.setIfInBounds_toArray, List.set_cons_zero, List.set_cons_succ]
  refine takeD 22 (some 26) (v := ?_) rfl rfl (by kernel_rfl) (by kernel_rfl) (by kernel_rfl) (fun _ _ _ h => h) (by rfl) ?_ (by assumption) ?_
  rotate_left
  · intro w hSw
    (try dsimp only at hSw)
    go_simp
    try with_reducible rfl
  try simp only [Act.put, List.setIfInBounds_toArray, List.set_cons_zero, List.set_cons_succ]
  refine takeD 24 (some 28) (v := ?_) rfl rfl (by kernel_rfl) (by kernel_rfl) (by kernel_rfl) (fun _ _ _ h => h) (by rfl) ?_ (by assumption) ?_
  rotate_left
  · intro w hSw
    (try dsimp only at hSw)
    go_simp
    try with_reducible rfl
  try simp only [Act.put, List.setIfInBounds_toArray, List.set_cons_zero, List.set_cons_succ]
  refine takeD 26 (some 30) (v := ?_) rfl rfl (by kernel_rfl) (by kernel_rfl) (by kernel_rfl) (fun _ _ _ h => h) (by rfl) ?_ (by assumption) ?_
  rotate_left
  · intro w hSw
    (try dsimp only at hSw)
    go_simp
    try with_reducible rfl
  try simp only [Act.put, List.setIfInBounds_toArray, List.set_cons_zero, List.set_cons_succ]
  refine wpAnyH_ready (rs := [23]) (by kernel_rfl) (by simp) ?_
  refine AllReadyH.cons rfl (fun K hK => ?_) AllReadyH.nil
  rw [if_pos (by rfl)]
  go_simp
  go_at_call 23
  refine (one_any _).mono ?_
  rintro e w1 ⟨vr, rfl, hr, hk⟩
  have HR := Lib.hid hr
  clear hr
  have hS : Below W0.heap.size W0 _ := hHeld.trans (hk.mono hHeld.size)
  clear hk
  go_wp2_with fail
  refine hK.out _ _ ?_ (fun hHeld2 => ?_)
  · clear hK; exact hS
  clear hK K hHeld hS
  have hHeld := hHeld2
  clear hHeld2
  try simp only [Act.put, List.setIfInBounds_toArray, List.set_cons_zero, List.set_cons_succ]
  refine wpAnyH_ready (rs := [25]) (by kernel_rfl) (by simp) ?_
  refine AllReadyH.cons rfl (fun K hK => ?_) AllReadyH.nil
  rw [if_pos (by rfl)]
  go_simp
  go_at_call 22
  refine (headc_any 1 _).mono ?_
  rintro e w1 ⟨rfl, hk⟩
  have HRd := Lib.hid (HR.out.below hk)
  clear HR
  have HR := Lib.hid HRd.out
  clear HRd
  have hS : Below W0.heap.size W0 _ := hHeld.trans (hk.mono hHeld.size)
  clear hk
  go_wp2_with fail
  refine hK.out _ _ ?_ (fun hHeld2 => ?_)
  · clear hK; exact hS
  clear hK K hHeld hS
  have hHeld := hHeld2
  clear hHeld2
  try simp only [Act.put, List.setIfInBounds_toArray, List.set_cons_zero, List.set_cons_succ]
  refine wpAnyH_ready (rs := [27]) (by kernel_rfl) (by simp) ?_
  refine AllReadyH.cons rfl (fun K hK => ?_) AllReadyH.nil
  rw [if_pos (by rfl)]
  go_simp
  go_at_call 22
  refine (headc_any 6 _).mono ?_
  rintro e w1 ⟨rfl, hk⟩
  have HRd := Lib.hid (HR.out.below hk)
  clear HR
  have HR := Lib.hid HRd.out
  clear HRd
  have hS : Below W0.heap.size W0 _ := hHeld.trans (hk.mono hHeld.size)
  clear hk
  go_wp2_with fail
  refine hK.out _ _ ?_ (fun hHeld2 => ?_)
  · clear hK; exact hS
  clear hK K hHeld hS
  have hHeld := hHeld2
  clear hHeld2
  try simp only [Act.put, List.setIfInBounds_toArray, List.set_cons_zero, List.set_cons_succ]
  refine wpAnyH_ready (rs := [28]) (by kernel_rfl) (by simp) ?_
  refine AllReadyH.cons rfl (fun K hK => ?_) AllReadyH.nil
  rw [if_pos (by rfl)]
  go_simp
  refine nameW (fun V2 => Below W0.heap.size W0 V2 ∧ Blk V2 _ 35 #[.int .i64 1, .int .i64 1, .int .i64 0, .int .i64 1, .int .i64 6, .int .i64 0] ∧ IsRule V2 vr 2 false oneL) ⟨hHeld.alloc hHeld.size _, Blk.new _ _ _ _ rfl, HR.out.below ((Below.refl _ _).alloc (Nat.le_refl _) _)⟩ fun V2 ⟨hS, hbk, qHR⟩ => ?_
  have HCL := Lib.hid hbk
  clear hbk
  clear HR
  have HR := Lib.hid qHR
  clear qHR
  refine hK.out _ _ ?_ (fun hHeld2 => ?_)
  · clear hK; exact hS
  clear hK K hHeld hS
  have hHeld := hHeld2
  clear hHeld2
  try simp only [Act.put, List.setIfInBounds_toArray, List.set_cons_zero, List.set_cons_succ]
  refine wpAnyH_ready (rs := [29]) (by kernel_rfl) (by simp) ?_
  refine AllReadyH.cons rfl (fun K hK => ?_) AllReadyH.nil
  rw [if_pos (by rfl)]
  go_simp
  go_at_call 16
  refine (says_any _ 2 false oneL _ 2 [(1, 1, 0), (1, 6, 0)] _ HR.out (RowN.of_blk HCL.out rfl rfl (Nat.le_refl _) (by decide)) (by decide) (by decide)).mono ?_
  rintro e w1 ⟨rfl, hk⟩
  rw [show saysR oneL [(1, 1, 0), (1, 6, 0)] = 1 by decide]
  clear HCL HR
  have hS : Below W0.heap.size W0 _ := hHeld.trans (hk.mono hHeld.size)
  clear hk
  go_wp2_with fail
  refine hK.out _ _ ?_ (fun hHeld2 => ?_)
  · clear hK; exact hS
  clear hK K hHeld hS
  have hHeld := hHeld2
  clear hHeld2
  try simp only [Act.put, List.setIfInBounds_toArray, List.set_cons_zero, List.set_cons_succ]
  refine takeD 30 (some 34) (v := ?_) rfl rfl (by kernel_rfl) (by kernel_rfl) (by kernel_rfl) (fun _ _ _ h => h) (by rfl) ?_ (by assumption) ?_
  rotate_left
  · intro w hSw
    (try dsimp only at hSw)
    go_simp
    try with_reducible rfl
  try simp only [Act.put, List.setIfInBounds_toArray, List.set_cons_zero, List.set_cons_succ]
  refine takeD 31 (some 35) (v := ?_) rfl rfl (by kernel_rfl) (by kernel_rfl) (by kernel_rfl) (fun _ _ _ h => h) (by rfl) ?_ (by assumption) ?_
  rotate_left
  · intro w hSw
    (try dsimp only at hSw)
    go_simp
    try with_reducible rfl
  try simp only [Act.put, List.setIfInBounds_toArray, List.set_cons_zero, List.set_cons_succ]
  refine takeD 32 (some 36) (v := ?_) rfl rfl (by kernel_rfl) (by kernel_rfl) (by kernel_rfl) (fun _ _ _ h => h) (by rfl) ?_ (by assumption) ?_
  rotate_left
  · intro w hSw
    (try dsimp only at hSw)
    go_simp
    try with_reducible rfl
  try simp only [Act.put, List.setIfInBounds_toArray, List.set_cons_zero, List.set_cons_succ]
  refine takeD 34 (some 38) (v := ?_) rfl rfl (by kernel_rfl) (by kernel_rfl) (by kernel_rfl) (fun _ _ _ h => h) (by rfl) ?_ (by assumption) ?_
  rotate_left
  · intro w hSw
    (try dsimp only at hSw)
    go_simp
    try with_reducible rfl
  try simp only [Act.put, List.setIfInBounds_toArray, List.set_cons_zero, List.set_cons_succ]
  refine takeD 35 (some 39) (v := ?_) rfl rfl (by kernel_rfl) (by kernel_rfl) (by kernel_rfl) (fun _ _ _ h => h) (by rfl) ?_ (by assumption) ?_
  rotate_left
  · intro w hSw
    (try dsimp only at hSw)
    go_simp
    try with_reducible rfl
  try simp only [Act.put, List.setIfInBounds_toArray, List.set_cons_zero, List.set_cons_succ]
  refine wpAnyH_ready (rs := [33]) (by kernel_rfl) (by simp) ?_
  refine AllReadyH.cons rfl (fun K hK => ?_) AllReadyH.nil
  rw [if_pos (by rfl)]
  go_simp
  go_at_call 23
  refine (one_any _).mono ?_
  rintro e w1 ⟨vr, rfl, hr, hk⟩
  have HR := Lib.hid hr
  clear hr
  have hS : Below W0.heap.size W0 _ := hHeld.trans (hk.mono hHeld.size)
  clear hk
  go_wp2_with fail
  refine hK.out _ _ ?_ (fun hHeld2 => ?_)
  · clear hK; exact hS
  clear hK K hHeld hS
  have hHeld := hHeld2
  clear hHeld2
  try simp only [Act.put, List.setIfInBounds_toArray, List.set_cons_zero, List.set_cons_succ]
  refine wpAnyH_ready (rs := [36]) (by kernel_rfl) (by simp) ?_
  refine AllReadyH.cons rfl (fun K hK => ?_) AllReadyH.nil
  rw [if_pos (by rfl)]
  go_simp
  go_at_call 22
  refine (headc_any 6 _).mono ?_
  rintro e w1 ⟨rfl, hk⟩
  have HRd := Lib.hid (HR.out.below hk)
  clear HR
  have HR := Lib.hid HRd.out
  clear HRd
  have hS : Below W0.heap.size W0 _ := hHeld.trans (hk.mono hHeld.size)
  clear hk
  go_wp2_with fail
  refine hK.out _ _ ?_ (fun hHeld2 => ?_)
  · clear hK; exact hS
  clear hK K hHeld hS
  have hHeld := hHeld2
  clear hHeld2
  try simp only [Act.put, List.setIfInBounds_toArray, List.set_cons_zero, List.set_cons_succ]
  refine wpAnyH_ready (rs := [37]) (by kernel_rfl) (by simp) ?_
  refine AllReadyH.cons rfl (fun K hK => ?_) AllReadyH.nil
  rw [if_pos (by rfl)]
  go_simp
  refine nameW (fun V3 => Below W0.heap.size W0 V3 ∧ Blk V3 _ 35 #[.int .i64 2, .int .i64 0, .int .i64 0, .int .i64 1, .int .i64 6, .int .i64 0] ∧ IsRule V3 vr 2 false oneL) ⟨hHeld.alloc hHeld.size _, Blk.new _ _ _ _ rfl, HR.out.below ((Below.refl _ _).alloc (Nat.le_refl _) _)⟩ fun V3 ⟨hS, hbk, qHR⟩ => ?_
  have HCL := Lib.hid hbk
  clear hbk
  clear HR
  have HR := Lib.hid qHR
  clear qHR
  refine hK.out _ _ ?_ (fun hHeld2 => ?_)
  · clear hK; exact hS
  clear hK K hHeld hS
  have hHeld := hHeld2
  clear hHeld2
  try simp only [Act.put, List.setIfInBounds_toArray, List.set_cons_zero, List.set_cons_succ]
  refine wpAnyH_ready (rs := [38]) (by kernel_rfl) (by simp) ?_
  refine AllReadyH.cons rfl (fun K hK => ?_) AllReadyH.nil
  rw [if_pos (by rfl)]
  go_simp
  go_at_call 16
  refine (says_any _ 2 false oneL _ 2 [(2, 0, 0), (1, 6, 0)] _ HR.out (RowN.of_blk HCL.out rfl rfl (Nat.le_refl _) (by decide)) (by decide) (by decide)).mono ?_
  rintro e w1 ⟨rfl, hk⟩
  rw [show saysR oneL [(2, 0, 0), (1, 6, 0)] = 3 by decide]
  clear HCL HR
  have hS : Below W0.heap.size W0 _ := hHeld.trans (hk.mono hHeld.size)
  clear hk
  go_wp2_with fail
  refine hK.out _ _ ?_ (fun hHeld2 => ?_)
  · clear hK; exact hS
  clear hK K hHeld hS
  have hHeld := hHeld2
  clear hHeld2
  try simp only [Act.put, List.setIfInBounds_toArray, List.set_cons_zero, List.set_cons_succ]
  refine takeD 39 (some 43) (v := ?_) rfl rfl (by kernel_rfl) (by kernel_rfl) (by kernel_rfl) (fun _ _ _ h => h) (by rfl) ?_ (by assumption) ?_
  rotate_left
  · intro w hSw
    (try dsimp only at hSw)
    go_simp
    try with_reducible rfl
  try simp only [Act.put, List.setIfInBounds_toArray, List.set_cons_zero, List.set_cons_succ]
  refine takeD 40 (some 44) (v := ?_) rfl rfl (by kernel_rfl) (by kernel_rfl) (by kernel_rfl) (fun _ _ _ h => h) (by rfl) ?_ (by assumption) ?_
  rotate_left
  · intro w hSw
    (try dsimp only at hSw)
    go_simp
    try with_reducible rfl
  try simp only [Act.put, List.setIfInBounds_toArray, List.set_cons_zero, List.set_cons_succ]
  refine takeD 41 (some 45) (v := ?_) rfl rfl (by kernel_rfl) (by kernel_rfl) (by kernel_rfl) (fun _ _ _ h => h) (by rfl) ?_ (by assumption) ?_
  rotate_left
  · intro w hSw
    (try dsimp only at hSw)
    go_simp
    try with_reducible rfl
  try simp only [Act.put, List.setIfInBounds_toArray, List.set_cons_zero, List.set_cons_succ]
  refine takeD 43 (some 47) (v := ?_) rfl rfl (by kernel_rfl) (by kernel_rfl) (by kernel_rfl) (fun _ _ _ h => h) (by rfl) ?_ (by assumption) ?_
  rotate_left
  · intro w hSw
    (try dsimp only at hSw)
    go_simp
    try with_reducible rfl
  try simp only [Act.put, List.setIfInBounds_toArray, List.set_cons_zero, List.set_cons_succ]
  refine takeD 44 (some 48) (v := ?_) rfl rfl (by kernel_rfl) (by kernel_rfl) (by kernel_rfl) (fun _ _ _ h => h) (by rfl) ?_ (by assumption) ?_
  rotate_left
  · intro w hSw
    (try dsimp only at hSw)
    go_simp
    try with_reducible rfl
  try simp only [Act.put, List.setIfInBounds_toArray, List.set_cons_zero, List.set_cons_succ]
  refine wpAnyH_ready (rs := [42]) (by kernel_rfl) (by simp) ?_
  refine AllReadyH.cons rfl (fun K hK => ?_) AllReadyH.nil
  rw [if_pos (by rfl)]
  go_simp
  go_at_call 23
  refine (one_any _).mono ?_
  rintro e w1 ⟨vr, rfl, hr, hk⟩
  have HR := Lib.hid hr
  clear hr
  have hS : Below W0.heap.size W0 _ := hHeld.trans (hk.mono hHeld.size)
  clear hk
  go_wp2_with fail
  refine hK.out _ _ ?_ (fun hHeld2 => ?_)
  · clear hK; exact hS
  clear hK K hHeld hS
  have hHeld := hHeld2
  clear hHeld2
  try simp only [Act.put, List.setIfInBounds_toArray, List.set_cons_zero, List.set_cons_succ]
  refine wpAnyH_ready (rs := [45]) (by kernel_rfl) (by simp) ?_
  refine AllReadyH.cons rfl (fun K hK => ?_) AllReadyH.nil
  rw [if_pos (by rfl)]
  go_simp
  go_at_call 22
  refine (headc_any 5 _).mono ?_
  rintro e w1 ⟨rfl, hk⟩
  have HRd := Lib.hid (HR.out.below hk)
  clear HR
  have HR := Lib.hid HRd.out
  clear HRd
  have hS : Below W0.heap.size W0 _ := hHeld.trans (hk.mono hHeld.size)
  clear hk
  go_wp2_with fail
  refine hK.out _ _ ?_ (fun hHeld2 => ?_)
  · clear hK; exact hS
  clear hK K hHeld hS
  have hHeld := hHeld2
  clear hHeld2
  try simp only [Act.put, List.setIfInBounds_toArray, List.set_cons_zero, List.set_cons_succ]
  refine wpAnyH_ready (rs := [46]) (by kernel_rfl) (by simp) ?_
  refine AllReadyH.cons rfl (fun K hK => ?_) AllReadyH.nil
  rw [if_pos (by rfl)]
  go_simp
  refine nameW (fun V4 => Below W0.heap.size W0 V4 ∧ Blk V4 _ 35 #[.int .i64 2, .int .i64 0, .int .i64 0, .int .i64 1, .int .i64 5, .int .i64 0] ∧ IsRule V4 vr 2 false oneL) ⟨hHeld.alloc hHeld.size _, Blk.new _ _ _ _ rfl, HR.out.below ((Below.refl _ _).alloc (Nat.le_refl _) _)⟩ fun V4 ⟨hS, hbk, qHR⟩ => ?_
  have HCL := Lib.hid hbk
  clear hbk
  clear HR
  have HR := Lib.hid qHR
  clear qHR
  refine hK.out _ _ ?_ (fun hHeld2 => ?_)
  · clear hK; exact hS
  clear hK K hHeld hS
  have hHeld := hHeld2
  clear hHeld2
  try simp only [Act.put, List.setIfInBounds_toArray, List.set_cons_zero, List.set_cons_succ]
  refine wpAnyH_ready (rs := [47]) (by kernel_rfl) (by simp) ?_
  refine AllReadyH.cons rfl (fun K hK => ?_) AllReadyH.nil
  rw [if_pos (by rfl)]
  go_simp
  go_at_call 16
  refine (says_any _ 2 false oneL _ 2 [(2, 0, 0), (1, 5, 0)] _ HR.out (RowN.of_blk HCL.out rfl rfl (Nat.le_refl _) (by decide)) (by decide) (by decide)).mono ?_
  rintro e w1 ⟨rfl, hk⟩
  rw [show saysR oneL [(2, 0, 0), (1, 5, 0)] = 1 by decide]
  clear HCL HR
  have hS : Below W0.heap.size W0 _ := hHeld.trans (hk.mono hHeld.size)
  clear hk
  go_wp2_with fail
  refine hK.out _ _ ?_ (fun hHeld2 => ?_)
  · clear hK; exact hS
  clear hK K hHeld hS
  have hHeld := hHeld2
  clear hHeld2
  try simp only [Act.put, List.setIfInBounds_toArray, List.set_cons_zero, List.set_cons_succ]
  refine takeD 48 (some 52) (v := ?_) rfl rfl (by kernel_rfl) (by kernel_rfl) (by kernel_rfl) (fun _ _ _ h => h) (by rfl) ?_ (by assumption) ?_
  rotate_left
  · intro w hSw
    (try dsimp only at hSw)
    go_simp
    try with_reducible rfl
  try simp only [Act.put, List.setIfInBounds_toArray, List.set_cons_zero, List.set_cons_succ]
  refine takeD 49 (some 53) (v := ?_) rfl rfl (by kernel_rfl) (by kernel_rfl) (by kernel_rfl) (fun _ _ _ h => h) (by rfl) ?_ (by assumption) ?_
  rotate_left
  · intro w hSw
    (try dsimp only at hSw)
    go_simp
    try with_reducible rfl
  try simp only [Act.put, List.setIfInBounds_toArray, List.set_cons_zero, List.set_cons_succ]
  refine takeD 50 (some 54) (v := ?_) rfl rfl (by kernel_rfl) (by kernel_rfl) (by kernel_rfl) (fun _ _ _ h => h) (by rfl) ?_ (by assumption) ?_
  rotate_left
  · intro w hSw
    (try dsimp only at hSw)
    go_simp
    try with_reducible rfl
  try simp only [Act.put, List.setIfInBounds_toArray, List.set_cons_zero, List.set_cons_succ]
  refine wpAnyH_ready (rs := [51, 53]) (by kernel_rfl) (by simp) ?_
  refine AllReadyH.cons rfl (fun K hK => ?_) (AllReadyH.cons rfl (fun K hK => ?_) AllReadyH.nil)
  · rw [if_pos (by rfl)]
    go_simp
    go_at_call 23
    refine (one_any _).mono ?_
    rintro e w1 ⟨vr, rfl, hr, hk⟩
    have HR := Lib.hid hr
    clear hr
    have hS : Below W0.heap.size W0 _ := hHeld.trans (hk.mono hHeld.size)
    clear hk
    go_wp2_with fail
    refine hK.out _ _ ?_ (fun hHeld2 => ?_)
    · clear hK; exact hS
    clear hK K hHeld hS
    have hHeld := hHeld2
    clear hHeld2
    try simp only [Act.put, List.setIfInBounds_toArray, List.set_cons_zero, List.set_cons_succ]
    refine wpAnyH_ready (rs := [52, 53]) (by kernel_rfl) (by simp) ?_
    refine AllReadyH.cons rfl (fun K hK => ?_) (AllReadyH.cons rfl (fun K hK => ?_) AllReadyH.nil)
    · rw [if_pos (by rfl)]
      go_simp
      go_at_call 13
      refine (channels_any _ 2 false oneL _ HR.out (by decide)).mono ?_
      rintro e w1 ⟨CA, cc, rfl, hch, hk⟩
      have HRd := Lib.hid (HR.out.below hk)
      clear HR
      have HR := Lib.hid HRd.out
      clear HRd
      have HCH := Lib.hid (show Row w1 (.slice CA (chO oneL).length cc) ((chO oneL).map (.int .i64)) from Row.of_own hch)
      clear hch
      have hS : Below W0.heap.size W0 _ := hHeld.trans (hk.mono hHeld.size)
      clear hk
      go_wp2_with fail
      refine hK.out _ _ ?_ (fun hHeld2 => ?_)
      · clear hK; exact hS
      clear hK K hHeld hS
      have hHeld := hHeld2
      clear hHeld2
      try simp only [Act.put, List.setIfInBounds_toArray, List.set_cons_zero, List.set_cons_succ]
      refine wpAnyH_ready (rs := [53]) (by kernel_rfl) (by simp) ?_
      refine AllReadyH.cons rfl (fun K hK => ?_) AllReadyH.nil
      rw [if_pos (by rfl)]
      go_simp
      refine nameW (fun V5 => Below W0.heap.size W0 V5 ∧ Blk V5 _ 3 #[.int .i64 0, .int .i64 1] ∧ IsRule V5 vr 2 false oneL ∧ Row V5 (.slice CA (chO oneL).length cc) ((chO oneL).map (.int .i64))) ⟨hHeld.alloc hHeld.size _, Blk.new _ _ _ _ rfl, HR.out.below ((Below.refl _ _).alloc (Nat.le_refl _) _), HCH.out.below ((Below.refl _ _).alloc (Nat.le_refl _) _)⟩ fun V5 ⟨hS, hbk, qHR, qHCH⟩ => ?_
      have HI := Lib.hid hbk
      clear hbk
      clear HR
      have HR := Lib.hid qHR
      clear qHR
      clear HCH
      have HCH := Lib.hid qHCH
      clear qHCH
      refine hK.out _ _ ?_ (fun hHeld2 => ?_)
      · clear hK; exact hS
      clear hK K hHeld hS
      have hHeld := hHeld2
      clear hHeld2
      try simp only [Act.put, List.setIfInBounds_toArray, List.set_cons_zero, List.set_cons_succ]
      refine wpAnyH_ready (rs := [54]) (by kernel_rfl) (by simp) ?_
      refine AllReadyH.cons rfl (fun K hK => ?_) AllReadyH.nil
      rw [if_pos (by rfl)]
      go_simp
      go_at_call 12
      refine (sameints_any _ _ (chO oneL) [0, 1] _ HCH.out (Row.of_block HI.out rfl rfl (Nat.le_refl _) (by decide))).mono ?_
      rintro e w1 ⟨rfl, hk⟩
      rw [show decide (chO oneL = [0, 1]) = true by decide]
      have hS : Below W0.heap.size W0 _ := hHeld.trans (hk.mono hHeld.size)
      clear hk
      go_wp2_with fail
      refine hK.out _ _ ?_ (fun hHeld2 => ?_)
      · clear hK; exact hS
      clear hK K hHeld hS
      have hHeld := hHeld2
      clear hHeld2
      try simp only [Act.put, List.setIfInBounds_toArray, List.set_cons_zero, List.set_cons_succ]
      refine takeD 55 (some 59) (v := ?_) rfl rfl (by kernel_rfl) (by kernel_rfl) (by kernel_rfl) (fun _ _ _ h => h) (by rfl) ?_ (by assumption) ?_
      rotate_left
      · intro w hSw
        (try dsimp only at hSw)
        go_simp
        try with_reducible rfl
      try simp only [Act.put, List.setIfInBounds_toArray, List.set_cons_zero, List.set_cons_succ]
      refine takeD 56 (some 0) (v := ?_) rfl rfl (by kernel_rfl) (by kernel_rfl) (by kernel_rfl) (fun _ _ _ h => h) (by rfl) ?_ (by assumption) ?_
      rotate_left
      · intro w hSw
        (try dsimp only at hSw)
        go_simp
        try with_reducible rfl
      try simp only [Act.put, List.setIfInBounds_toArray, List.set_cons_zero, List.set_cons_succ]
      refine wpAnyH_done (by kernel_rfl) ?_ _
      go_wp2
      go_ret
      exact ⟨by first | rfl | simp, hb0.trans (hHeld.mono hb0.size)⟩
    · rw [if_pos (by rfl)]
      go_simp
      refine nameW (fun V5 => Below W0.heap.size W0 V5 ∧ Blk V5 _ 3 #[.int .i64 0, .int .i64 1] ∧ IsRule V5 vr 2 false oneL) ⟨hHeld.alloc hHeld.size _, Blk.new _ _ _ _ rfl, HR.out.below ((Below.refl _ _).alloc (Nat.le_refl _) _)⟩ fun V5 ⟨hS, hbk, qHR⟩ => ?_
      have HI := Lib.hid hbk
      clear hbk
      clear HR
      have HR := Lib.hid qHR
      clear qHR
      refine hK.out _ _ ?_ (fun hHeld2 => ?_)
      · clear hK; exact hS
      clear hK K hHeld hS
      have hHeld := hHeld2
      clear hHeld2
      try simp only [Act.put, List.setIfInBounds_toArray, List.set_cons_zero, List.set_cons_succ]
      refine wpAnyH_ready (rs := [52]) (by kernel_rfl) (by simp) ?_
      refine AllReadyH.cons rfl (fun K hK => ?_) AllReadyH.nil
      rw [if_pos (by rfl)]
      go_simp
      go_at_call 13
      refine (channels_any _ 2 false oneL _ HR.out (by decide)).mono ?_
      rintro e w1 ⟨CA, cc, rfl, hch, hk⟩
      have HRd := Lib.hid (HR.out.below hk)
      clear HR
      have HR := Lib.hid HRd.out
      clear HRd
      have HId := Lib.hid (HI.out.below hk)
      clear HI
      have HI := Lib.hid HId.out
      clear HId
      have HCH := Lib.hid (show Row w1 (.slice CA (chO oneL).length cc) ((chO oneL).map (.int .i64)) from Row.of_own hch)
      clear hch
      have hS : Below W0.heap.size W0 _ := hHeld.trans (hk.mono hHeld.size)
      clear hk
      go_wp2_with fail
      refine hK.out _ _ ?_ (fun hHeld2 => ?_)
      · clear hK; exact hS
      clear hK K hHeld hS
      have hHeld := hHeld2
      clear hHeld2
      try simp only [Act.put, List.setIfInBounds_toArray, List.set_cons_zero, List.set_cons_succ]
      refine wpAnyH_ready (rs := [54]) (by kernel_rfl) (by simp) ?_
      refine AllReadyH.cons rfl (fun K hK => ?_) AllReadyH.nil
      rw [if_pos (by rfl)]
      go_simp
      go_at_call 12
      refine (sameints_any _ _ (chO oneL) [0, 1] _ HCH.out (Row.of_block HI.out rfl rfl (Nat.le_refl _) (by decide))).mono ?_
      rintro e w1 ⟨rfl, hk⟩
      rw [show decide (chO oneL = [0, 1]) = true by decide]
      have hS : Below W0.heap.size W0 _ := hHeld.trans (hk.mono hHeld.size)
      clear hk
      go_wp2_with fail
      refine hK.out _ _ ?_ (fun hHeld2 => ?_)
      · clear hK; exact hS
      clear hK K hHeld hS
      have hHeld := hHeld2
      clear hHeld2
      try simp only [Act.put, List.setIfInBounds_toArray, List.set_cons_zero, List.set_cons_succ]
      refine takeD 55 (some 59) (v := ?_) rfl rfl (by kernel_rfl) (by kernel_rfl) (by kernel_rfl) (fun _ _ _ h => h) (by rfl) ?_ (by assumption) ?_
      rotate_left
      · intro w hSw
        (try dsimp only at hSw)
        go_simp
        try with_reducible rfl
      try simp only [Act.put, List.setIfInBounds_toArray, List.set_cons_zero, List.set_cons_succ]
      refine takeD 56 (some 0) (v := ?_) rfl rfl (by kernel_rfl) (by kernel_rfl) (by kernel_rfl) (fun _ _ _ h => h) (by rfl) ?_ (by assumption) ?_
      rotate_left
      · intro w hSw
        (try dsimp only at hSw)
        go_simp
        try with_reducible rfl
      try simp only [Act.put, List.setIfInBounds_toArray, List.set_cons_zero, List.set_cons_succ]
      refine wpAnyH_done (by kernel_rfl) ?_ _
      go_wp2
      go_ret
      exact ⟨by first | rfl | simp, hb0.trans (hHeld.mono hb0.size)⟩
  · rw [if_pos (by rfl)]
    go_simp
    refine nameW (fun V5 => Below W0.heap.size W0 V5 ∧ Blk V5 _ 3 #[.int .i64 0, .int .i64 1]) ⟨hHeld.alloc hHeld.size _, Blk.new _ _ _ _ rfl⟩ fun V5 ⟨hS, hbk⟩ => ?_
    have HI := Lib.hid hbk
    clear hbk
    refine hK.out _ _ ?_ (fun hHeld2 => ?_)
    · clear hK; exact hS
    clear hK K hHeld hS
    have hHeld := hHeld2
    clear hHeld2
    try simp only [Act.put, List.setIfInBounds_toArray, List.set_cons_zero, List.set_cons_succ]
    refine wpAnyH_ready (rs := [51]) (by kernel_rfl) (by simp) ?_
    refine AllReadyH.cons rfl (fun K hK => ?_) AllReadyH.nil
    rw [if_pos (by rfl)]
    go_simp
    go_at_call 23
    refine (one_any _).mono ?_
    rintro e w1 ⟨vr, rfl, hr, hk⟩
    have HId := Lib.hid (HI.out.below hk)
    clear HI
    have HI := Lib.hid HId.out
    clear HId
    have HR := Lib.hid hr
    clear hr
    have hS : Below W0.heap.size W0 _ := hHeld.trans (hk.mono hHeld.size)
    clear hk
    go_wp2_with fail
    refine hK.out _ _ ?_ (fun hHeld2 => ?_)
    · clear hK; exact hS
    clear hK K hHeld hS
    have hHeld := hHeld2
    clear hHeld2
    try simp only [Act.put, List.setIfInBounds_toArray, List.set_cons_zero, List.set_cons_succ]
    refine wpAnyH_ready (rs := [52]) (by kernel_rfl) (by simp) ?_
    refine AllReadyH.cons rfl (fun K hK => ?_) AllReadyH.nil
    rw [if_pos (by rfl)]
    go_simp
    go_at_call 13
    refine (channels_any _ 2 false oneL _ HR.out (by decide)).mono ?_
    rintro e w1 ⟨CA, cc, rfl, hch, hk⟩
    have HId := Lib.hid (HI.out.below hk)
    clear HI
    have HI := Lib.hid HId.out
    clear HId
    have HRd := Lib.hid (HR.out.below hk)
    clear HR
    have HR := Lib.hid HRd.out
    clear HRd
    have HCH := Lib.hid (show Row w1 (.slice CA (chO oneL).length cc) ((chO oneL).map (.int .i64)) from Row.of_own hch)
    clear hch
    have hS : Below W0.heap.size W0 _ := hHeld.trans (hk.mono hHeld.size)
    clear hk
    go_wp2_with fail
    refine hK.out _ _ ?_ (fun hHeld2 => ?_)
    · clear hK; exact hS
    clear hK K hHeld hS
    have hHeld := hHeld2
    clear hHeld2
    try simp only [Act.put, List.setIfInBounds_toArray, List.set_cons_zero, List.set_cons_succ]
    refine wpAnyH_ready (rs := [54]) (by kernel_rfl) (by simp) ?_
    refine AllReadyH.cons rfl (fun K hK => ?_) AllReadyH.nil
    rw [if_pos (by rfl)]
    go_simp
    go_at_call 12
    refine (sameints_any _ _ (chO oneL) [0, 1] _ HCH.out (Row.of_block HI.out rfl rfl (Nat.le_refl _) (by decide))).mono ?_
    rintro e w1 ⟨rfl, hk⟩
    rw [show decide (chO oneL = [0, 1]) = true by decide]
    have hS : Below W0.heap.size W0 _ := hHeld.trans (hk.mono hHeld.size)
    clear hk
    go_wp2_with fail
    refine hK.out _ _ ?_ (fun hHeld2 => ?_)
    · clear hK; exact hS
    clear hK K hHeld hS
    have hHeld := hHeld2
    clear hHeld2
    try simp only [Act.put, List.setIfInBounds_toArray, List.set_cons_zero, List.set_cons_succ]
    refine takeD 55 (some 59) (v := ?_) rfl rfl (by kernel_rfl) (by kernel_rfl) (by kernel_rfl) (fun _ _ _ h => h) (by rfl) ?_ (by assumption) ?_
    rotate_left
    · intro w hSw
      (try dsimp only at hSw)
      go_simp
      try with_reducible rfl
    try simp only [Act.put, List.setIfInBounds_toArray, List.set_cons_zero, List.set_cons_succ]
    refine takeD 56 (some 0) (v := ?_) rfl rfl (by kernel_rfl) (by kernel_rfl) (by kernel_rfl) (fun _ _ _ h => h) (by rfl) ?_ (by assumption) ?_
    rotate_left
    · intro w hSw
      (try dsimp only at hSw)
      go_simp
      try with_reducible rfl
    try simp only [Act.put, List.setIfInBounds_toArray, List.set_cons_zero, List.set_cons_succ]
    refine wpAnyH_done (by kernel_rfl) ?_ _
    go_wp2
    go_ret
    exact ⟨by first | rfl | simp, hb0.trans (hHeld.mono hb0.size)⟩
end Go.Proofs.Ytkipocfdgekkfaa
