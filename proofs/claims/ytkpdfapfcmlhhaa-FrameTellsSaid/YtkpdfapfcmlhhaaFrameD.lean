/- Layer 3: contracts: is the frame right, its data. -/
import Derived.Test.YtkpdfapfcmlhhaaFrameC
import Derived.Test.YtkpdfapfcmlhhaaReg
namespace Go.Proofs.Ytkpdfapfcmlhhaa
open Go.ChangeShapes Go.WideShapes Go.ChangeAt Go.RowKit
set_option linter.unusedVariables false
set_option linter.unusedSimpArgs false

theorem drewN_below {a b : World} {m : Nat} (h : b = a.drewN m) : Below a.heap.size a b := by
  subst h
  exact Bdrew (Below.refl _ _) m

set_option maxRecDepth 100000 in
set_option maxHeartbeats 4000000 in
theorem right_any (w : World) (s : Nat) (ad : Addr) (c : Nat) (bs : List Int) (k : Nat) (h : Str w s ad c bs k) (hk : k < bs.length) (hw : wholeB (bs.drop k) = true) (hl : bs.length ≤ 1000000) :
    Calls Try.prog 22 #[.pointer (some ⟨s, 0, none⟩)] w fun e w' => e = .returned (.bool (rightB (bs.drop k))) ∧ Below w.heap.size w w' := by
  have H := Lib.hid h
  have hwl := whole_len hw
  rw [List.length_drop] at hwl
  obtain ⟨A0, c0, e0, hc, hcm, hs0⟩ := h.bytes.src
  injection e0 with e1 e2 e3
  subst e3
  clear e1 hs0
  have hE := Lib.hid (show rightB (bs.drop k) = decide (((bs.drop k).drop (2 + cnt (bs.drop k))).take 4 = sum4 (((bs.drop k).drop 1).take (1 + cnt (bs.drop k)))) from rfl)
  have hsz := Lib.hid (size_any w s ad c bs k h (by omega) hl)
  obtain ⟨n, hn⟩ : ∃ n, n = cnt (bs.drop k) := ⟨_, rfl⟩
  rw [← hn] at hwl hE
  obtain ⟨E, hEq⟩ : ∃ E, E = k + n + 6 := ⟨_, rfl⟩
  obtain ⟨E4, hE4⟩ : ∃ E4, E4 = k + n + 2 := ⟨_, rfl⟩
  obtain ⟨j, hj⟩ : ∃ j, j = k + 1 := ⟨_, rfl⟩
  have hW0 : IntKind.i64.wrap ((k : Int) + ((cnt (bs.drop k) + 6 : Nat) : Int)) = (E : Int) := by rw [← hn, IntWalk.i64_in _ (by omega)]; omega
  have hW0' : IntKind.i64.wrap ((k : Int) + ((cnt (bs.drop k) : Int) + 6)) = (E : Int) := by rw [← hn, IntWalk.i64_in _ (by omega)]; omega
  have hW1 : IntKind.i64.wrap ((E : Int) - 4) = (E4 : Int) := by rw [IntWalk.i64_in _ (by omega)]; omega
  have hW2 : IntKind.i64.wrap ((k : Int) + 1) = (j : Int) := by rw [IntWalk.i64_in _ (by omega)]; omega
  have hb1 : (E4 : Int) ≤ (E : Int) := by omega
  have hb2 : (E : Int) ≤ (c : Int) := by omega
  have hb3 : (j : Int) ≤ (E4 : Int) := by omega
  have hb4 : (E4 : Int) ≤ (c : Int) := by omega
  have hn1 : ¬ c = E4 := by omega
  have hn2 : ¬ c = j := by omega
  have HX : Hid (E4 + (E - E4) ≤ bs.length ∧ j + (E4 - j) ≤ bs.length ∧ E - E4 ≤ c - E4 ∧ E4 - j ≤ c - j ∧ c ≤ maxLen) := Lib.hid ⟨by omega, by omega, by omega, by omega, by unfold maxLen; omega⟩
  have q1 : (bs.drop E4).take (E - E4) = ((bs.drop k).drop (2 + n)).take 4 := by rw [List.drop_drop, show E4 = k + (2 + n) by omega, show E - (k + (2 + n)) = 4 by omega]
  have q2 : (bs.drop j).take (E4 - j) = ((bs.drop k).drop 1).take (1 + n) := by rw [List.drop_drop, show j = k + 1 from hj, show E4 - (k + 1) = 1 + n by omega]
  rw [← q1, ← q2] at hE
  have hk1 : k + 1 < bs.length := by omega
  clear q1 q2 hn hEq hE4 hj hwl h hw
  go_enter Try.func22, Try.ntmps22
  go_wp2_with fail
  have x0 := H.out.blk.cells 0
  have x1 := H.out.blk.cells 1
  simp at x0 x1
  go_quiet ((go_at_call 24; exact quiet_m (size_any _ s ad c bs k (H.out.drewN _) hk1 hl)))
  go_wp2_with fail
  refine wp_world (fun W => Below w.heap.size w W ∧ Str W s ad c bs k) ⟨by first | exact Bdrew (Below.refl _ _) _ | go_grown, H.out.drewN _⟩ fun W ⟨hbW, hS⟩ => ?_
  clear x0 x1 hsz H
  have HSW := Lib.hid hS
  have d0 : ∀ w', Below W.heap.size W w' → w'.cell? ⟨s, 0, none⟩ = some (.slice (some ad) bs.length c) := fun w' hb => by rw [hb.cell (p := ⟨s, 0, none⟩) hS.blk.lt]; exact hS.blk.cells 0
  have d1 : ∀ w', Below W.heap.size W w' → w'.cell? ⟨s, 1, none⟩ = some (.int .i64 k) := fun w' hb => by rw [hb.cell (p := ⟨s, 1, none⟩) hS.blk.lt]; exact hS.blk.cells 1
  have HB1 := Lib.hid (Bytes.sub hS.bytes E4 (E - E4) (c - E4) HX.out.1 HX.out.2.2.1 (by have := HX.out.2.2.2.2; omega))
  have HB2 := Lib.hid (Bytes.sub hS.bytes j (E4 - j) (c - j) HX.out.2.1 HX.out.2.2.2.1 (by have := HX.out.2.2.2.2; omega))
  have hcv1 : ∀ w', Below W.heap.size W w' → (convert 22 9 (.slice (some (ad.add E4)) (E - E4) (c - E4))).run Try.prog w' = .ok (.string (bstr ((bs.drop E4).take (E - E4)))) w' := fun w' hb =>
    run_conv (P := Try.prog) (dst := 9) Try.underlying22 Try.underlying5 Try.underlying9 (HB1.out.below hb)
  have he := bstr_eq HB1.out.2 (sum4_range ((bs.drop j).take (E4 - j)))
  clear hS
  refine wp_region_held_drew (S := fun w' => Below W.heap.size W w') (by kernel_rfl) (by go_grown) (fun hHeld => ?_)
  refine takeD 0 (some 11) (v := ?_) rfl rfl (by kernel_rfl) (by kernel_rfl) (by kernel_rfl) (fun _ _ _ h => h) (by rfl) ?_ (by assumption) ?_
  rotate_left
  · intro w hSw
    (try dsimp only at hSw)
    go_simp
    try with_reducible rfl
  try simp only [Act.put, List.setIfInBounds_toArray, List.set_cons_zero, List.set_cons_succ]
  refine takeD 1 (some 12) (v := ?_) rfl rfl (by kernel_rfl) (by kernel_rfl) (by kernel_rfl) (fun _ _ _ h => h) (by rfl) ?_ (by assumption) ?_
  rotate_left
  · intro w hSw
    (try dsimp only at hSw)
    go_simp
    try with_reducible rfl
  try simp only [Act.put, List.setIfInBounds_toArray, List.set_cons_zero, List.set_cons_succ]
  refine takeD 2 (some 13) (v := ?_) rfl rfl (by kernel_rfl) (by kernel_rfl) (by kernel_rfl) (fun _ _ _ h => h) (by rfl) ?_ (by assumption) ?_
  rotate_left
  · intro w hSw
    (try dsimp only at hSw)
    go_simp
    try with_reducible rfl
  try simp only [Act.put, List.setIfInBounds_toArray, List.set_cons_zero, List.set_cons_succ]
  refine takeD 3 (some 14) (v := ?_) rfl rfl (by kernel_rfl) (by kernel_rfl) (by kernel_rfl) (fun _ _ _ h => h) (by rfl) ?_ (by assumption) ?_
  rotate_left
  · intro w hSw
    (try dsimp only at hSw)
    go_simp
    try with_reducible rfl
  try simp only [Act.put, List.setIfInBounds_toArray, List.set_cons_zero, List.set_cons_succ]
  refine takeD 4 (some 15) (v := ?_) rfl rfl (by kernel_rfl) (by kernel_rfl) (by kernel_rfl) (fun _ _ _ h => h) (by rfl) ?_ (by assumption) ?_
  rotate_left
  · intro w hSw
    (try dsimp only at hSw)
    go_simp
    try with_reducible rfl
  try simp only [Act.put, List.setIfInBounds_toArray, List.set_cons_zero, List.set_cons_succ]
  refine takeD 5 (some 16) (v := ?_) rfl rfl (by kernel_rfl) (by kernel_rfl) (by kernel_rfl) (fun _ _ _ h => h) (by rfl) ?_ (by assumption) ?_
  rotate_left
  · intro w hSw
    (try dsimp only at hSw)
    go_simp
    try with_reducible rfl
  try simp only [Act.put, List.setIfInBounds_toArray, List.set_cons_zero, List.set_cons_succ]
  refine takeD 6 (some 17) (v := ?_) rfl rfl (by kernel_rfl) (by kernel_rfl) (by kernel_rfl) (fun _ _ _ h => h) (by rfl) ?_ (by assumption) ?_
  rotate_left
  · intro w hSw
    (try dsimp only at hSw)
    go_simp
    try with_reducible rfl
  try simp only [Act.put, List.setIfInBounds_toArray, List.set_cons_zero, List.set_cons_succ]
  refine takeD 7 (some 18) (v := ?_) rfl rfl (by kernel_rfl) (by kernel_rfl) (by kernel_rfl) (fun _ _ _ h => h) (by rfl) ?_ (by assumption) ?_
  rotate_left
  · intro w hSw
    (try dsimp only at hSw)
    go_simp
    try with_reducible rfl
  try simp only [Act.put, List.setIfInBounds_toArray, List.set_cons_zero, List.set_cons_succ]
  refine takeD 8 (some 19) (v := ?_) rfl rfl (by kernel_rfl) (by kernel_rfl) (by kernel_rfl) (fun _ _ _ h => h) (by rfl) ?_ (by assumption) ?_
  rotate_left
  · intro w hSw
    (try dsimp only at hSw)
    go_simp
    try with_reducible rfl
  try simp only [Act.put, List.setIfInBounds_toArray, List.set_cons_zero, List.set_cons_succ]
  refine takeD 9 (some 20) (v := ?_) rfl rfl (by kernel_rfl) (by kernel_rfl) (by kernel_rfl) (fun _ _ _ h => h) (by rfl) ?_ (by assumption) ?_
  rotate_left
  · intro w hSw
    (try dsimp only at hSw)
    go_simp
    try with_reducible rfl
  try simp only [Act.put, List.setIfInBounds_toArray, List.set_cons_zero, List.set_cons_succ]
  refine takeD 10 (some 21) (v := ?_) rfl rfl (by kernel_rfl) (by kernel_rfl) (by kernel_rfl) (fun _ _ _ h => h) (by rfl) ?_ (by assumption) ?_
  rotate_left
  · intro w hSw
    (try dsimp only at hSw)
    go_simp
    try with_reducible rfl
  try simp only [Act.put, List.setIfInBounds_toArray, List.set_cons_zero, List.set_cons_succ]
  refine takeD 11 (some 22) (v := ?_) rfl rfl (by kernel_rfl) (by kernel_rfl) (by kernel_rfl) (fun _ _ _ h => h) (by rfl) ?_ (by assumption) ?_
  rotate_left
  · intro w hSw
    (try dsimp only at hSw)
    go_simp
    try with_reducible rfl
  try simp only [Act.put, List.setIfInBounds_toArray, List.set_cons_zero, List.set_cons_succ]
  refine takeD 12 (some 23) (v := ?_) rfl rfl (by kernel_rfl) (by kernel_rfl) (by kernel_rfl) (fun _ _ _ h => h) (by rfl) ?_ (by assumption) ?_
  rotate_left
  · intro w hSw
    (try dsimp only at hSw)
    go_simp
    try with_reducible rfl
  try simp only [Act.put, List.setIfInBounds_toArray, List.set_cons_zero, List.set_cons_succ]
  refine takeD 13 (some 24) (v := ?_) rfl rfl (by kernel_rfl) (by kernel_rfl) (by kernel_rfl) (fun _ _ _ h => h) (by rfl) ?_ (by assumption) ?_
  rotate_left
  · intro w hSw
    (try dsimp only at hSw)
    go_simp
    try with_reducible rfl
  try simp only [Act.put, List.setIfInBounds_toArray, List.set_cons_zero, List.set_cons_succ]
  refine takeD 14 (some 25) (v := ?_) rfl rfl (by kernel_rfl) (by kernel_rfl) (by kernel_rfl) (fun _ _ _ h => h) (by rfl) ?_ (by assumption) ?_
  rotate_left
  · intro w hSw
    (try dsimp only at hSw)
    go_simp
    try with_reducible rfl
  try simp only [Act.put, List.setIfInBounds_toArray, List.set_cons_zero, List.set_cons_succ]
  refine takeD 15 (some 26) (v := ?_) rfl rfl (by kernel_rfl) (by kernel_rfl) (by kernel_rfl) (fun _ _ _ h => h) (by rfl) ?_ (by assumption) ?_
  rotate_left
  · intro w hSw
    (try dsimp only at hSw)
    go_simp
    try with_reducible rfl
  try simp only [Act.put, List.setIfInBounds_toArray, List.set_cons_zero, List.set_cons_succ]
  refine takeD 16 (some 27) (v := ?_) rfl rfl (by kernel_rfl) (by kernel_rfl) (by kernel_rfl) (fun _ _ _ h => h) (by rfl) ?_ (by assumption) ?_
  rotate_left
  · intro w hSw
    (try dsimp only at hSw)
    go_simp
    try with_reducible rfl
  try simp only [Act.put, List.setIfInBounds_toArray, List.set_cons_zero, List.set_cons_succ]
  refine takeD 17 (some 28) (v := ?_) rfl rfl (by kernel_rfl) (by kernel_rfl) (by kernel_rfl) (fun _ _ _ h => h) (by rfl) ?_ (by assumption) ?_
  rotate_left
  · intro w hSw
    (try dsimp only at hSw)
    go_simp
    try with_reducible rfl
  try simp only [Act.put, List.setIfInBounds_toArray, List.set_cons_zero, List.set_cons_succ]
  refine takeD 18 (some 29) (v := ?_) rfl rfl (by kernel_rfl) (by kernel_rfl) (by kernel_rfl) (fun _ _ _ h => h) (by rfl) ?_ (by assumption) ?_
  rotate_left
  · intro w hSw
    (try dsimp only at hSw)
    go_simp
    try with_reducible rfl
  try simp only [Act.put, List.setIfInBounds_toArray, List.set_cons_zero, List.set_cons_succ]
  refine takeD 19 (some 30) (v := ?_) rfl rfl (by kernel_rfl) (by kernel_rfl) (by kernel_rfl) (fun _ _ _ h => h) (by rfl) ?_ (by assumption) ?_
  rotate_left
  · intro w hSw
    (try dsimp only at hSw)
    go_simp
    try with_reducible rfl
  try simp only [Act.put, List.setIfInBounds_toArray, List.set_cons_zero, List.set_cons_succ]
  refine takeD 20 (some 31) (v := ?_) rfl rfl (by kernel_rfl) (by kernel_rfl) (by kernel_rfl) (fun _ _ _ h => h) (by rfl) ?_ (by assumption) ?_
  rotate_left
  · intro w hSw
    (try dsimp only at hSw)
    go_simp
    try with_reducible rfl
  try simp only [Act.put, List.setIfInBounds_toArray, List.set_cons_zero, List.set_cons_succ]
  refine wpAnyH_ready (rs := [21]) (by kernel_rfl) (by simp) ?_
  refine AllReadyH.cons rfl (fun K hK => ?_) AllReadyH.nil
  rw [if_pos (by rfl)]
  go_simp
  go_at_call 17
  refine (sumOf_any _ ((bs.drop j).take (E4 - j)) _ (HB2.out.below (by exact hHeld))).mono ?_
  rintro e w4 ⟨u, rfl, hu, hk⟩
  obtain ⟨Bu, cu, rfl, hcu, hcmu, _⟩ := hu.src
  have hcv2 := run_conv (P := Try.prog) (dst := 9) Try.underlying22 Try.underlying5 Try.underlying9 hu
  clear hu
  go_simp
  refine hK.out _ _ ?_ (fun hHeld2 => ?_)
  · first | exact hHeld | exact hHeld.trans (hk.mono hHeld.size) | (clear hK; have hz := hHeld.size; go_grown)
  clear hK K hHeld
  have hHeld := hHeld2
  clear hHeld2
  try clear hk
  try simp only [Act.put, List.setIfInBounds_toArray, List.set_cons_zero, List.set_cons_succ]
  refine wpAnyH_ready (rs := [22]) (by kernel_rfl) (by simp) ?_
  refine AllReadyH.cons rfl (fun K hK => ?_) AllReadyH.nil
  rw [if_pos (by rfl)]
  go_simp
  clear hcv2
  refine hK.out _ _ ?_ (fun hHeld2 => ?_)
  · first | exact hHeld | exact hHeld.trans (hk.mono hHeld.size) | (clear hK; have hz := hHeld.size; go_grown)
  clear hK K hHeld
  have hHeld := hHeld2
  clear hHeld2
  try clear hk
  try simp only [Act.put, List.setIfInBounds_toArray, List.set_cons_zero, List.set_cons_succ]
  refine takeD 23 (some 34) (v := ?_) rfl rfl (by kernel_rfl) (by kernel_rfl) (by kernel_rfl) (fun _ _ _ h => h) (by rfl) ?_ (by assumption) ?_
  rotate_left
  · intro w hSw
    (try dsimp only at hSw)
    go_simp
    try with_reducible rfl
  try simp only [Act.put, List.setIfInBounds_toArray, List.set_cons_zero, List.set_cons_succ]
  refine takeD 24 (some 2) (v := ?_) rfl rfl (by kernel_rfl) (by kernel_rfl) (by kernel_rfl) (fun _ _ _ h => h) (by rfl) ?_ (by assumption) ?_
  rotate_left
  · intro w hSw
    (try dsimp only at hSw)
    go_simp
    try with_reducible rfl
  try simp only [Act.put, List.setIfInBounds_toArray, List.set_cons_zero, List.set_cons_succ]
  refine wpAnyH_done (by kernel_rfl) ?_ _
  go_wp2
  go_ret
  refine ⟨?_, hbW.trans (hHeld.mono hbW.size)⟩
  rw [hE.out]
  rfl

set_option maxRecDepth 100000 in
set_option maxHeartbeats 4000000 in
theorem data_any (w : World) (s : Nat) (ad : Addr) (c : Nat) (bs : List Int) (k : Nat) (h : Str w s ad c bs k) (hk : k < bs.length) (hw : wholeB (bs.drop k) = true) (hl : bs.length ≤ 1000000) :
    Calls Try.prog 23 #[.pointer (some ⟨s, 0, none⟩)] w fun e w' => ∃ u, e = .returned u ∧ Own8 w' u (dataB (bs.drop k)) ∧ Below w.heap.size w w' := by
  have H := Lib.hid h
  have hwl := whole_len hw
  rw [List.length_drop] at hwl
  obtain ⟨A0, c0, e0, hc, hcm, hs0⟩ := h.bytes.src
  injection e0 with e1 e2 e3
  subst e3
  clear e1 hs0
  have hdB : dataB (bs.drop k) = (bs.drop (k + 2)).take (cnt (bs.drop k)) := by unfold dataB; rw [List.drop_drop]
  obtain ⟨n, hn⟩ : ∃ n, n = cnt (bs.drop k) := ⟨_, rfl⟩
  rw [← hn] at hwl hdB
  have hdl : (dataB (bs.drop k)).length ≤ 1000000 := by rw [hdB, List.length_take, List.length_drop]; omega
  obtain ⟨E, hEq⟩ : ∃ E, E = k + n + 6 := ⟨_, rfl⟩
  obtain ⟨E4, hE4⟩ : ∃ E4, E4 = k + n + 2 := ⟨_, rfl⟩
  obtain ⟨j, hj⟩ : ∃ j, j = k + 2 := ⟨_, rfl⟩
  have hW0 : IntKind.i64.wrap ((k : Int) + ((cnt (bs.drop k) + 6 : Nat) : Int)) = (E : Int) := by rw [← hn, IntWalk.i64_in _ (by omega)]; omega
  have hW0' : IntKind.i64.wrap ((k : Int) + ((cnt (bs.drop k) : Int) + 6)) = (E : Int) := by rw [← hn, IntWalk.i64_in _ (by omega)]; omega
  have hW1 : IntKind.i64.wrap ((E : Int) - 4) = (E4 : Int) := by rw [IntWalk.i64_in _ (by omega)]; omega
  have hW2 : IntKind.i64.wrap ((k : Int) + 2) = (j : Int) := by rw [IntWalk.i64_in _ (by omega)]; omega
  have hb3 : (j : Int) ≤ (E4 : Int) := by omega
  have hb4 : (E4 : Int) ≤ (c : Int) := by omega
  have hn2 : ¬ c = j := by omega
  have HX : Hid (j + (E4 - j) ≤ bs.length ∧ E4 - j ≤ c - j ∧ c ≤ maxLen) := Lib.hid ⟨by omega, by omega, by unfold maxLen; omega⟩
  have q2 : (bs.drop j).take (E4 - j) = dataB (bs.drop k) := by rw [hdB, show j = k + 2 from hj, show E4 - (k + 2) = n by omega]
  have hk1 : k + 1 < bs.length := by omega
  have HB0 := Lib.hid (Bytes.sub h.bytes j (E4 - j) (c - j) HX.out.1 HX.out.2.1 (by have := HX.out.2.2; omega))
  rw [q2] at HB0
  clear q2 hn hEq hE4 hj hwl h hw hdB
  go_enter Try.func23, Try.ntmps23
  go_wp2_with fail
  refine wp_world (fun W => Below w.heap.size w W) (Below.refl _ _) fun W hbW => ?_
  have hS := H.out.below hbW
  have HSW := Lib.hid hS
  have HB2 := Lib.hid (HB0.out.below hbW)
  have d0 : ∀ w', Below W.heap.size W w' → w'.cell? ⟨s, 0, none⟩ = some (.slice (some ad) bs.length c) := fun w' hb => by rw [hb.cell (p := ⟨s, 0, none⟩) hS.blk.lt]; exact hS.blk.cells 0
  have d1 : ∀ w', Below W.heap.size W w' → w'.cell? ⟨s, 1, none⟩ = some (.int .i64 k) := fun w' hb => by rw [hb.cell (p := ⟨s, 1, none⟩) hS.blk.lt]; exact hS.blk.cells 1
  clear hS H HB0
  refine wp_region_held_drew (S := fun w' => Below W.heap.size W w') (by kernel_rfl) (by go_grown) (fun hHeld => ?_)
  refine takeD 0 (some 3) (v := ?_) rfl rfl (by kernel_rfl) (by kernel_rfl) (by kernel_rfl) (fun _ _ _ h => h) (by rfl) ?_ (by assumption) ?_
  rotate_left
  · intro w hSw
    (try dsimp only at hSw)
    go_simp
    try with_reducible rfl
  try simp only [Act.put, List.setIfInBounds_toArray, List.set_cons_zero, List.set_cons_succ]
  refine takeD 1 (some 4) (v := ?_) rfl rfl (by kernel_rfl) (by kernel_rfl) (by kernel_rfl) (fun _ _ _ h => h) (by rfl) ?_ (by assumption) ?_
  rotate_left
  · intro w hSw
    (try dsimp only at hSw)
    go_simp
    try with_reducible rfl
  try simp only [Act.put, List.setIfInBounds_toArray, List.set_cons_zero, List.set_cons_succ]
  refine takeD 2 (some 5) (v := ?_) rfl rfl (by kernel_rfl) (by kernel_rfl) (by kernel_rfl) (fun _ _ _ h => h) (by rfl) ?_ (by assumption) ?_
  rotate_left
  · intro w hSw
    (try dsimp only at hSw)
    go_simp
    try with_reducible rfl
  try simp only [Act.put, List.setIfInBounds_toArray, List.set_cons_zero, List.set_cons_succ]
  refine takeD 3 (some 6) (v := ?_) rfl rfl (by kernel_rfl) (by kernel_rfl) (by kernel_rfl) (fun _ _ _ h => h) (by rfl) ?_ (by assumption) ?_
  rotate_left
  · intro w hSw
    (try dsimp only at hSw)
    go_simp
    try with_reducible rfl
  try simp only [Act.put, List.setIfInBounds_toArray, List.set_cons_zero, List.set_cons_succ]
  refine takeD 4 (some 7) (v := ?_) rfl rfl (by kernel_rfl) (by kernel_rfl) (by kernel_rfl) (fun _ _ _ h => h) (by rfl) ?_ (by assumption) ?_
  rotate_left
  · intro w hSw
    (try dsimp only at hSw)
    go_simp
    try with_reducible rfl
  try simp only [Act.put, List.setIfInBounds_toArray, List.set_cons_zero, List.set_cons_succ]
  refine takeD 5 (some 8) (v := ?_) rfl rfl (by kernel_rfl) (by kernel_rfl) (by kernel_rfl) (fun _ _ _ h => h) (by rfl) ?_ (by assumption) ?_
  rotate_left
  · intro w hSw
    (try dsimp only at hSw)
    go_simp
    try with_reducible rfl
  try simp only [Act.put, List.setIfInBounds_toArray, List.set_cons_zero, List.set_cons_succ]
  refine takeD 6 (some 9) (v := ?_) rfl rfl (by kernel_rfl) (by kernel_rfl) (by kernel_rfl) (fun _ _ _ h => h) (by rfl) ?_ (by assumption) ?_
  rotate_left
  · intro w hSw
    (try dsimp only at hSw)
    go_simp
    try with_reducible rfl
  try simp only [Act.put, List.setIfInBounds_toArray, List.set_cons_zero, List.set_cons_succ]
  refine takeD 7 (some 10) (v := ?_) rfl rfl (by kernel_rfl) (by kernel_rfl) (by kernel_rfl) (fun _ _ _ h => h) (by rfl) ?_ (by assumption) ?_
  rotate_left
  · intro w hSw
    (try dsimp only at hSw)
    go_simp
    try with_reducible rfl
  try simp only [Act.put, List.setIfInBounds_toArray, List.set_cons_zero, List.set_cons_succ]
  refine takeD 8 (some 11) (v := ?_) rfl rfl (by kernel_rfl) (by kernel_rfl) (by kernel_rfl) (fun _ _ _ h => h) (by rfl) ?_ (by assumption) ?_
  rotate_left
  · intro w hSw
    (try dsimp only at hSw)
    go_simp
    try with_reducible rfl
  try simp only [Act.put, List.setIfInBounds_toArray, List.set_cons_zero, List.set_cons_succ]
  refine takeD 9 (some 12) (v := ?_) rfl rfl (by kernel_rfl) (by kernel_rfl) (by kernel_rfl) (fun _ _ _ h => h) (by rfl) ?_ (by assumption) ?_
  rotate_left
  · intro w hSw
    (try dsimp only at hSw)
    go_simp
    try with_reducible rfl
  try simp only [Act.put, List.setIfInBounds_toArray, List.set_cons_zero, List.set_cons_succ]
  refine takeD 10 (some 13) (v := ?_) rfl rfl (by kernel_rfl) (by kernel_rfl) (by kernel_rfl) (fun _ _ _ h => h) (by rfl) ?_ (by assumption) ?_
  rotate_left
  · intro w hSw
    (try dsimp only at hSw)
    go_simp
    try with_reducible rfl
  try simp only [Act.put, List.setIfInBounds_toArray, List.set_cons_zero, List.set_cons_succ]
  refine takeD 11 (some 14) (v := ?_) rfl rfl (by kernel_rfl) (by kernel_rfl) (by kernel_rfl) (fun _ _ _ h => h) (by rfl) ?_ (by assumption) ?_
  rotate_left
  · intro w hSw
    (try dsimp only at hSw)
    go_simp
    try with_reducible rfl
  try simp only [Act.put, List.setIfInBounds_toArray, List.set_cons_zero, List.set_cons_succ]
  refine takeD 12 (some 15) (v := ?_) rfl rfl (by kernel_rfl) (by kernel_rfl) (by kernel_rfl) (fun _ _ _ h => h) (by rfl) ?_ (by assumption) ?_
  rotate_left
  · intro w hSw
    (try dsimp only at hSw)
    go_simp
    try with_reducible rfl
  try simp only [Act.put, List.setIfInBounds_toArray, List.set_cons_zero, List.set_cons_succ]
  refine takeD 13 (some 16) (v := ?_) rfl rfl (by kernel_rfl) (by kernel_rfl) (by kernel_rfl) (fun _ _ _ h => h) (by rfl) ?_ (by assumption) ?_
  rotate_left
  · intro w hSw
    (try dsimp only at hSw)
    go_simp
    try with_reducible rfl
  try simp only [Act.put, List.setIfInBounds_toArray, List.set_cons_zero, List.set_cons_succ]
  refine wpAnyH_ready (rs := [14]) (by kernel_rfl) (by simp) ?_
  refine AllReadyH.cons rfl (fun K hK => ?_) AllReadyH.nil
  rw [if_pos (by rfl)]
  go_simp
  go_at_call 24
  refine (size_any _ s ad c bs k (HSW.out.below (by exact hHeld)) hk1 hl).mono ?_
  rintro e w4 ⟨rfl, m4, hw4⟩
  have hk := drewN_below hw4
  clear hw4
  go_simp
  refine hK.out _ _ ?_ (fun hHeld2 => ?_)
  · first | exact hHeld.trans (hk.mono hHeld.size) | (clear hK; have hz := hHeld.size; go_grown)
  clear hK K hHeld
  have hHeld := hHeld2
  clear hHeld2
  try clear hk
  try simp only [Act.put, List.setIfInBounds_toArray, List.set_cons_zero, List.set_cons_succ]
  refine takeD 15 (some 18) (v := ?_) rfl rfl (by kernel_rfl) (by kernel_rfl) (by kernel_rfl) (fun _ _ _ h => h) (by rfl) ?_ (by assumption) ?_
  rotate_left
  · intro w hSw
    (try dsimp only at hSw)
    go_simp
    try with_reducible rfl
  try simp only [Act.put, List.setIfInBounds_toArray, List.set_cons_zero, List.set_cons_succ]
  refine takeD 16 (some 19) (v := ?_) rfl rfl (by kernel_rfl) (by kernel_rfl) (by kernel_rfl) (fun _ _ _ h => h) (by rfl) ?_ (by assumption) ?_
  rotate_left
  · intro w hSw
    (try dsimp only at hSw)
    go_simp
    try with_reducible rfl
  try simp only [Act.put, List.setIfInBounds_toArray, List.set_cons_zero, List.set_cons_succ]
  refine takeD 17 (some 20) (v := ?_) rfl rfl (by kernel_rfl) (by kernel_rfl) (by kernel_rfl) (fun _ _ _ h => h) (by rfl) ?_ (by assumption) ?_
  rotate_left
  · intro w hSw
    (try dsimp only at hSw)
    go_simp
    try with_reducible rfl
  try simp only [Act.put, List.setIfInBounds_toArray, List.set_cons_zero, List.set_cons_succ]
  refine wpAnyH_ready (rs := [18]) (by kernel_rfl) (by simp) ?_
  refine AllReadyH.cons rfl (fun K hK => ?_) AllReadyH.nil
  rw [if_pos (by rfl)]
  go_simp
  go_at_call 25
  refine (cloned_any _ (dataB (bs.drop k)) _ (HB2.out.below (by exact hHeld)) hdl).mono ?_
  rintro e w4 ⟨u, rfl, hu, hk⟩
  have HU := Lib.hid hu
  obtain ⟨Bu, cu, rfl, hcu, hcmu, _⟩ := hu.bytes.src
  clear hu
  go_simp
  refine hK.out _ _ ?_ (fun hHeld2 => ?_)
  · first | exact hHeld.trans (hk.mono hHeld.size) | (clear hK; have hz := hHeld.size; go_grown)
  clear hK K hHeld
  have hHeld := hHeld2
  clear hHeld2
  try clear hk
  try simp only [Act.put, List.setIfInBounds_toArray, List.set_cons_zero, List.set_cons_succ]
  refine takeD 19 (some 2) (v := ?_) rfl rfl (by kernel_rfl) (by kernel_rfl) (by kernel_rfl) (fun _ _ _ h => h) (by rfl) ?_ (by assumption) ?_
  rotate_left
  · intro w hSw
    (try dsimp only at hSw)
    go_simp
    try with_reducible rfl
  try simp only [Act.put, List.setIfInBounds_toArray, List.set_cons_zero, List.set_cons_succ]
  refine wpAnyH_done (by kernel_rfl) ?_ _
  go_wp2
  go_ret
  exact ⟨_, rfl, HU.out, hbW.trans (hHeld.mono hbW.size)⟩
end Go.Proofs.Ytkpdfapfcmlhhaa
