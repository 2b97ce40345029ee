/- Layer 23: the live question. -/
import Derived.Test.YtaelhgkodcgmnaaDoorRendAK
import Derived.Handy
import Derived.IntWalk
namespace Go.Proofs.YtaelhgkodcgmnaaDoor
open Go.ChangeShapes Go.WideShapes Go.ChangeAt Go.RowKit Go.Deep
open Go.Shelf
set_option linter.unusedVariables false
set_option linter.unusedSimpArgs false

theorem itoa5 : Lib.itoa 5 = [53] := by unfold Lib.itoa; rw [if_neg (by decide), Lib.decDigits]; rfl
theorem itoa0 : Lib.itoa 0 = [48] := by unfold Lib.itoa; rw [if_neg (by decide), Lib.decDigits]; rfl
theorem itoa1 : Lib.itoa 1 = [49] := by unfold Lib.itoa; rw [if_neg (by decide), Lib.decDigits]; rfl
theorem itoa7 : Lib.itoa (-7) = [45, 55] := by unfold Lib.itoa; rw [if_pos (by decide), Lib.decDigits]; rfl
theorem itoa32 : Lib.itoa 32 = [51, 50] := by
  unfold Lib.itoa
  rw [if_neg (by decide), Lib.decDigits]
  show Lib.decDigits (32 / 10) ++ _ = _
  rw [Lib.decDigits]
  rfl
def hS : ByteArray := ⟨#[116, 105, 99, 107, 32, 53, 32, 118, 45, 55, 64, 51, 50, 32, 109, 32, 117, 32, 114, 32, 47, 32, 43, 32, 42, 32, 47, 32, 45, 32, 33]⟩
def hS5 : ByteArray := ⟨#[116, 105, 99, 107, 32, 48, 53, 32, 47, 32, 47]⟩
def hS0 : ByteArray := ⟨#[116, 105, 99, 107, 32, 48, 32, 47, 32, 47]⟩
theorem one_64 : td64 oneT := ⟨⟨by decide, by decide⟩, by
  intro c hc
  simp [oneT] at hc
  rcases hc with rfl | rfl | rfl | rfl <;> exact ⟨⟨by decide, by decide⟩, ⟨by decide, by decide⟩⟩⟩
theorem zero_64 : td64 Td.zero := ⟨⟨by decide, by decide⟩, by simp [Td.zero]⟩
theorem line_one : lineR oneT = hS.data.toList := by
  unfold lineR
  rw [if_pos (by decide)]
  have e : wds oneT = [tickW, Lib.itoa 5, 118 :: (Lib.itoa (-7) ++ 64 :: Lib.itoa 32), [109], [117], [114], [47], [43], [42], [47], [45], [33]] := rfl
  rw [e, itoa5, itoa7, itoa32]
  rfl
theorem line_zero : lineR Td.zero = hS0.data.toList := by
  unfold lineR
  rw [if_pos (by decide)]
  have e : wds Td.zero = [tickW, Lib.itoa 0, [47], [47]] := rfl
  rw [e, itoa0]
  rfl
theorem read_one : readR hS.data.toList = some oneT := by
  rw [← line_one]
  exact read_line (by decide) one_64
theorem read_zero : readR hS0.data.toList = some Td.zero := by
  rw [← line_zero]
  exact read_line (by decide) zero_64
theorem read_five : readR hS5.data.toList = none := by
  have e : toldR (spl 32 hS5.data.toList) = some ⟨5, [], [], []⟩ := by decide +kernel
  unfold readR
  rw [e]
  have e2 : lineR ⟨5, [], [], []⟩ = [116, 105, 99, 107, 32, 53, 32, 47, 32, 47] := by
    unfold lineR
    rw [if_pos (by decide)]
    have e : wds ⟨5, [], [], []⟩ = [tickW, Lib.itoa 5, [47], [47]] := rfl
    rw [e, itoa5]
    rfl
  dsimp only
  rw [e2]
  rfl
def tickT (n : Int) : Td := ⟨n, [], [], []⟩
theorem text_two : textR [Td.zero, tickT 1] = [116, 105, 99, 107, 32, 48, 32, 47, 32, 47, 10, 116, 105, 99, 107, 32, 49, 32, 47, 32, 47, 10] := by
  have e1 : lineR (tickT 1) = [116, 105, 99, 107, 32, 49, 32, 47, 32, 47] := by
    unfold lineR
    rw [if_pos (by decide)]
    have e : wds (tickT 1) = [tickW, Lib.itoa 1, [47], [47]] := rfl
    rw [e, itoa1]
    rfl
  have e2 : textR [Td.zero, tickT 1] = lineR Td.zero ++ [10] ++ (lineR (tickT 1) ++ [10]) := by simp [textR]
  rw [e2, line_zero, e1]
  rfl
theorem ReadQ.yes {w : World} {s : Str} {e : Ending} {t : Td} (h : ReadQ w s e) (ht : readR s = some t) : ∃ v, e = .returned (.tuple #[v, .bool true]) ∧ ToldV w v t := by
  obtain ⟨v, u, o, rfl, hv, ⟨rfl, h2⟩ | ⟨rfl, h2, _⟩⟩ := h
  · rw [ht] at h2
    injection h2 with h2
    subst h2
    exact ⟨v, rfl, hv⟩
  · rw [ht] at h2; cases h2
theorem ReadQ.no {w : World} {s : Str} {e : Ending} (h : ReadQ w s e) (ht : readR s = none) : ∃ v, e = .returned (.tuple #[v, .bool false]) ∧ ToldV w v Td.zero := by
  obtain ⟨v, u, o, rfl, hv, ⟨rfl, h2⟩ | ⟨rfl, h2, h3⟩⟩ := h
  · rw [ht] at h2; cases h2
  · subst h3
    exact ⟨v, rfl, hv⟩
def hT : ByteArray := ⟨#[116, 105, 99, 107, 32, 48, 32, 47, 32, 47, 10, 116, 105, 99, 107, 32, 49, 32, 47, 32, 47, 10]⟩
theorem hS_eq : (hS.toList == [116, 105, 99, 107, 32, 53, 32, 118, 45, 55, 64, 51, 50, 32, 109, 32, 117, 32, 114, 32, 47, 32, 43, 32, 42, 32, 47, 32, 45, 32, 33]) = true := by
  rw [toList_data]
  rfl
theorem hT_eq : (hT.toList == [116, 105, 99, 107, 32, 48, 32, 47, 32, 47, 10, 116, 105, 99, 107, 32, 49, 32, 47, 32, 47, 10]) = true := by
  rw [toList_data]
  rfl
theorem str_one : strB (lineR oneT) = hS := by rw [line_one]; rfl
theorem str_minus : strB (lineR (tickT (-1))) = ⟨#[]⟩ := by
  have e : lineR (tickT (-1)) = [] := if_neg (by decide)
  rw [e]
  rfl
theorem str_two : strB (textR ([⟨Td.zero, none, 0, none, 0, none, 0⟩, ⟨tickT 1, none, 0, none, 0, none, 0⟩].map TdV.t)) = hT := by
  have e : [(⟨Td.zero, none, 0, none, 0, none, 0⟩ : TdV), ⟨tickT 1, none, 0, none, 0, none, 0⟩].map TdV.t = [Td.zero, tickT 1] := rfl
  rw [e, text_two]
  rfl
theorem tick_told {w : World} {n : Int} : ToldV w (.agg #[.int .i64 n, .slice none 0 0, .slice none 0 0, .slice none 0 0]) (tickT n) := ⟨_, _, _, rfl, CRow.nil_, ARow.nil_, ARow.nil_⟩
theorem ToldV.shape {w : World} {v : Value} {t : Td} (h : ToldV w v t) : ∃ CA cc RA rc HA_ hc, v = .agg #[.int .i64 t.tick, .slice CA t.cells.length cc, .slice RA t.rules.length rc, .slice HA_ t.chans.length hc] := by
  obtain ⟨vc, vr, vh, rfl, h1, h2, h3⟩ := h
  obtain ⟨CA, cc, rfl⟩ := h1.1
  obtain ⟨RA, rc, rfl⟩ := h2.1
  obtain ⟨HA_, hc, rfl⟩ := h3.1
  exact ⟨CA, cc, RA, rc, HA_, hc, rfl⟩
def Hd : Prop := ∀ w : World, Env w → Calls Tryd.prog 9 #[] w fun e w' => e = .returned (.bool true) ∧ Below w.heap.size w w'
set_option maxRecDepth 100000 in
set_option maxHeartbeats 8000000 in
theorem head_any : Hd := by
  intro w hE
  have HE := Lib.hid hE
  clear hE
  go_enter Tryd.func9, Tryd.ntmps9
  go_wp2_with fail
  go_at_call 11
  refine (read_any hS w (by decide) HE.out).mono ?_
  rintro e W1 ⟨hR, hk⟩
  obtain ⟨v1, rfl, hv1⟩ := hR.yes read_one
  obtain ⟨CA, cc, RA, rc, HA_, hc, rfl⟩ := hv1.shape
  have HB1 := Lib.hid hk
  have HT1 := Lib.hid hv1
  clear hR hk hv1
  go_wp2_with fail
  go_at_call 11
  refine calls_world (fun W => Below W1.heap.size W1 W ∧ Blk W W1.heap.size 25 #[.int .i64 oneT.tick, .slice CA oneT.cells.length cc, .slice RA oneT.rules.length rc, .slice HA_ oneT.chans.length hc]) ⟨by go_grown, Blk.new _ _ _ _ (by first | rfl | simp)⟩ fun U1 ⟨hb, hq⟩ => ?_
  refine (read_any hS5 _ (by decide) (HE.out.below (HB1.out.trans (hb.mono HB1.out.size)))).mono ?_
  rintro e W2 ⟨hR, hk⟩
  obtain ⟨v2, rfl, hv2⟩ := hR.no read_five
  obtain ⟨CA2, cc2, RA2, rc2, HA2, hc2, rfl⟩ := hv2.shape
  have HB2 := Lib.hid (Btrans hb hk)
  have HQ2 := Lib.hid (hq.below hk)
  clear hR hk hv2 hb hq
  go_wp2_with fail
  go_at_call 11
  refine calls_world (fun W => Below W2.heap.size W2 W) (by go_grown) fun U2 hb => ?_
  refine (read_any hS0 _ (by decide) (HE.out.below (HB1.out.trans ((HB2.out.mono HB1.out.size).trans (hb.mono (Nat.le_trans HB1.out.size HB2.out.size)))))).mono ?_
  rintro e W3 ⟨hR, hk⟩
  obtain ⟨v3, rfl, hv3⟩ := hR.yes read_zero
  obtain ⟨CA3, cc3, RA3, rc3, HA3, hc3, rfl⟩ := hv3.shape
  have HB3 := Lib.hid (Btrans HB2.out (Btrans hb hk))
  have HQ3 := Lib.hid ((HQ2.out.below hb).below hk)
  have HT3 := Lib.hid hv3
  clear hR hk hv3 hb
  go_wp2_with fail
  refine wp_world (fun W => Below W3.heap.size W3 W ∧ Blk W W1.heap.size 25 #[.int .i64 oneT.tick, .slice CA oneT.cells.length cc, .slice RA oneT.rules.length rc, .slice HA_ oneT.chans.length hc] ∧ Blk W W3.heap.size 25 #[.int .i64 Td.zero.tick, .slice CA3 Td.zero.cells.length cc3, .slice RA3 Td.zero.rules.length rc3, .slice HA3 Td.zero.chans.length hc3]) ⟨by go_grown, HQ3.out.al _, Blk.new _ _ _ _ (by first | rfl | simp)⟩ fun W4 ⟨hb4, hq4, hz4⟩ => ?_
  have hw1 := HB1.out.size
  have HB4 := Lib.hid (HB1.out.trans ((HB3.out.mono hw1).trans (hb4.mono (Nat.le_trans hw1 HB3.out.size))))
  have HE4 := Lib.hid (HE.out.below HB4.out)
  have HT4 := Lib.hid ((HT1.out.below HB3.out).below hb4)
  have HZ4 := Lib.hid (HT3.out.below hb4)
  have HQ4 := Lib.hid hq4
  have HP4 := Lib.hid hz4
  have d1 : ∀ V, Below W4.heap.size W4 V → ∀ i, V.cell? ⟨W1.heap.size, i, none⟩ = (#[.int .i64 oneT.tick, .slice CA oneT.cells.length cc, .slice RA oneT.rules.length rc, .slice HA_ oneT.chans.length hc] : Array Value)[i]? := fun V hV => (HQ4.out.below hV).cells
  have d3 : ∀ V, Below W4.heap.size W4 V → ∀ i, V.cell? ⟨W3.heap.size, i, none⟩ = (#[.int .i64 Td.zero.tick, .slice CA3 Td.zero.cells.length cc3, .slice RA3 Td.zero.rules.length rc3, .slice HA3 Td.zero.chans.length hc3] : Array Value)[i]? := fun V hV => (HP4.out.below hV).cells
  clear hb4 hq4 hz4 hw1
  have e1 := hS_eq
  have e2 := hT_eq
  refine wp_region_held_drew (S := fun U => Below W4.heap.size W4 U) (by kernel_rfl) (by go_grown) (fun hHeld => ?_)
  refine takeD 2 (some 23) (v := ?_) rfl rfl (by kernel_rfl) (by kernel_rfl) (by kernel_rfl) (fun _ _ _ h => h) (by rfl) ?_ (by assumption) ?_
  rotate_left
  · intro w hSw
    (try dsimp only at hSw)
    go_simp
    try with_reducible rfl
  try simp only [Act.put, List.setIfInBounds_toArray, List.set_cons_zero, List.set_cons_succ]
  refine wpAnyH_ready (rs := [0]) (by kernel_rfl) (by simp) ?_
  refine AllReadyH.cons rfl (fun K hK => ?_) AllReadyH.nil
  rw [if_pos (by rfl)]
  go_simp
  go_at_call 22
  refine (one_any _).mono ?_
  rintro e U1 ⟨⟨vo1, rfl, ho⟩, hk⟩
  have HO1 := Lib.hid ho
  have hS := Btrans hHeld hk
  clear hk ho
  go_simp
  refine hK.out _ _ ?_ (fun hHeld2 => ?_)
  · clear hK; exact hS
  clear hK K hHeld hS
  have hHeld := hHeld2
  clear hHeld2
  try simp only [Act.put, List.setIfInBounds_toArray, List.set_cons_zero, List.set_cons_succ]
  refine wpAnyH_ready (rs := [1]) (by kernel_rfl) (by simp) ?_
  refine AllReadyH.cons rfl (fun K hK => ?_) AllReadyH.nil
  rw [if_pos (by rfl)]
  go_simp
  go_at_call 15
  refine (line_any _ oneT _ HO1.out one_64 (HE4.out.below hHeld) (by decide)).mono ?_
  rintro e U2 ⟨rfl, hk⟩
  have hS := Btrans hHeld hk
  clear hk
  rw [str_one]
  go_simp
  refine hK.out _ _ ?_ (fun hHeld2 => ?_)
  · clear hK; exact hS
  clear hK K hHeld hS
  have hHeld := hHeld2
  clear hHeld2
  try simp only [Act.put, List.setIfInBounds_toArray, List.set_cons_zero, List.set_cons_succ]
  refine takeD 3 (some 24) (v := ?_) rfl rfl (by kernel_rfl) (by kernel_rfl) (by kernel_rfl) (fun _ _ _ h => h) (by rfl) ?_ (by assumption) ?_
  rotate_left
  · intro w hSw
    (try dsimp only at hSw)
    go_simp
    try with_reducible rfl
  try simp only [Act.put, List.setIfInBounds_toArray, List.set_cons_zero, List.set_cons_succ]
  refine takeD 4 (some 25) (v := ?_) rfl rfl (by kernel_rfl) (by kernel_rfl) (by kernel_rfl) (fun _ _ _ h => h) (by rfl) ?_ (by assumption) ?_
  rotate_left
  · intro w hSw
    (try dsimp only at hSw)
    go_simp
    try with_reducible rfl
  try simp only [Act.put, List.setIfInBounds_toArray, List.set_cons_zero, List.set_cons_succ]
  refine takeD 5 (some 26) (v := ?_) rfl rfl (by kernel_rfl) (by kernel_rfl) (by kernel_rfl) (fun _ _ _ h => h) (by rfl) ?_ (by assumption) ?_
  rotate_left
  · intro w hSw
    (try dsimp only at hSw)
    go_simp
    try with_reducible rfl
  try simp only [Act.put, List.setIfInBounds_toArray, List.set_cons_zero, List.set_cons_succ]
  refine takeD 6 (some 27) (v := ?_) rfl rfl (by kernel_rfl) (by kernel_rfl) (by kernel_rfl) (fun _ _ _ h => h) (by rfl) ?_ (by assumption) ?_
  rotate_left
  · intro w hSw
    (try dsimp only at hSw)
    go_simp
    try with_reducible rfl
  try simp only [Act.put, List.setIfInBounds_toArray, List.set_cons_zero, List.set_cons_succ]
  refine takeD 7 (some 28) (v := ?_) rfl rfl (by kernel_rfl) (by kernel_rfl) (by kernel_rfl) (fun _ _ _ h => h) (by rfl) ?_ (by assumption) ?_
  rotate_left
  · intro w hSw
    (try dsimp only at hSw)
    go_simp
    try with_reducible rfl
  try simp only [Act.put, List.setIfInBounds_toArray, List.set_cons_zero, List.set_cons_succ]
  refine takeD 8 (some 29) (v := ?_) rfl rfl (by kernel_rfl) (by kernel_rfl) (by kernel_rfl) (fun _ _ _ h => h) (by rfl) ?_ (by assumption) ?_
  rotate_left
  · intro w hSw
    (try dsimp only at hSw)
    go_simp
    try with_reducible rfl
  try simp only [Act.put, List.setIfInBounds_toArray, List.set_cons_zero, List.set_cons_succ]
  refine wpAnyH_ready (rs := [9]) (by kernel_rfl) (by simp) ?_
  refine AllReadyH.cons rfl (fun K hK => ?_) AllReadyH.nil
  rw [if_pos (by rfl)]
  go_simp
  go_at_call 22
  refine (one_any _).mono ?_
  rintro e U3 ⟨⟨vo3, rfl, ho⟩, hk⟩
  have HO3 := Lib.hid ho
  have hS := Btrans hHeld hk
  clear hk ho
  go_simp
  refine hK.out _ _ ?_ (fun hHeld2 => ?_)
  · clear hK; exact hS
  clear hK K hHeld hS
  have hHeld := hHeld2
  clear hHeld2
  try simp only [Act.put, List.setIfInBounds_toArray, List.set_cons_zero, List.set_cons_succ]
  refine wpAnyH_ready (rs := [10]) (by kernel_rfl) (by simp) ?_
  refine AllReadyH.cons rfl (fun K hK => ?_) AllReadyH.nil
  rw [if_pos (by rfl)]
  go_simp
  go_at_call 17
  refine (sameT_any _ _ oneT oneT _ (HT4.out.below hHeld) HO3.out).mono ?_
  rintro e U4 ⟨rfl, hk⟩
  have hS := Btrans hHeld hk
  clear hk
  rw [decide_eq_true rfl]
  go_simp
  refine hK.out _ _ ?_ (fun hHeld2 => ?_)
  · clear hK; exact hS
  clear hK K hHeld hS
  have hHeld := hHeld2
  clear hHeld2
  try simp only [Act.put, List.setIfInBounds_toArray, List.set_cons_zero, List.set_cons_succ]
  refine takeD 11 (some 32) (v := ?_) rfl rfl (by kernel_rfl) (by kernel_rfl) (by kernel_rfl) (fun _ _ _ h => h) (by rfl) ?_ (by assumption) ?_
  rotate_left
  · intro w hSw
    (try dsimp only at hSw)
    go_simp
    try with_reducible rfl
  try simp only [Act.put, List.setIfInBounds_toArray, List.set_cons_zero, List.set_cons_succ]
  refine takeD 12 (some 33) (v := ?_) rfl rfl (by kernel_rfl) (by kernel_rfl) (by kernel_rfl) (fun _ _ _ h => h) (by rfl) ?_ (by assumption) ?_
  rotate_left
  · intro w hSw
    (try dsimp only at hSw)
    go_simp
    try with_reducible rfl
  try simp only [Act.put, List.setIfInBounds_toArray, List.set_cons_zero, List.set_cons_succ]
  refine takeD 13 (some 34) (v := ?_) rfl rfl (by kernel_rfl) (by kernel_rfl) (by kernel_rfl) (fun _ _ _ h => h) (by rfl) ?_ (by assumption) ?_
  rotate_left
  · intro w hSw
    (try dsimp only at hSw)
    go_simp
    try with_reducible rfl
  try simp only [Act.put, List.setIfInBounds_toArray, List.set_cons_zero, List.set_cons_succ]
  refine takeD 14 (some 35) (v := ?_) rfl rfl (by kernel_rfl) (by kernel_rfl) (by kernel_rfl) (fun _ _ _ h => h) (by rfl) ?_ (by assumption) ?_
  rotate_left
  · intro w hSw
    (try dsimp only at hSw)
    go_simp
    try with_reducible rfl
  try simp only [Act.put, List.setIfInBounds_toArray, List.set_cons_zero, List.set_cons_succ]
  refine takeD 15 (some 36) (v := ?_) rfl rfl (by kernel_rfl) (by kernel_rfl) (by kernel_rfl) (fun _ _ _ h => h) (by rfl) ?_ (by assumption) ?_
  rotate_left
  · intro w hSw
    (try dsimp only at hSw)
    go_simp
    try with_reducible rfl
  try simp only [Act.put, List.setIfInBounds_toArray, List.set_cons_zero, List.set_cons_succ]
  refine takeD 16 (some 37) (v := ?_) rfl rfl (by kernel_rfl) (by kernel_rfl) (by kernel_rfl) (fun _ _ _ h => h) (by rfl) ?_ (by assumption) ?_
  rotate_left
  · intro w hSw
    (try dsimp only at hSw)
    go_simp
    try with_reducible rfl
  try simp only [Act.put, List.setIfInBounds_toArray, List.set_cons_zero, List.set_cons_succ]
  refine takeD 17 (some 38) (v := ?_) rfl rfl (by kernel_rfl) (by kernel_rfl) (by kernel_rfl) (fun _ _ _ h => h) (by rfl) ?_ (by assumption) ?_
  rotate_left
  · intro w hSw
    (try dsimp only at hSw)
    go_simp
    try with_reducible rfl
  try simp only [Act.put, List.setIfInBounds_toArray, List.set_cons_zero, List.set_cons_succ]
  refine takeD 18 (some 39) (v := ?_) rfl rfl (by kernel_rfl) (by kernel_rfl) (by kernel_rfl) (fun _ _ _ h => h) (by rfl) ?_ (by assumption) ?_
  rotate_left
  · intro w hSw
    (try dsimp only at hSw)
    go_simp
    try with_reducible rfl
  try simp only [Act.put, List.setIfInBounds_toArray, List.set_cons_zero, List.set_cons_succ]
  refine takeD 19 (some 40) (v := ?_) rfl rfl (by kernel_rfl) (by kernel_rfl) (by kernel_rfl) (fun _ _ _ h => h) (by rfl) ?_ (by assumption) ?_
  rotate_left
  · intro w hSw
    (try dsimp only at hSw)
    go_simp
    try with_reducible rfl
  try simp only [Act.put, List.setIfInBounds_toArray, List.set_cons_zero, List.set_cons_succ]
  refine takeD 20 (some 41) (v := ?_) rfl rfl (by kernel_rfl) (by kernel_rfl) (by kernel_rfl) (fun _ _ _ h => h) (by rfl) ?_ (by assumption) ?_
  rotate_left
  · intro w hSw
    (try dsimp only at hSw)
    go_simp
    try with_reducible rfl
  try simp only [Act.put, List.setIfInBounds_toArray, List.set_cons_zero, List.set_cons_succ]
  refine takeD 21 (some 42) (v := ?_) rfl rfl (by kernel_rfl) (by kernel_rfl) (by kernel_rfl) (fun _ _ _ h => h) (by rfl) ?_ (by assumption) ?_
  rotate_left
  · intro w hSw
    (try dsimp only at hSw)
    go_simp
    try with_reducible rfl
  try simp only [Act.put, List.setIfInBounds_toArray, List.set_cons_zero, List.set_cons_succ]
  refine wpAnyH_ready (rs := [22]) (by kernel_rfl) (by simp) ?_
  refine AllReadyH.cons rfl (fun K hK => ?_) AllReadyH.nil
  rw [if_pos (by rfl)]
  go_simp
  go_at_call 17
  refine (sameT_any _ _ Td.zero Td.zero _ (HZ4.out.below hHeld) ToldV.zero_).mono ?_
  rintro e U5 ⟨rfl, hk⟩
  have hS := Btrans hHeld hk
  clear hk
  rw [decide_eq_true rfl]
  go_simp
  refine hK.out _ _ ?_ (fun hHeld2 => ?_)
  · clear hK; exact hS
  clear hK K hHeld hS
  have hHeld := hHeld2
  clear hHeld2
  try simp only [Act.put, List.setIfInBounds_toArray, List.set_cons_zero, List.set_cons_succ]
  refine takeD 23 (some 44) (v := ?_) rfl rfl (by kernel_rfl) (by kernel_rfl) (by kernel_rfl) (fun _ _ _ h => h) (by rfl) ?_ (by assumption) ?_
  rotate_left
  · intro w hSw
    (try dsimp only at hSw)
    go_simp
    try with_reducible rfl
  try simp only [Act.put, List.setIfInBounds_toArray, List.set_cons_zero, List.set_cons_succ]
  refine takeD 24 (some 45) (v := ?_) rfl rfl (by kernel_rfl) (by kernel_rfl) (by kernel_rfl) (fun _ _ _ h => h) (by rfl) ?_ (by assumption) ?_
  rotate_left
  · intro w hSw
    (try dsimp only at hSw)
    go_simp
    try with_reducible rfl
  try simp only [Act.put, List.setIfInBounds_toArray, List.set_cons_zero, List.set_cons_succ]
  refine takeD 25 (some 46) (v := ?_) rfl rfl (by kernel_rfl) (by kernel_rfl) (by kernel_rfl) (fun _ _ _ h => h) (by rfl) ?_ (by assumption) ?_
  rotate_left
  · intro w hSw
    (try dsimp only at hSw)
    go_simp
    try with_reducible rfl
  try simp only [Act.put, List.setIfInBounds_toArray, List.set_cons_zero, List.set_cons_succ]
  refine wpAnyH_ready (rs := [26]) (by kernel_rfl) (by simp) ?_
  refine AllReadyH.cons rfl (fun K hK => ?_) AllReadyH.nil
  rw [if_pos (by rfl)]
  go_simp
  go_at_call 15
  refine (line_any _ (tickT (-1)) _ tick_told ⟨⟨by decide, by decide⟩, by simp [tickT]⟩ (HE4.out.below hHeld) (by decide)).mono ?_
  rintro e U6 ⟨rfl, hk⟩
  have hS := Btrans hHeld hk
  clear hk
  rw [str_minus]
  go_simp
  refine hK.out _ _ ?_ (fun hHeld2 => ?_)
  · clear hK; exact hS
  clear hK K hHeld hS
  have hHeld := hHeld2
  clear hHeld2
  try simp only [Act.put, List.setIfInBounds_toArray, List.set_cons_zero, List.set_cons_succ]
  refine takeD 27 (some 48) (v := ?_) rfl rfl (by kernel_rfl) (by kernel_rfl) (by kernel_rfl) (fun _ _ _ h => h) (by rfl) ?_ (by assumption) ?_
  rotate_left
  · intro w hSw
    (try dsimp only at hSw)
    go_simp
    try with_reducible rfl
  try simp only [Act.put, List.setIfInBounds_toArray, List.set_cons_zero, List.set_cons_succ]
  refine takeD 28 (some 49) (v := ?_) rfl rfl (by kernel_rfl) (by kernel_rfl) (by kernel_rfl) (fun _ _ _ h => h) (by rfl) ?_ (by assumption) ?_
  rotate_left
  · intro w hSw
    (try dsimp only at hSw)
    go_simp
    try with_reducible rfl
  try simp only [Act.put, List.setIfInBounds_toArray, List.set_cons_zero, List.set_cons_succ]
  refine takeD 29 (some 50) (v := ?_) rfl rfl (by kernel_rfl) (by kernel_rfl) (by kernel_rfl) (fun _ _ _ h => h) (by rfl) ?_ (by assumption) ?_
  rotate_left
  · intro w hSw
    (try dsimp only at hSw)
    go_simp
    try with_reducible rfl
  try simp only [Act.put, List.setIfInBounds_toArray, List.set_cons_zero, List.set_cons_succ]
  refine wpAnyH_ready (rs := [30]) (by kernel_rfl) (by simp) ?_
  refine AllReadyH.cons rfl (fun K hK => ?_) AllReadyH.nil
  rw [if_pos (by rfl)]
  go_simp
  go_at_call 22
  refine (one_any _).mono ?_
  rintro e U7 ⟨⟨vo7, rfl, ho⟩, hk⟩
  have HO7 := Lib.hid ho
  have hS := Btrans hHeld hk
  clear hk ho
  go_simp
  refine hK.out _ _ ?_ (fun hHeld2 => ?_)
  · clear hK; exact hS
  clear hK K hHeld hS
  have hHeld := hHeld2
  clear hHeld2
  try simp only [Act.put, List.setIfInBounds_toArray, List.set_cons_zero, List.set_cons_succ]
  refine wpAnyH_ready (rs := [31]) (by kernel_rfl) (by simp) ?_
  refine AllReadyH.cons rfl (fun K hK => ?_) AllReadyH.nil
  rw [if_pos (by rfl)]
  go_simp
  go_at_call 13
  refine (right_any _ oneT _ HO7.out).mono ?_
  rintro e U7 ⟨rfl, hk⟩
  have hS := Btrans hHeld hk
  clear hk
  rw [decide_eq_true (show tdR oneT by decide)]
  go_simp
  refine hK.out _ _ ?_ (fun hHeld2 => ?_)
  · clear hK; exact hS
  clear hK K hHeld hS
  have hHeld := hHeld2
  clear hHeld2
  try simp only [Act.put, List.setIfInBounds_toArray, List.set_cons_zero, List.set_cons_succ]
  refine takeD 32 (some 53) (v := ?_) rfl rfl (by kernel_rfl) (by kernel_rfl) (by kernel_rfl) (fun _ _ _ h => h) (by rfl) ?_ (by assumption) ?_
  rotate_left
  · intro w hSw
    (try dsimp only at hSw)
    go_simp
    try with_reducible rfl
  try simp only [Act.put, List.setIfInBounds_toArray, List.set_cons_zero, List.set_cons_succ]
  refine takeD 33 (some 54) (v := ?_) rfl rfl (by kernel_rfl) (by kernel_rfl) (by kernel_rfl) (fun _ _ _ h => h) (by rfl) ?_ (by assumption) ?_
  rotate_left
  · intro w hSw
    (try dsimp only at hSw)
    go_simp
    try with_reducible rfl
  try simp only [Act.put, List.setIfInBounds_toArray, List.set_cons_zero, List.set_cons_succ]
  refine takeD 34 (some 55) (v := ?_) rfl rfl (by kernel_rfl) (by kernel_rfl) (by kernel_rfl) (fun _ _ _ h => h) (by rfl) ?_ (by assumption) ?_
  rotate_left
  · intro w hSw
    (try dsimp only at hSw)
    go_simp
    try with_reducible rfl
  try simp only [Act.put, List.setIfInBounds_toArray, List.set_cons_zero, List.set_cons_succ]
  refine wpAnyH_ready (rs := [35]) (by kernel_rfl) (by simp) ?_
  refine AllReadyH.cons rfl (fun K hK => ?_) AllReadyH.nil
  rw [if_pos (by rfl)]
  go_simp
  refine nameV (fun V => Below W4.heap.size W4 V ∧ Blk V U7.heap.size 44 #[.int .i64 2, .int .i64 1, .int .i64 0]) ⟨hHeld.alloc hHeld.size _, Blk.new _ _ _ _ (by first | rfl | simp)⟩ fun V8 ⟨hS, hx⟩ => ?_
  have HC8 := Lib.hid (show ToldV V8 (.agg #[.int .i64 0, .slice (some ⟨U7.heap.size, 0, none⟩) 1 1, .slice none 0 0, .slice none 0 0]) ⟨0, [⟨2, 1, 0⟩], [], []⟩ from ⟨_, _, _, rfl, ⟨⟨_, _, rfl⟩, RowN.of_blk hx rfl rfl (Nat.le_refl _) (by decide)⟩, ARow.nil_, ARow.nil_⟩)
  clear hx
  refine hK.out _ _ ?_ (fun hHeld2 => ?_)
  · clear hK; exact hS
  clear hK K hHeld hS
  have hHeld := hHeld2
  clear hHeld2
  try simp only [Act.put, List.setIfInBounds_toArray, List.set_cons_zero, List.set_cons_succ]
  refine takeD 36 (some 57) (v := ?_) rfl rfl (by kernel_rfl) (by kernel_rfl) (by kernel_rfl) (fun _ _ _ h => h) (by rfl) ?_ (by assumption) ?_
  rotate_left
  · intro w hSw
    (try dsimp only at hSw)
    go_simp
    try with_reducible rfl
  try simp only [Act.put, List.setIfInBounds_toArray, List.set_cons_zero, List.set_cons_succ]
  refine wpAnyH_ready (rs := [37]) (by kernel_rfl) (by simp) ?_
  refine AllReadyH.cons rfl (fun K hK => ?_) AllReadyH.nil
  rw [if_pos (by rfl)]
  go_simp
  go_at_call 13
  refine (right_any _ ⟨0, [⟨2, 1, 0⟩], [], []⟩ _ HC8.out).mono ?_
  rintro e U9 ⟨rfl, hk⟩
  have hS := Btrans hHeld hk
  clear hk
  rw [decide_eq_false (show ¬ tdR ⟨0, [⟨2, 1, 0⟩], [], []⟩ by decide)]
  go_simp
  refine hK.out _ _ ?_ (fun hHeld2 => ?_)
  · clear hK; exact hS
  clear hK K hHeld hS
  have hHeld := hHeld2
  clear hHeld2
  try simp only [Act.put, List.setIfInBounds_toArray, List.set_cons_zero, List.set_cons_succ]
  refine takeD 38 (some 59) (v := ?_) rfl rfl (by kernel_rfl) (by kernel_rfl) (by kernel_rfl) (fun _ _ _ h => h) (by rfl) ?_ (by assumption) ?_
  rotate_left
  · intro w hSw
    (try dsimp only at hSw)
    go_simp
    try with_reducible rfl
  try simp only [Act.put, List.setIfInBounds_toArray, List.set_cons_zero, List.set_cons_succ]
  refine takeD 39 (some 60) (v := ?_) rfl rfl (by kernel_rfl) (by kernel_rfl) (by kernel_rfl) (fun _ _ _ h => h) (by rfl) ?_ (by assumption) ?_
  rotate_left
  · intro w hSw
    (try dsimp only at hSw)
    go_simp
    try with_reducible rfl
  try simp only [Act.put, List.setIfInBounds_toArray, List.set_cons_zero, List.set_cons_succ]
  refine takeD 40 (some 61) (v := ?_) rfl rfl (by kernel_rfl) (by kernel_rfl) (by kernel_rfl) (fun _ _ _ h => h) (by rfl) ?_ (by assumption) ?_
  rotate_left
  · intro w hSw
    (try dsimp only at hSw)
    go_simp
    try with_reducible rfl
  try simp only [Act.put, List.setIfInBounds_toArray, List.set_cons_zero, List.set_cons_succ]
  refine takeD 41 (some 62) (v := ?_) rfl rfl (by kernel_rfl) (by kernel_rfl) (by kernel_rfl) (fun _ _ _ h => h) (by rfl) ?_ (by assumption) ?_
  rotate_left
  · intro w hSw
    (try dsimp only at hSw)
    go_simp
    try with_reducible rfl
  try simp only [Act.put, List.setIfInBounds_toArray, List.set_cons_zero, List.set_cons_succ]
  refine takeD 42 (some 63) (v := ?_) rfl rfl (by kernel_rfl) (by kernel_rfl) (by kernel_rfl) (fun _ _ _ h => h) (by rfl) ?_ (by assumption) ?_
  rotate_left
  · intro w hSw
    (try dsimp only at hSw)
    go_simp
    try with_reducible rfl
  try simp only [Act.put, List.setIfInBounds_toArray, List.set_cons_zero, List.set_cons_succ]
  refine wpAnyH_ready (rs := [43]) (by kernel_rfl) (by simp) ?_
  refine AllReadyH.cons rfl (fun K hK => ?_) AllReadyH.nil
  rw [if_pos (by rfl)]
  go_simp
  refine nameV (fun V => Below W4.heap.size W4 V ∧ Blk V U9.heap.size 25 #[.int .i64 0, .slice none 0 0, .slice none 0 0, .slice none 0 0, .int .i64 1, .slice none 0 0, .slice none 0 0, .slice none 0 0]) ⟨hHeld.alloc hHeld.size _, Blk.new _ _ _ _ (by first | rfl | simp)⟩ fun V10 ⟨hS, hx⟩ => ?_
  have HC10 := Lib.hid (show TRow V10 (.slice (some ⟨U9.heap.size, 0, none⟩) 2 2) [⟨Td.zero, none, 0, none, 0, none, 0⟩, ⟨tickT 1, none, 0, none, 0, none, 0⟩] from ⟨⟨_, _, rfl⟩, RowN.of_blk hx rfl rfl (Nat.le_refl _) (by decide), by
    intro x hx
    simp at hx
    rcases hx with rfl | rfl
    · exact ⟨CRow.nil_, ARow.nil_, ARow.nil_, zero_64⟩
    · exact ⟨CRow.nil_, ARow.nil_, ARow.nil_, ⟨⟨by decide, by decide⟩, by simp [tickT]⟩⟩⟩)
  clear hx
  refine hK.out _ _ ?_ (fun hHeld2 => ?_)
  · clear hK; exact hS
  clear hK K hHeld hS
  have hHeld := hHeld2
  clear hHeld2
  try simp only [Act.put, List.setIfInBounds_toArray, List.set_cons_zero, List.set_cons_succ]
  refine wpAnyH_ready (rs := [44]) (by kernel_rfl) (by simp) ?_
  refine AllReadyH.cons rfl (fun K hK => ?_) AllReadyH.nil
  rw [if_pos (by rfl)]
  go_simp
  go_at_call 18
  refine (text_any _ _ _ HC10.out (HE4.out.below hHeld) (by intro x hx; simp at hx; rcases hx with rfl | rfl <;> decide) (by decide)).mono ?_
  rintro e U11 ⟨rfl, hk⟩
  have hS := Btrans hHeld hk
  clear hk
  rw [str_two]
  go_simp
  refine hK.out _ _ ?_ (fun hHeld2 => ?_)
  · clear hK; exact hS
  clear hK K hHeld hS
  have hHeld := hHeld2
  clear hHeld2
  try simp only [Act.put, List.setIfInBounds_toArray, List.set_cons_zero, List.set_cons_succ]
  refine takeD 45 (some 66) (v := ?_) rfl rfl (by kernel_rfl) (by kernel_rfl) (by kernel_rfl) (fun _ _ _ h => h) (by rfl) ?_ (by assumption) ?_
  rotate_left
  · intro w hSw
    (try dsimp only at hSw)
    go_simp
    try with_reducible rfl
  try simp only [Act.put, List.setIfInBounds_toArray, List.set_cons_zero, List.set_cons_succ]
  refine takeD 46 (some 67) (v := ?_) rfl rfl (by kernel_rfl) (by kernel_rfl) (by kernel_rfl) (fun _ _ _ h => h) (by rfl) ?_ (by assumption) ?_
  rotate_left
  · intro w hSw
    (try dsimp only at hSw)
    go_simp
    try with_reducible rfl
  try simp only [Act.put, List.setIfInBounds_toArray, List.set_cons_zero, List.set_cons_succ]
  refine takeD 47 (some 0) (v := ?_) rfl rfl (by kernel_rfl) (by kernel_rfl) (by kernel_rfl) (fun _ _ _ h => h) (by rfl) ?_ (by assumption) ?_
  rotate_left
  · intro w hSw
    (try dsimp only at hSw)
    go_simp
    try with_reducible rfl
  try simp only [Act.put, List.setIfInBounds_toArray, List.set_cons_zero, List.set_cons_succ]
  refine wpAnyH_done (by kernel_rfl) ?_ _
  have HF := Lib.hid hHeld
  clear hHeld d1 d3
  go_wp2_with fail
  go_ret
  exact ⟨by rfl, HB4.out.trans (HF.out.mono HB4.out.size)⟩
end Go.Proofs.YtaelhgkodcgmnaaDoor
