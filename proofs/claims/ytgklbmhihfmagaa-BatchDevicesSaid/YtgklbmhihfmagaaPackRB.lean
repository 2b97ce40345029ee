/- Layer 4: the text's data. -/
import Derived.Test.YtgklbmhihfmagaaPackQB
namespace Go.Proofs.Ytgklbmhihfmagaa
open Go.ChangeShapes Go.WideShapes Go.ChangeAt Go.RowKit
set_option linter.unusedVariables false
set_option linter.unusedSimpArgs false

theorem rputs_any (base : Nat) (v : Value) (n m : Int) (xs : List Int) (k : Nat) (w : World) (hk : k ≤ 100) (hm : 1 ≤ m ∧ m ≤ 7) (hn : 0 ≤ n ∧ n < 256 ^ m.toNat)
    (ho : w.ownsRow base 5 1 v k (xs.map (.int .u8))) (hb : base ≤ w.heap.size) :
    Calls Try.prog 38 #[v, .int .i64 n, .int .i64 m] w fun e w' => ∃ v', e = .returned v' ∧ w'.ownsRow base 5 1 v' (k + m.toNat) ((xs ++ putB n m.toNat).map (.int .u8)) ∧ Below base w w' := by
  have HO := Lib.hid ho
  have hlen := putB_len n m.toNat
  clear ho
  go_enter Try.func38, Try.ntmps38
  go_wp2_with fail
  refine (rput_yes n m _ hm.1 hm.2 hn.1 hn.2).mono ?_
  rintro e w1 ⟨u, rfl, hu, hk1⟩
  have hO1 := own_below HO.out hk1
  have hs1 := hk1.size
  go_wp2_with (at_builtin; refine wpList_app el8 rfl (.tmp 15) (.tmp 16) rfl base _ _ _ rfl hO1 _ ((putB n m.toNat).map (.int .u8)) rfl hu.1 (one_ints _ _) ?_ ?_ ?_ ?_)
  case refine_1 => rw [List.length_map, hlen]; unfold maxLen; omega
  case refine_2 => rw [List.length_map, hlen]; omega
  case refine_3 => omega
  intro v' w2 hO2 hg _
  have hb2 : Below base w w2 := below_app (hk1.mono hb) (by omega) hO1 hg (Nat.le_refl _)
  rw [← List.map_append] at hO2
  go_wp2
  go_ret
  exact ⟨_, rfl, hO2, hb2⟩

set_option maxRecDepth 100000 in
set_option maxHeartbeats 1000000 in
theorem rdata_yes (v : Value) (p : Pk) (w : World) (h : PkV w v p) (hr : p.right) :
    Calls Try.prog 27 #[v] w fun e w' => ∃ u, e = .returned (.tuple #[u, .bool true]) ∧ Bytes w' u p.data ∧ Below w.heap.size w w' := by
  have hPV := Lib.hid h
  obtain ⟨vs, rfl, hI⟩ := h
  obtain ⟨A, c, hs, hc, hcm, hA⟩ := hI.shape
  subst hs
  have hlz : ((p.vals.length : Nat) : Int) ≤ 9223372036854775807 := by unfold maxLen at hcm; omega
  have HC := Lib.hid hA
  have hlen := hr.2.1
  have hd : decide p.right = true := decide_eq_true hr
  have h1 := hr.1
  have HB0 := Lib.hid (show 0 ≤ p.dev ∧ p.dev < 256 ^ (1 : Int).toNat from ⟨h1.1.1, by have := h1.1.2; show p.dev < 256; omega⟩)
  have HB1 := Lib.hid (show 0 ≤ p.chan ∧ p.chan < 256 ^ (1 : Int).toNat from ⟨h1.2.1.1, by have := h1.2.1.2; show p.chan < 256; omega⟩)
  have HB2 := Lib.hid (show 0 ≤ p.boot ∧ p.boot < 256 ^ (1 : Int).toNat from ⟨h1.2.2.1.1, by have := h1.2.2.1.2; show p.boot < 256; omega⟩)
  have HB3 := Lib.hid (show 0 ≤ p.seq ∧ p.seq < 256 ^ (2 : Int).toNat from ⟨h1.2.2.2.1.1, by have := h1.2.2.2.1.2; show p.seq < 65536; omega⟩)
  have HB4 := Lib.hid (show 0 ≤ p.stamp ∧ p.stamp < 256 ^ (5 : Int).toNat from ⟨h1.2.2.2.2.1, by have := h1.2.2.2.2.2; show p.stamp < 1099511627776; omega⟩)
  clear hI hA hcm hr h1
  go_enter Try.func27, Try.ntmps27
  go_wp2_with fail
  have HS0 := Lib.hid (Blk.new w 31 #[.int .i64 p.dev, .int .i64 p.chan, .int .i64 p.boot, .int .i64 p.seq, .int .i64 p.stamp, .slice A p.vals.length c] _ rfl)
  refine (rright_any _ p _ (hPV.out.below ((Below.refl _ _).alloc (Nat.le_refl _) _))).mono ?_
  rintro e W ⟨rfl, hk⟩
  have hbW : Below w.heap.size w W := (show Below w.heap.size w _ by go_grown).trans (hk.mono (by simp))
  have HS := Lib.hid (HS0.out.below hk)
  clear hk HS0
  rw [hd]
  go_wp2_with fail
  have lS := HS.out.lt
  have dS : ∀ w', Below W.heap.size W w' → ∀ i, w'.cell? ⟨w.heap.size, i, none⟩ = (#[.int .i64 p.dev, .int .i64 p.chan, .int .i64 p.boot, .int .i64 p.seq, .int .i64 p.stamp, .slice A p.vals.length c] : Array Value)[i]? := fun w' hb i => by rw [hb.cell (p := ⟨w.heap.size, i, none⟩) HS.out.lt]; exact HS.out.cells i
  refine wp_region_held_drew (S := fun w' => Below W.heap.size W w') (by kernel_rfl) (by go_grown) (fun hHeld => ?_)
  refine takeD 0 (some 9) (v := ?_) rfl rfl (by kernel_rfl) (by kernel_rfl) (by kernel_rfl) (fun _ _ _ h => h) (by rfl) ?_ (by assumption) ?_
  rotate_left
  · intro w hSw
    (try dsimp only at hSw)
    go_simp
    try with_reducible rfl
  try simp only [Act.put, List.setIfInBounds_toArray, List.set_cons_zero, List.set_cons_succ]
  refine takeD 1 (some 10) (v := ?_) rfl rfl (by kernel_rfl) (by kernel_rfl) (by kernel_rfl) (fun _ _ _ h => h) (by rfl) ?_ (by assumption) ?_
  rotate_left
  · intro w hSw
    (try dsimp only at hSw)
    go_simp
    try with_reducible rfl
  try simp only [Act.put, List.setIfInBounds_toArray, List.set_cons_zero, List.set_cons_succ]
  refine takeD 3 (some 12) (v := ?_) rfl rfl (by kernel_rfl) (by kernel_rfl) (by kernel_rfl) (fun _ _ _ h => h) (by rfl) ?_ (by assumption) ?_
  rotate_left
  · intro w hSw
    (try dsimp only at hSw)
    go_simp
    try with_reducible rfl
  try simp only [Act.put, List.setIfInBounds_toArray, List.set_cons_zero, List.set_cons_succ]
  refine takeD 4 (some 13) (v := ?_) rfl rfl (by kernel_rfl) (by kernel_rfl) (by kernel_rfl) (fun _ _ _ h => h) (by rfl) ?_ (by assumption) ?_
  rotate_left
  · intro w hSw
    (try dsimp only at hSw)
    go_simp
    try with_reducible rfl
  try simp only [Act.put, List.setIfInBounds_toArray, List.set_cons_zero, List.set_cons_succ]
  refine takeD 6 (some 15) (v := ?_) rfl rfl (by kernel_rfl) (by kernel_rfl) (by kernel_rfl) (fun _ _ _ h => h) (by rfl) ?_ (by assumption) ?_
  rotate_left
  · intro w hSw
    (try dsimp only at hSw)
    go_simp
    try with_reducible rfl
  try simp only [Act.put, List.setIfInBounds_toArray, List.set_cons_zero, List.set_cons_succ]
  refine takeD 7 (some 16) (v := ?_) rfl rfl (by kernel_rfl) (by kernel_rfl) (by kernel_rfl) (fun _ _ _ h => h) (by rfl) ?_ (by assumption) ?_
  rotate_left
  · intro w hSw
    (try dsimp only at hSw)
    go_simp
    try with_reducible rfl
  try simp only [Act.put, List.setIfInBounds_toArray, List.set_cons_zero, List.set_cons_succ]
  refine takeD 9 (some 18) (v := ?_) rfl rfl (by kernel_rfl) (by kernel_rfl) (by kernel_rfl) (fun _ _ _ h => h) (by rfl) ?_ (by assumption) ?_
  rotate_left
  · intro w hSw
    (try dsimp only at hSw)
    go_simp
    try with_reducible rfl
  try simp only [Act.put, List.setIfInBounds_toArray, List.set_cons_zero, List.set_cons_succ]
  refine takeD 10 (some 19) (v := ?_) rfl rfl (by kernel_rfl) (by kernel_rfl) (by kernel_rfl) (fun _ _ _ h => h) (by rfl) ?_ (by assumption) ?_
  rotate_left
  · intro w hSw
    (try dsimp only at hSw)
    go_simp
    try with_reducible rfl
  try simp only [Act.put, List.setIfInBounds_toArray, List.set_cons_zero, List.set_cons_succ]
  refine takeD 12 (some 21) (v := ?_) rfl rfl (by kernel_rfl) (by kernel_rfl) (by kernel_rfl) (fun _ _ _ h => h) (by rfl) ?_ (by assumption) ?_
  rotate_left
  · intro w hSw
    (try dsimp only at hSw)
    go_simp
    try with_reducible rfl
  try simp only [Act.put, List.setIfInBounds_toArray, List.set_cons_zero, List.set_cons_succ]
  refine takeD 13 (some 22) (v := ?_) rfl rfl (by kernel_rfl) (by kernel_rfl) (by kernel_rfl) (fun _ _ _ h => h) (by rfl) ?_ (by assumption) ?_
  rotate_left
  · intro w hSw
    (try dsimp only at hSw)
    go_simp
    try with_reducible rfl
  try simp only [Act.put, List.setIfInBounds_toArray, List.set_cons_zero, List.set_cons_succ]
  refine wpAnyH_ready (rs := [2]) (by kernel_rfl) (by simp) ?_
  refine AllReadyH.cons rfl (fun K hK => ?_) AllReadyH.nil
  rw [if_pos (by rfl)]
  go_simp
  go_at_call 38
  refine (rputs_any W.heap.size _ p.dev 1 (hdata p 0) 0 _ (by omega) (by decide) (HB0.out) (own_nil _ _) hHeld.size).mono ?_
  rintro e w1 ⟨v0, rfl, hO0, hk⟩
  go_wp2_with fail
  refine hK.out _ _ ?_ (fun hHeld2 => ?_)
  · first | exact hHeld.trans hk | (clear hK; have hz := hHeld.size; go_grown)
  clear hK K hHeld
  have hHeld := hHeld2
  clear hHeld2
  try clear hk
  try simp only [Act.put, List.setIfInBounds_toArray, List.set_cons_zero, List.set_cons_succ]
  refine wpAnyH_ready (rs := [5]) (by kernel_rfl) (by simp) ?_
  refine AllReadyH.cons rfl (fun K hK => ?_) AllReadyH.nil
  rw [if_pos (by rfl)]
  go_simp
  go_at_call 38
  refine (rputs_any W.heap.size _ p.chan 1 (hdata p 1) 1 _ (by omega) (by decide) (HB1.out) hO0 hHeld.size).mono ?_
  rintro e w1 ⟨v1, rfl, hO1, hk⟩
  go_wp2_with fail
  refine hK.out _ _ ?_ (fun hHeld2 => ?_)
  · first | exact hHeld.trans hk | (clear hK; have hz := hHeld.size; go_grown)
  clear hK K hHeld
  have hHeld := hHeld2
  clear hHeld2
  try clear hk
  try simp only [Act.put, List.setIfInBounds_toArray, List.set_cons_zero, List.set_cons_succ]
  refine wpAnyH_ready (rs := [8]) (by kernel_rfl) (by simp) ?_
  refine AllReadyH.cons rfl (fun K hK => ?_) AllReadyH.nil
  rw [if_pos (by rfl)]
  go_simp
  go_at_call 38
  refine (rputs_any W.heap.size _ p.boot 1 (hdata p 2) 2 _ (by omega) (by decide) (HB2.out) hO1 hHeld.size).mono ?_
  rintro e w1 ⟨v2, rfl, hO2, hk⟩
  go_wp2_with fail
  refine hK.out _ _ ?_ (fun hHeld2 => ?_)
  · first | exact hHeld.trans hk | (clear hK; have hz := hHeld.size; go_grown)
  clear hK K hHeld
  have hHeld := hHeld2
  clear hHeld2
  try clear hk
  try simp only [Act.put, List.setIfInBounds_toArray, List.set_cons_zero, List.set_cons_succ]
  refine wpAnyH_ready (rs := [11]) (by kernel_rfl) (by simp) ?_
  refine AllReadyH.cons rfl (fun K hK => ?_) AllReadyH.nil
  rw [if_pos (by rfl)]
  go_simp
  go_at_call 38
  refine (rputs_any W.heap.size _ p.seq 2 (hdata p 3) 3 _ (by omega) (by decide) (HB3.out) hO2 hHeld.size).mono ?_
  rintro e w1 ⟨v3, rfl, hO3, hk⟩
  go_wp2_with fail
  refine hK.out _ _ ?_ (fun hHeld2 => ?_)
  · first | exact hHeld.trans hk | (clear hK; have hz := hHeld.size; go_grown)
  clear hK K hHeld
  have hHeld := hHeld2
  clear hHeld2
  try clear hk
  try simp only [Act.put, List.setIfInBounds_toArray, List.set_cons_zero, List.set_cons_succ]
  refine wpAnyH_ready (rs := [14]) (by kernel_rfl) (by simp) ?_
  refine AllReadyH.cons rfl (fun K hK => ?_) AllReadyH.nil
  rw [if_pos (by rfl)]
  go_simp
  go_at_call 38
  refine (rputs_any W.heap.size _ p.stamp 5 (hdata p 4) 5 _ (by omega) (by decide) (HB4.out) hO3 hHeld.size).mono ?_
  rintro e w1 ⟨v4, rfl, hO4, hk⟩
  go_wp2_with fail
  refine hK.out _ _ ?_ (fun hHeld2 => ?_)
  · first | exact hHeld.trans hk | (clear hK; have hz := hHeld.size; go_grown)
  clear hK K hHeld
  have hHeld := hHeld2
  clear hHeld2
  try clear hk
  try simp only [Act.put, List.setIfInBounds_toArray, List.set_cons_zero, List.set_cons_succ]
  refine takeD 15 (some 4) (v := ?_) rfl rfl (by kernel_rfl) (by kernel_rfl) (by kernel_rfl) (fun _ _ _ h => h) (by rfl) ?_ (by assumption) ?_
  rotate_left
  · intro w hSw
    (try dsimp only at hSw)
    go_simp
    try with_reducible rfl
  try simp only [Act.put, List.setIfInBounds_toArray, List.set_cons_zero, List.set_cons_succ]
  refine wpAnyH_done (by kernel_rfl) ?_ _
  have hX : hdata p 4 ++ putB p.stamp (5 : Int).toNat = hdata p 5 := rfl
  rw [hX] at hO4
  have HO4 := Lib.hid hO4
  have HH4 := Lib.hid hHeld
  clear hO0 hO1 hO2 hO3 hO4 dS hHeld HB0 HB1 HB2 HB3 HB4 hX
  go_wp2_with fail
  go_loopw [4, 5] (fun b i wr => ∃ k : Nat, k ≤ p.vals.length ∧ i = .int .i64 k ∧ wr.ownsRow W.heap.size 5 1 b (10 + 2 * k) ((hdata p 5 ++ vdata (p.vals.take k)).map (.int .u8)) ∧ Below W.heap.size W wr) (fun _ i _ => p.vals.length - (intOf i).toNat)
  case atStart => exact ⟨0, by omega, rfl, by simpa [vdata] using HO4.out, HH4.out⟩
  case round =>
    obtain ⟨k, hk, rfl, hO, hbr⟩ := hrel
    have HOr := Lib.hid hO
    have hbw := hbW.trans (hbr.mono hbW.size)
    have cS : ∀ i, wr.cell? ⟨w.heap.size, i, none⟩ = (#[.int .i64 p.dev, .int .i64 p.chan, .int .i64 p.boot, .int .i64 p.seq, .int .i64 p.stamp, .slice A p.vals.length c] : Array Value)[i]? := fun i => by rw [hbr.cell (p := ⟨w.heap.size, i, none⟩) lS]; exact HS.out.cells i
    clear hO
    by_cases hlt : k < p.vals.length
    · obtain ⟨x, hx⟩ : ∃ x, p.vals[k]? = some x := ⟨_, List.getElem?_eq_getElem hlt⟩
      obtain ⟨ad, rfl, had, hcx⟩ := HC.out k x hx
      have hcx' : wr.cell? (ad.add k) = some (.int .i64 x) := by rw [hbw.cell (by rw [block_add]; exact had)]; exact hcx
      have HX := Lib.hid (show vdata (p.vals.take (k + 1)) = vdata (p.vals.take k) ++ putB (bre x) (2 : Int).toNat by rw [List.take_add_one, hx]; exact vdata_snoc _ _)
      clear hx hcx
      go_wp2_with fail
      refine (rbare_any _ _).mono ?_
      rintro e w3 ⟨rfl, rfl⟩
      go_wp2_with fail
      refine (rputs_any W.heap.size _ (bre x) 2 _ _ _ (by omega) (by decide) ⟨(bre_range x).1, (bre_range x).2⟩ HOr.out hbr.size).mono ?_
      rintro e w4 ⟨v4, rfl, hO5, hk5⟩
      clear cS hcx'
      go_wp2
      go_roundw
      case rel => exact ⟨k + 1, by omega, by go_num, by rw [HX.out, ← List.append_assoc]; exact hO5, hbr.trans hk5⟩
      case measure => simp [intOf]; omega
    · have he : k = p.vals.length := by omega
      subst he
      go_wp2
      go_ret2
      have h := Row.of_own HOr.out
      rw [List.take_length] at h
      exact ⟨_, rfl, ⟨h, data_range p⟩, hbw⟩

theorem rdata_no (v : Value) (p : Pk) (w : World) (h : PkV w v p) (hr : ¬ p.right) :
    Calls Try.prog 27 #[v] w fun e w' => e = .returned (.tuple #[.slice none 0 0, .bool false]) ∧ Below w.heap.size w w' := by
  have hPV := Lib.hid h
  obtain ⟨vs, rfl, hI⟩ := h
  have hd : decide p.right = false := decide_eq_false hr
  clear hI hr
  go_enter Try.func27, Try.ntmps27
  go_wp2_with fail
  refine (rright_any _ p _ (hPV.out.below ((Below.refl _ _).alloc (Nat.le_refl _) _))).mono ?_
  rintro e w1 ⟨rfl, hk⟩
  have hb1 : Below w.heap.size w w1 := (show Below w.heap.size w _ by go_grown).trans (hk.mono (by simp))
  rw [hd]
  go_wp2
  go_ret2
  exact ⟨rfl, hb1⟩
end Go.Proofs.Ytgklbmhihfmagaa
