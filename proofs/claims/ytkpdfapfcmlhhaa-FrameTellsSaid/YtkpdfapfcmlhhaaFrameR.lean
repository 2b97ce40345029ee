/- Layer 3: the document's frames. -/
import Derived.Test.YtkpdfapfcmlhhaaFrameI
import Derived.Test.YtkpdfapfcmlhhaaCrcD
import Derived.Test.YtkpdfapfcmlhhaaBitsR
namespace Go.Proofs.Ytkpdfapfcmlhhaa
open Go.ChangeShapes Go.WideShapes Go.ChangeAt Go.RowKit
set_option linter.unusedVariables false
set_option linter.unusedSimpArgs false

theorem Bytes.sub' {w : World} {ad : Addr} {c : Nat} {bs : List Int} (h : Bytes w (.slice (some ad) bs.length c) bs) (i j : Nat) (xs : List Int) (hx : (bs.drop i).take (j - i) = xs) (hij : i ≤ j) (hj : j ≤ bs.length) (hc : bs.length ≤ c) (hcm : c ≤ 9223372036854775807) : Bytes w (.slice (some (ad.add i)) (j - i) (c - i)) xs := by
  rw [← hx]
  exact Bytes.sub h i (j - i) (c - i) (by omega) (by omega) (by unfold maxLen; omega)

theorem rframe_no (v : Value) (d : List Int) (w : World) (h : Bytes w v d) (hl : 255 < d.length) :
    Calls Try.prog 11 #[v] w fun e w' => e = .returned (.tuple #[.slice none 0 0, .bool false]) ∧ w = w' := by
  obtain ⟨A, c, rfl, hc, hcm, _⟩ := h.src
  clear h
  go_enter Try.func11, Try.ntmps11
  go_wp2
  go_ret2
  exact ⟨rfl, rfl⟩

set_option maxHeartbeats 4000000 in
theorem rframe_yes (v : Value) (d : List Int) (w : World) (h : Bytes w v d) (hl : d.length ≤ 255) :
    Calls Try.prog 11 #[v] w fun e w' => ∃ u, e = .returned (.tuple #[u, .bool true]) ∧ Own8 w' u (framed d) ∧ Below w.heap.size w w' := by
  have H := Lib.hid h
  obtain ⟨A, c, rfl, hc, hcm, hs⟩ := h.src
  clear h hs
  have hW : (d.length : Int) % 256 = (d.length : Int) := by omega
  have hln : U8s [(d.length : Int)] := U8s.cons (by omega) (by unfold U8s; simp)
  have HLN := Lib.hid hln
  have hbody : U8s ((d.length : Int) :: d) := U8s.cons (by omega) H.out.2
  have HBODY := Lib.hid hbody
  have hs := sum_lt32 (toN ((d.length : Int) :: d)) (toN_lt hbody)
  have HE := Lib.hid (show putB ((sumN 0 (toN ((d.length : Int) :: d)) : Nat) : Int) (Int.toNat 4) = sum4 ((d.length : Int) :: d) from rfl)
  clear hln hbody
  go_enter Try.func11, Try.ntmps11
  go_wp2_with (at_builtin; refine wpList_apO rfl (.tmp 13) (.tmp 14) rfl w.heap.size _ [(d.length : Int)] rfl (own_lit (heap_at _ _ _ rfl) (Nat.le_refl _) rfl (show (1 : Nat) ≤ maxLen by decide)) _ d rfl (H.out.below (by go_grown)) ((d.length : Int) :: d) rfl (by simp; omega) (by simp) w w.heap.size (Nat.le_refl _) (by go_grown) ?_)
  intro v1 w1 hO1 hb1
  have HO1 := Lib.hid (hO1.out.own HBODY.out)
  clear hO1
  go_wp2_with fail
  refine (rsum_any _ (toN ((d.length : Int) :: d)) _ (NB.of_bytes HO1.out.bytes)).mono ?_
  rintro e w2 ⟨rfl, rfl⟩
  go_wp2_with fail
  refine (rput_yes _ 4 _ (by omega) (by omega) (by omega) (by simp; omega)).mono ?_
  rintro e w2 ⟨u, rfl, hu, hk⟩
  rw [HE.out] at hu
  have HU := Lib.hid hu
  have hb2 := Btrans hb1 hk
  have HO2 := Lib.hid (HO1.out.below hk)
  obtain ⟨Bu, cu, rfl, _, _, q1⟩ := hu.src
  have hsl := sum4_len ((d.length : Int) :: d)
  have HSL := Lib.hid hsl
  clear hu hk hb1 HO1 q1 hsl
  go_wp2_with (at_builtin; refine wpList_apO rfl (.tmp 22) (.tmp 23) rfl w2.heap.size _ [165] rfl (own_lit (heap_at _ _ _ rfl) (Nat.le_refl _) rfl (show (1 : Nat) ≤ maxLen by decide)) _ ((d.length : Int) :: d) rfl (HO2.out.bytes.below (by go_grown)) (165 :: (d.length : Int) :: d) rfl (by simp; omega) (by simp) w2 w2.heap.size (Nat.le_refl _) (by go_grown) ?_)
  intro v3 w3 hO3 hb3
  have HU3 := Lib.hid (HU.out.below hb3)
  go_wp2_with (at_builtin; refine wpList_apO rfl (.tmp 24) (.tmp 25) rfl w2.heap.size _ (165 :: (d.length : Int) :: d) rfl hO3.out _ (sum4 ((d.length : Int) :: d)) rfl HU3.out (framed d) rfl (by rw [framed_len]; omega) hb3.size w2 w2.heap.size (Nat.le_refl _) hb3 ?_)
  intro v4 w4 hO4 hb4
  have HO4 := Lib.hid (hO4.out.own (framed_range H.out.2 hl))
  clear hO3 hO4 hb3
  go_wp2
  go_ret2
  exact ⟨_, rfl, HO4.out, Btrans hb2 hb4⟩
end Go.Proofs.Ytkpdfapfcmlhhaa
