/- Layer 3: the document's Split. -/
import Derived.Test.YtkpdfapfcmlhhaaFrameR
namespace Go.Proofs.Ytkpdfapfcmlhhaa
open Go.ChangeShapes Go.WideShapes Go.ChangeAt Go.RowKit
set_option linter.unusedVariables false
set_option linter.unusedSimpArgs false

set_option maxRecDepth 100000 in
set_option maxHeartbeats 8000000 in
theorem rsplit_any (v : Value) (bs : List Int) (w : World) (h : Bytes w v bs) (hl : bs.length ≤ 100000) :
    Calls Try.prog 13 #[v] w fun e w' => ∃ u r, e = .returned (.tuple #[u, r, .int .i64 ((split bs).bad : Int)]) ∧ Frows w' w.heap.size u (split bs).fs ∧ Own8 w' r (split bs).rest ∧ Below w.heap.size w w' := by
  have H := Lib.hid h
  obtain ⟨A, c, rfl, hc, hcm, q1⟩ := h.src
  have Q1 := Lib.hid q1
  clear h q1
  go_enter Try.func13, Try.ntmps13
  go_wp2_with fail
  go_loopw [5, 6, 7] (fun ov pv iv wr => ∃ (k p : Nat) (F : List (List Int)), k ≤ bs.length ∧ p + F.length ≤ k ∧ pv = .int .i64 (p : Int) ∧ iv = .int .i64 (k : Int) ∧ Frows wr w.heap.size ov F ∧ split bs = (split (bs.drop k)).put F p ∧ Below w.heap.size w wr)
    (fun _ _ iv _ => bs.length - (intOf iv).toNat)
  case atStart => exact ⟨0, 0, [], Nat.zero_le _, by simp, rfl, rfl, Frows.nil_, by rw [List.drop_zero, Sp.put_nil], Below.refl _ _⟩
  case round =>
    obtain ⟨k, p, F, hk, hpF, rfl, rfl, hF, hsp, hb⟩ := hrel
    have HF := Lib.hid hF
    have HSP := Lib.hid hsp
    have HB := Lib.hid hb
    have hbz := hb.size
    clear hF hsp hb
    by_cases hlt : k < bs.length
    rotate_left
    · have he : k = bs.length := by omega
      subst he
      have HSPE := Lib.hid (show split bs = ⟨F, [], p⟩ by rw [HSP.out, List.drop_length, split_nil]; simp [Sp.put])
      go_wp2
      go_ret3
      rw [HSPE.out]
      exact ⟨_, _, rfl, HF.out, .inr ⟨rfl, rfl⟩, HB.out⟩
    obtain ⟨x, hx⟩ : ∃ x, bs[k]? = some x := ⟨_, List.getElem?_eq_getElem hlt⟩
    obtain ⟨r, hr⟩ : ∃ r, bs.drop k = x :: r := ⟨_, by rw [List.drop_eq_getElem_cons hlt, ← (List.getElem?_eq_some_iff.1 hx).2]⟩
    have hr1 : r = bs.drop (k + 1) := by rw [show bs.drop (k + 1) = (bs.drop k).drop 1 by rw [List.drop_drop], hr]; rfl
    obtain ⟨ad, e0, had, hcell⟩ := Q1.out (by omega)
    subst e0
    have hcx : wr.cell? (ad.add k) = some (.int .u8 x) := (HB.out.cell (by rw [block_add]; exact had)).trans (hcell k _ (by rw [List.getElem?_map, hx]; rfl))
    have HR := Lib.hid hr
    have HR1 := Lib.hid hr1
    have HCE := Lib.hid hcell
    have HBw := Lib.hid (H.out.below HB.out)
    clear hr hr1 hcell
    by_cases hxm : x = 165
    rotate_left
    · have gx : (x != 165) = true := by simp [hxm]
      have HXM := Lib.hid hxm
      clear hxm hx
      go_wp2
      go_roundw
      case rel => exact ⟨k + 1, p + 1, F, by omega, by omega, by go_num, by go_num, HF.out, by rw [HSP.out, HR.out, split_pass r HXM.out, Sp.put_put, HR1.out, List.append_nil], HB.out⟩
      case measure => simp [intOf]; omega
    have gx : (x != 165) = false := by simp [hxm]
    have HD : Hid (bs.drop k = 165 :: r) := Lib.hid (by rw [HR.out, hxm])
    obtain ⟨m, hm⟩ : ∃ m : Nat, m = bs.length - k := ⟨_, rfl⟩
    have hWm : (bs.length : Int) - (k : Int) = (m : Int) := by omega
    have hck : ¬ c = k := by omega
    have HT := Lib.hid (Bytes.tail HBw.out k hk hc (by unfold maxLen; omega) hck)
    have hbl : (bs.drop k).length = m := by rw [List.length_drop, hm]
    have hw1 : wholeB (bs.drop k) = decide (2 ≤ m ∧ cnt (bs.drop k) + 6 ≤ m) := by unfold wholeB; rw [hbl]
    have HW1 := Lib.hid hw1
    have HM := Lib.hid hm
    clear hxm hx hw1 hbl hm
    by_cases h2 : m < 2
    · have HSPE := Lib.hid (show split bs = ⟨F, bs.drop k, p⟩ by rw [HSP.out, HD.out, split_rest (by rw [← HD.out, HW1.out]; exact decide_eq_false (by omega))]; simp [Sp.put])
      have g2 : decide ((m : Int) < 2) = true := decide_eq_true (by omega)
      go_wp2_with (at_builtin; refine wpList_apO rfl (.tmp 44) (.tmp 47) rfl wr.heap.size _ [] rfl (ownB_empty _ _ _ (Nat.le_refl _) rfl) _ (bs.drop k) rfl (HT.out.below (by go_grown)) (bs.drop k) rfl (by rw [List.length_drop]; omega) (by simp) wr wr.heap.size (Nat.le_refl _) (by go_grown) ?_)
      intro v5 w5 hO5 hb5
      have hbr := hb5
      have HO5 := Lib.hid (hO5.out.own (U8s.drop (l := bs) H.out.2 k))
      go_wp2
      go_ret3
      rw [HSPE.out]
      exact ⟨_, _, rfl, HF.out.below hbr, HO5.out, Btrans HB.out hb5⟩
    obtain ⟨y, hy⟩ : ∃ y, bs[k + 1]? = some y := ⟨_, List.getElem?_eq_getElem (by have := HM.out; omega)⟩
    have hyr := H.out.2 y (List.mem_of_getElem? hy)
    obtain ⟨n, rfl⟩ : ∃ n : Nat, y = (n : Int) := ⟨y.toNat, by omega⟩
    have hcy : wr.cell? (ad.add (k + 1)) = some (.int .u8 (n : Int)) := (HB.out.cell (by rw [block_add]; exact had)).trans (HCE.out (k + 1) _ (by rw [List.getElem?_map, hy]; rfl))
    have hcn : cnt (bs.drop k) = n := by rw [cnt_drop bs k _ hy, Int.toNat_natCast]
    have HCN := Lib.hid hcn
    obtain ⟨k1, hk1⟩ : ∃ k1, k1 = k + 1 := ⟨_, rfl⟩
    have hWk : (k : Int) + 1 = (k1 : Int) := by omega
    have hk1l : (k1 : Int) < (bs.length : Int) := by have := HM.out; omega
    rw [← hk1] at hcy
    have g2 : decide ((m : Int) < 2) = false := decide_eq_false (by omega)
    have HK1 := Lib.hid hk1
    clear hy hcn hk1
    by_cases h6 : m < n + 6
    · have HSPE := Lib.hid (show split bs = ⟨F, bs.drop k, p⟩ by rw [HSP.out, HD.out, split_rest (by rw [← HD.out, HW1.out, HCN.out]; exact decide_eq_false (by omega))]; simp [Sp.put])
      have g6 : decide ((m : Int) < (n : Int) + 6) = true := decide_eq_true (by omega)
      go_wp2_with (at_builtin; refine wpList_apO rfl (.tmp 44) (.tmp 47) rfl wr.heap.size _ [] rfl (ownB_empty _ _ _ (Nat.le_refl _) rfl) _ (bs.drop k) rfl (HT.out.below (by go_grown)) (bs.drop k) rfl (by rw [List.length_drop]; omega) (by simp) wr wr.heap.size (Nat.le_refl _) (by go_grown) ?_)
      intro v5 w5 hO5 hb5
      have hbr := hb5
      have HO5 := Lib.hid (hO5.out.own (U8s.drop (l := bs) H.out.2 k))
      go_wp2
      go_ret3
      rw [HSPE.out]
      exact ⟨_, _, rfl, HF.out.below hbr, HO5.out, Btrans HB.out hb5⟩
    have g6 : decide ((m : Int) < (n : Int) + 6) = false := decide_eq_false (by omega)
    have HWH : Hid (wholeB (bs.drop k) = true) := Lib.hid (by rw [HW1.out, HCN.out]; exact decide_eq_true (by omega))
    have hnm : n + 6 ≤ m := by omega
    have hmk : k + m = bs.length := by have := HM.out; omega
    have e4 : (bs.drop (k + 2 + n)).take 4 = ((bs.drop k).drop (2 + cnt (bs.drop k))).take 4 := by rw [HCN.out, List.drop_drop]; congr 2; omega
    have e1 : (bs.drop (k + 1)).take (1 + n) = ((bs.drop k).drop 1).take (1 + cnt (bs.drop k)) := by rw [HCN.out, List.drop_drop]
    have ed : (bs.drop (k + 2)).take n = dataB (bs.drop k) := by unfold dataB; rw [HCN.out, List.drop_drop]
    have B4 : Hid (∀ q c', q = 4 → c' = c - (k + 2 + n) → Bytes wr (.slice (some (ad.add (k + 2 + n))) q c') ((bs.drop (k + 2 + n)).take 4)) := Lib.hid (fun q c' hq hc' => by
      subst hq hc'
      exact Bytes.sub HBw.out (k + 2 + n) 4 _ (by omega) (by omega) (by unfold maxLen; omega))
    have B1 : Hid (∀ q c', q = 1 + n → c' = c - k1 → Bytes wr (.slice (some (ad.add k1)) q c') ((bs.drop (k + 1)).take (1 + n))) := Lib.hid (fun q c' hq hc' => by
      subst hq hc'
      rw [HK1.out]
      exact Bytes.sub HBw.out (k + 1) (1 + n) _ (by omega) (by omega) (by unfold maxLen; omega))
    have BD : Hid (∀ q c', q = n → c' = c - (k + 2) → Bytes wr (.slice (some (ad.add (k + 2))) q c') (dataB (bs.drop k))) := Lib.hid (fun q c' hq hc' => by
      subst hq hc'
      rw [← ed]
      exact Bytes.sub HBw.out (k + 2) q _ (by omega) (by omega) (by unfold maxLen; omega))
    have hl4 : ((bs.drop (k + 2 + n)).take 4).length = 4 := by rw [List.length_take, List.length_drop]; omega
    have hu4 : U8s ((bs.drop (k + 2 + n)).take 4) := U8s.take (U8s.drop (l := bs) H.out.2 _) _
    have hu1 : U8s ((bs.drop (k + 1)).take (1 + n)) := U8s.take (U8s.drop (l := bs) H.out.2 _) _
    have hdl : (dataB (bs.drop k)).length = n := by rw [← ed, List.length_take, List.length_drop]; omega
    have hdu : U8s (dataB (bs.drop k)) := by rw [← ed]; exact U8s.take (U8s.drop (l := bs) H.out.2 _) _
    have hiff := num4_sum4 hu1 hu4 hl4
    have hrb : rightB (bs.drop k) = decide ((bs.drop (k + 2 + n)).take 4 = sum4 ((bs.drop (k + 1)).take (1 + n))) := by unfold rightB; rw [e4, e1]
    have HIFF := Lib.hid hiff
    have HRBE := Lib.hid hrb
    have HL4 := Lib.hid hl4
    have HDL := Lib.hid hdl
    have HDU := Lib.hid hdu
    clear e4 e1 ed hl4 hu4 hu1 hiff hrb hdl hdu
    generalize (bs.drop (k + 2 + n)).take 4 = x4 at *
    generalize (bs.drop (k + 1)).take (1 + n) = x1 at *
    go_wp2_with fail
    refine (rget_yes _ x4 _ (B4.out _ _ (by omega) rfl) (by rw [HL4.out]; decide) (by rw [HL4.out]; decide)).mono ?_
    rintro e w5 ⟨rfl, rfl⟩
    go_wp2_with fail
    refine (rsum_any _ (toN x1) _ (NB.of_bytes (B1.out _ _ (by have := HK1.out; omega) rfl))).mono ?_
    rintro e w5 ⟨rfl, rfl⟩
    rcases hrr : rightB (bs.drop k) with _ | _
    · have hne : ¬ (((sumN 0 (toN x1) : Nat) : Int) = num x4) := fun h => by
        have h2 := HIFF.out.1 h
        rw [HRBE.out] at hrr
        exact (of_decide_eq_false hrr) h2
      have gs : (((sumN 0 (toN x1) : Nat) : Int) == num x4) = false := beq_false_of_ne hne
      have HRR := Lib.hid hrr
      clear hne hrr
      go_wp2
      go_roundw
      case rel => exact ⟨k + 1, p + 1, F, by omega, by omega, by go_num, by go_num, HF.out, by rw [HSP.out, HD.out, split_bad (by rw [← HD.out]; exact HWH.out) (by rw [← HD.out]; exact HRR.out), Sp.put_put, HR1.out, List.append_nil], HB.out⟩
      case measure => simp [intOf]; omega
    · have heq : ((sumN 0 (toN x1) : Nat) : Int) = num x4 := by
        rw [HRBE.out] at hrr
        exact HIFF.out.2 (of_decide_eq_true hrr)
      have gs : (((sumN 0 (toN x1) : Nat) : Int) == num x4) = true := beq_iff_eq.2 heq
      have HRR := Lib.hid hrr
      clear heq hrr
      go_wp2_with (at_builtin; refine wpList_apO rfl (.tmp 82) (.tmp 90) rfl wr.heap.size _ [] rfl (ownB_empty _ _ _ (Nat.le_refl _) rfl) _ (dataB (bs.drop k)) rfl ((BD.out _ _ (by omega) rfl).below (by go_grown)) (dataB (bs.drop k)) rfl (by rw [HDL.out]; omega) (by simp) wr wr.heap.size (Nat.le_refl _) (by go_grown) ?_)
      intro v5 w5 hO5 hb5
      have HO5 := Lib.hid (hO5.out.own HDU.out)
      have HF5 := Lib.hid (HF.out.below hb5)
      have hbw5 := Btrans HB.out hb5
      have hz5 := hbw5.size
      obtain ⟨A5, c5, rfl, _, _, q5⟩ := HO5.out.bytes.src
      clear q5
      obtain ⟨vs, hown, hvs⟩ := HF5.out
      have HO := Lib.hid hown
      have HVS := Lib.hid hvs
      clear hO5 hown hvs
      go_wp2_with (at_builtin; refine wpList_app elR rfl (.tmp 81) (.tmp 92) rfl w.heap.size _ F.length vs rfl (own_below HO.out ((Below.refl _ _).alloc (Nat.le_refl _) _)) _ [.slice A5 (dataB (bs.drop k)).length c5] rfl (Row.of_block (heap_at _ _ _ rfl) rfl rfl (Nat.le_refl _) (show (1 : Nat) ≤ maxLen by decide)) (by simp [Value.oneCell']) ?_ ?_ ?_ ?_)
      case refine_1 => simp; unfold maxLen; omega
      case refine_2 => simp; omega
      case refine_3 => simp; omega
      intro v6 w6 hown6 hg6 _
      have HF6 : Hid (Frows w6 w.heap.size v6 (F ++ [dataB (bs.drop k)])) := Lib.hid (Frows.app (G := [dataB (bs.drop k)]) (us := [.slice A5 (dataB (bs.drop k)).length c5]) (own_below HO.out ((Below.refl _ _).alloc (Nat.le_refl _) _))
        ⟨HVS.out.1, fun i f hi => by obtain ⟨u, hu, ho⟩ := HVS.out.2 i f hi; exact ⟨u, hu, ho.below ((Below.refl _ _).alloc (Nat.le_refl _) _)⟩⟩
        ⟨rfl, fun i f hi => by
          cases i with
          | zero => simp at hi; subst hi; exact ⟨_, rfl, HO5.out.below ((Below.refl _ _).alloc (Nat.le_refl _) _)⟩
          | succ i => simp at hi⟩ hown6 hg6)
      have HB6 := Lib.hid (below_app (hbw5.alloc hz5 _) (by simp; omega) (own_below HO.out ((Below.refl _ _).alloc (Nat.le_refl _) _)) hg6 (Nat.le_refl _))
      have e3 : split (bs.drop k) = (split (bs.drop (k + n + 6))).put [dataB (bs.drop k)] 0 := by
        have h := split_frame (r := r) (by rw [← HD.out]; exact HWH.out) (by rw [← HD.out]; exact HRR.out)
        rw [← HD.out, HCN.out, List.drop_drop, ← Nat.add_assoc] at h
        exact h
      have HE3 := Lib.hid e3
      clear hown6 hg6 e3 hb5 hbw5
      go_wp2
      go_roundw
      case rel => exact ⟨k + n + 6, p, F ++ [dataB (bs.drop k)], by omega, by simp; omega, rfl, by go_num, HF6.out, by rw [HSP.out, HE3.out, Sp.put_put, Nat.add_zero], HB6.out⟩
      case measure => simp [intOf]; omega
end Go.Proofs.Ytkpdfapfcmlhhaa
