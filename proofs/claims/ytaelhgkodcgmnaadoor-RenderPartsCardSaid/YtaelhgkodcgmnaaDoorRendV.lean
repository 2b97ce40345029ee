/- Layer 23: the document's Right (made by mk23v.py off XRendA). -/
import Derived.Test.YtaelhgkodcgmnaaDoorRendU
namespace Go.Proofs.YtaelhgkodcgmnaaDoor
open Go.ChangeShapes Go.WideShapes Go.ChangeAt Go.RowKit Go.Deep
open Go.Shelf
set_option linter.unusedVariables false
set_option linter.unusedSimpArgs false

set_option maxRecDepth 100000 in
set_option maxHeartbeats 4000000 in
theorem rright_any (v : Value) (t : Td) (w : World) (h : ToldV w v t) :
    Calls Tryd.prog 14 #[v] w fun e w' => e = .returned (.bool (decide (tdR t))) ∧ Below w.heap.size w w' := by
  obtain ⟨vc, vr, vh, rfl, h1, h2, h3⟩ := h
  obtain ⟨CA, cc, rfl⟩ := h1.1
  have hcap : t.cells.length ≤ 9223372036854775807 := Nat.le_trans h1.caps.2.1 h1.caps.2.2
  have HC := Lib.hid h1
  clear h1 h2 h3
  obtain ⟨r, hr⟩ : ∃ r, r = decide (tdR t) := ⟨_, rfl⟩
  rw [← hr]
  have HR := Lib.hid hr
  clear hr
  go_enter Tryd.func14, Tryd.ntmps14
  go_wp2_with fail
  go_loopw [3] (fun i wr => ∃ k : Nat, k ≤ t.cells.length ∧ i = .int .i64 k ∧ Below w.heap.size w wr ∧ Blk wr w.heap.size 25 #[.int .i64 t.tick, .slice CA t.cells.length cc, vr, vh] ∧ ∀ c ∈ t.cells.take k, clR c) (fun i _ => t.cells.length - (intOf i).toNat)
  case atStart => exact ⟨0, by omega, rfl, by go_grown, Blk.new _ _ _ _ rfl, by simp⟩
  case round =>
    obtain ⟨k, hk, rfl, hb, hq, ht⟩ := hrel
    have HB := Lib.hid hb
    have HQ := Lib.hid hq
    have HTk := Lib.hid ht
    have cQ := hq.cells
    have lQ := hq.lt
    have hbs := hb.size
    clear hb hq ht
    by_cases hlt : k < t.cells.length
    · obtain ⟨x, hx⟩ : ∃ x, t.cells[k]? = some x := ⟨_, List.getElem?_eq_getElem hlt⟩
      have HX := Lib.hid hx
      have HTK2 := Lib.hid (show t.cells.take (k + 1) = t.cells.take k ++ [x] by rw [List.take_add_one, hx]; rfl)
      obtain ⟨ad, rfl, hab, c0, c1, c2⟩ := HC.out.atw hx
      have k0 := (HB.out.cell hab).trans c0
      have k1 := (HB.out.cell (p := ⟨(ad.add (k * 3)).block, (ad.add (k * 3)).off + 1, none⟩) hab).trans c1
      have k2 := (HB.out.cell (p := ⟨(ad.add (k * 3)).block, (ad.add (k * 3)).off + 2, none⟩) hab).trans c2
      clear c0 c1 c2 hx
      obtain ⟨kd, xv, xf⟩ := x
      dsimp only at k0 k1 k2
      have hkl : (k : Int) < (t.cells.length : Int) := by omega
      by_cases hcr : clR ⟨kd, xv, xf⟩
      · have hcr2 := hcr
        obtain ⟨⟨ha, hb4⟩, hc⟩ := hcr2
        dsimp only at ha hb4 hc
        have HCR := Lib.hid hcr
        clear hcr
        by_cases h1 : kd = 1
        · subst h1
          clear hc ha hb4
          go_wp2
          go_roundw
          case rel => exact ⟨k + 1, by omega, by go_num, HB.out.trans (by go_grown), HQ.out.al _, fun c hc => by
            rw [HTK2.out] at hc
            rcases List.mem_append.1 hc with h | h
            · exact HTk.out c h
            · rw [List.mem_singleton] at h; subst h; exact HCR.out⟩
          case measure => simp [intOf]; omega
        · have hv : xv = 0 := by omega
          have hf : xf = 0 := by omega
          subst hv hf
          have g1 : (kd != 1) = true := by simpa using h1
          have g2 : ¬ kd < 1 := by omega
          have g3 : ¬ 4 < kd := by omega
          clear hc h1 ha hb4
          go_wp2
          go_roundw
          case rel => exact ⟨k + 1, by omega, by go_num, HB.out.trans (by go_grown), HQ.out.al _, fun c hc => by
            rw [HTK2.out] at hc
            rcases List.mem_append.1 hc with h | h
            · exact HTk.out c h
            · rw [List.mem_singleton] at h; subst h; exact HCR.out⟩
          case measure => simp [intOf]; omega
      · have hrf : r = false := by
          rw [HR.out]
          exact decide_eq_false (fun h => hcr (h.1 _ (List.mem_of_getElem? HX.out)))
        have HRF := Lib.hid hrf
        clear hrf
        rcases clR_cases hcr with h | h | ⟨ha, hb4, h1, h2⟩ | ⟨ha, hb4, h1, h2, h3⟩
        · clear hcr
          go_wp2
          go_ret
          exact ⟨by simp [HRF.out], HB.out.trans (by go_grown)⟩
        · clear hcr
          go_wp2
          go_ret
          exact ⟨by simp [HRF.out], HB.out.trans (by go_grown)⟩
        · have g1 : (kd != 1) = true := by simpa using h1
          have g2 : ¬ kd < 1 := by omega
          have g3 : ¬ 4 < kd := by omega
          have g4 : (xv != 0) = true := by simpa using h2
          clear hcr h1 h2 ha hb4
          go_wp2
          go_ret
          exact ⟨by simp [HRF.out], HB.out.trans (by go_grown)⟩
        · have g1 : (kd != 1) = true := by simpa using h1
          have g2 : ¬ kd < 1 := by omega
          have g3 : ¬ 4 < kd := by omega
          have g4 : (xf != 0) = true := by simpa using h3
          subst h2
          clear hcr h1 h3 ha hb4
          go_wp2
          go_ret
          exact ⟨by simp [HRF.out], HB.out.trans (by go_grown)⟩
    · obtain rfl : k = t.cells.length := by omega
      have hrt : r = decide (0 ≤ t.tick) := by
        rw [HR.out]
        have := HTk.out
        rw [List.take_length] at this
        by_cases h : 0 ≤ t.tick
        · rw [decide_eq_true h]
          exact decide_eq_true ⟨this, h⟩
        · rw [decide_eq_false h]
          exact decide_eq_false (fun h2 => h h2.2)
      have HRT := Lib.hid hrt
      clear hrt
      go_wp2
      go_ret
      exact ⟨by simp [HRT.out], HB.out⟩
end Go.Proofs.YtaelhgkodcgmnaaDoor
