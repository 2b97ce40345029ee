/- Layer 3: each byte counts. -/
import Derived.Test.YtkpdfapfcmlhhaaFrameI
namespace Go.Proofs.Ytkpdfapfcmlhhaa
open Go.ChangeShapes Go.WideShapes Go.ChangeAt Go.RowKit
set_option linter.unusedVariables false
set_option linter.unusedSimpArgs false

theorem flen_take {F : List (List Int)} {k : Nat} {f : List Int} (h : F[k]? = some f) : flen (F.take (k + 1)) = flen (F.take k) + (f.length + 6) := by
  rw [List.take_add_one, h]
  exact flen_snoc _ _
theorem flen_take_le (F : List (List Int)) (k : Nat) : flen (F.take k) ≤ flen F := by
  have h : flen F = flen (F.take k) + flen (F.drop k) := by
    conv => lhs; rw [← List.take_append_drop k F]
    unfold flen
    rw [List.map_append, List.sum_append]
  omega

set_option maxRecDepth 100000 in
set_option maxHeartbeats 8000000 in
theorem walk_FrameCount (va : Value) (za : List Int) (w : World) (h0 : Ints .u8 w va za) :
    Calls Try.prog 6 #[va] w fun e w' => e = .returned (.bool true) ∧ Below w.heap.size w w' := by
  have HA0 := Lib.hid h0.bytes
  obtain ⟨A, ca, rfl, hca, hcma, q1⟩ := h0.bytes.src
  have Q1 := Lib.hid q1
  clear h0 q1
  go_enter Try.func6, Try.ntmps6
  go_wp2_with fail
  refine (head_any _).mono ?_
  rintro e w1 ⟨rfl, hb1⟩
  by_cases ha : 1500 < za.length
  · go_wp2
    go_ret
    exact ⟨rfl, hb1⟩
  have HA1 := Lib.hid (HA0.out.below hb1)
  go_wp2_with fail
  refine (split_any _ za _ HA1.out (by omega)).mono ?_
  rintro e w2 ⟨vf, vr, rfl, hfr, hrb, hk⟩
  have hb2 := Btrans hb1 hk
  have HA2 := Lib.hid (HA0.out.below hb2)
  obtain ⟨hcount, ⟨pre, hpre⟩, hrest⟩ := split_count za.length za (Nat.le_refl _)
  obtain ⟨R2, c2, rfl, hc2, hcm2, q2⟩ := hrb.src
  have Q2 := Lib.hid q2
  obtain ⟨R3, c3, rfl, hc3, hcm3, q3⟩ := hfr.rows.src
  have Q3 := Lib.hid q3
  have HRB := Lib.hid hrb
  have HPRE := Lib.hid hpre
  have HREST := Lib.hid hrest
  clear q2 q3 hfr hrb hpre hrest HA1 hk hb1
  generalize (split za).fs = F at *
  generalize (split za).rest = R at *
  generalize (split za).bad = p at *
  have hFle : F.length ≤ flen F := by
    clear hcount Q3 hc3
    induction F with
    | nil => exact Nat.zero_le _
    | cons f F ih => simp [flen] at *; omega
  go_wp2_with fail
  go_loop [7, 8] (fun n i => ∃ k : Nat, k ≤ F.length ∧ i = .int .i64 k ∧ n = .int .i64 ((R.length + p + flen (F.take k) : Nat) : Int)) (fun _ i => F.length - (intOf i).toNat)
  case atStart => exact ⟨0, Nat.zero_le _, rfl, by simp [flen]⟩
  case round =>
    obtain ⟨k, hk, rfl, rfl⟩ := hrel
    have hle := flen_take_le F k
    by_cases hlt : k < F.length
    · obtain ⟨f, hf⟩ : ∃ f, F[k]? = some f := ⟨_, List.getElem?_eq_getElem hlt⟩
      obtain ⟨ad, u, rfl, had, hcu, hbu⟩ := Q3.out k f hf
      obtain ⟨Bf, cf, rfl, hcf, hcmf, q4⟩ := hbu.src
      have HS := Lib.hid (flen_take hf)
      have hle2 := flen_take_le F (k + 1)
      rw [HS.out] at hle2
      clear hf hbu q4
      generalize flen (F.take k) = m at *
      go_wp2
      go_round
      case rel => exact ⟨k + 1, by omega, by go_num, by rw [HS.out]; go_num⟩
      case measure => simp [intOf]; omega
    · have he : k = F.length := by omega
      subst he
      rw [List.take_length]
      have htot : ((R.length + p + flen F : Nat) : Int) = (za.length : Int) := by omega
      rw [htot]
      have hp0 : decide ((p : Int) < 0) = false := decide_eq_false (by omega)
      by_cases hR : R.length = 0
      · have gR : ((R.length : Int) == 0) = true := by simp [hR]
        have HRL := Lib.hid hR
        clear hR
        go_wp2
        go_ret
        exact ⟨by first | rfl | simp, hb2⟩
      have gR : ((R.length : Int) == 0) = false := beq_false_of_ne (by omega)
      obtain ⟨r, hr, hw⟩ := HREST.out.resolve_left (fun h => hR (by rw [h]; rfl))
      have hnw : ¬ (2 ≤ R.length ∧ cnt R + 6 ≤ R.length) := of_decide_eq_false (by rw [← hr] at hw; exact hw)
      obtain ⟨ad2, e2, had2, hcell2⟩ := Q2.out (by omega)
      subst e2
      have hx0 : w2.cell? (ad2.add 0) = some (.int .u8 165) := hcell2 0 _ (by rw [hr]; rfl)
      have hx0' : w2.cell? ad2 = some (.int .u8 165) := by simpa [Addr.add] using hx0
      obtain ⟨ada, ea, hada, hcella⟩ := Q1.out (by omega)
      subst ea
      obtain ⟨J, hJ⟩ : ∃ J, J = za.length - R.length := ⟨_, rfl⟩
      have hW : IntKind.i64.wrap ((za.length : Int) - (R.length : Int)) = (J : Int) := by rw [IntWalk.i64_in _ (by omega)]; omega
      have hJ1 : (J : Int) ≤ (za.length : Int) := by omega
      have hJ0 : (0 : Int) ≤ (J : Int) := by omega
      have hJn : ¬ ca = J := by omega
      have hdrop : za.drop J = R := by
        have h1 : J = pre.length := by
          have h2 : za.length = pre.length + R.length := by rw [← List.length_append]; exact congrArg List.length HPRE.out
          omega
        rw [h1]
        conv => lhs; rw [HPRE.out]
        exact List.drop_left
      have ht := Bytes.tail HA2.out J (by omega) hca (by unfold maxLen; omega) hJn
      rw [hdrop] at ht
      have hcv1 : ∀ n, (convert 22 9 (.slice (some (ada.add J)) (za.length - J) (ca - J))).run Try.prog (w2.drewN n) = .ok (.string (bstr R)) (w2.drewN n) := fun n =>
        run_conv (P := Try.prog) (dst := 9) Try.underlying22 Try.underlying5 Try.underlying9 (ht.drewN n)
      have hcv2 : ∀ n, (convert 22 9 (.slice (some ad2) R.length c2)).run Try.prog (w2.drewN n) = .ok (.string (bstr R)) (w2.drewN n) := fun n =>
        run_conv (P := Try.prog) (dst := 9) Try.underlying22 Try.underlying5 Try.underlying9 (HRB.out.drewN n)
      have hR0 : (0 : Int) < (R.length : Int) := by omega
      have HNW := Lib.hid hnw
      have HR := Lib.hid hr
      have HCE := Lib.hid hcell2
      clear ht hdrop hJ hx0 hcell2 hcella hr hw hnw htot
      by_cases hR1 : R.length = 1
      · have g1 : ((R.length : Int) == 1) = true := by rw [hR1]; rfl
        have HR1 := Lib.hid hR1
        clear hR1
        go_wp2_with fail
        go_quiet (fail)
        go_wp2
        go_ret
        exact ⟨by first | rfl | simp, Bdrew hb2 _⟩
      · have g1 : ((R.length : Int) == 1) = false := beq_false_of_ne (by omega)
        obtain ⟨y, hy⟩ : ∃ y, R[1]? = some y := ⟨_, List.getElem?_eq_getElem (by omega)⟩
        have hyr := HRB.out.2 y (List.mem_of_getElem? hy)
        obtain ⟨yn, rfl⟩ : ∃ yn : Nat, y = (yn : Int) := ⟨y.toNat, by omega⟩
        have hx1 : w2.cell? (ad2.add 1) = some (.int .u8 (yn : Int)) := HCE.out 1 _ (by rw [List.getElem?_map, hy]; rfl)
        have HX1 := Lib.hid hx1
        clear hx1
        have hcnt : cnt R = (yn : Int).toNat := by unfold cnt; rw [List.getD_eq_getElem?_getD, hy]; rfl
        have hW2 : IntKind.i64.wrap ((yn : Int) + 6) = (yn : Int) + 6 := IntWalk.i64_in _ (by omega)
        have g2 : decide ((R.length : Int) < (yn : Int) + 6) = true := decide_eq_true (by
          have := HNW.out
          rw [hcnt] at this
          omega)
        clear hy hcnt
        obtain ⟨L, hL⟩ : ∃ L : Nat, R.length = L + 2 := ⟨R.length - 2, by omega⟩
        rw [hL] at hcv2 g1 g2 gR hW ⊢
        clear hR0 hR hR1 hc2 hL hcount
        go_wp2_with fail
        have hW3 : IntKind.i64.wrap ((za.length : Int) - ((L : Int) + 2)) = (J : Int) := by rw [← hW]; congr 1
        have hl0 : (0 : Int) < (L : Int) + 2 := by omega
        have hx1 : w2.cell? ⟨ad2.block, ad2.off + 1, none⟩ = some (.int .u8 (yn : Int)) := by have h := HX1.out; simpa [Addr.add] using h
        have gL : ((L : Int) + 2 == 1) = false := beq_false_of_ne (by omega)
        have gL2 : decide ((L : Int) + 2 < (yn : Int) + 6) = true := by
          have h := of_decide_eq_true g2
          exact decide_eq_true (by omega)
        have hl1 : (1 : Int) < (L : Int) + 2 := by omega
        go_quiet (fail)
        go_wp2
        go_ret
        exact ⟨by first | rfl | simp, Bdrew hb2 _⟩
end Go.Proofs.Ytkpdfapfcmlhhaa
