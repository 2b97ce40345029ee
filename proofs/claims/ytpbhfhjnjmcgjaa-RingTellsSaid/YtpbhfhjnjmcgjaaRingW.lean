/- Layer 12: laws, walked. -/
import Derived.Test.YtpbhfhjnjmcgjaaRingR
namespace Go.Proofs.Ytpbhfhjnjmcgjaa
open Go.ChangeShapes Go.WideShapes Go.ChangeAt Go.RowKit
set_option linter.unusedVariables false
set_option linter.unusedSimpArgs false

theorem e_put (from_ K : Nat) (p : Int) (hK : 0 < K) : putC from_ K (qW K []) ((from_ : Int) + p) = (if p < 0 then 6 else if p ≥ K then 7 else 9) := by
  unfold putC
  by_cases h1 : p < 0
  · rw [if_pos (by omega), if_pos h1]
  · rw [if_neg (by omega), if_neg h1]
    by_cases h2 : p ≥ K
    · rw [if_pos (by omega), if_pos h2]
    · rw [if_neg (by omega), if_neg h2]
      have : (qW K [])[((from_ : Int) + p - from_).toNat]? = some (0, false) := by
        unfold qW
        rw [List.map_nil, List.nil_append, List.getElem?_replicate, if_pos (by simp; omega)]
      rw [this]
      rfl
theorem e_at (from_ K : Nat) (p x : Int) (hK : 0 < K) : (atQ 0 from_ K (putQ from_ K (qW K []) ((from_ : Int) + p) x) ((from_ : Int) + p)).2 = decide (0 ≤ p ∧ p < K) := by
  unfold atQ
  by_cases h : (from_ : Int) + p < from_ ∨ (from_ : Int) + p - from_ ≥ K
  · have hd : decide (0 ≤ p ∧ p < (K : Int)) = false := decide_eq_false (by omega)
    rw [if_pos h, hd]
  · have hd : decide (0 ≤ p ∧ p < (K : Int)) = true := decide_eq_true (by omega)
    rw [if_neg h, hd]
    have h9 : putC from_ K (qW K []) ((from_ : Int) + p) = 9 := by
      rw [e_put from_ K p hK, if_neg (show ¬ p < 0 by omega), if_neg (show ¬ p ≥ (K : Int) by omega)]
    unfold putQ
    rw [if_pos h9, List.getD_eq_getElem?_getD, List.getElem?_set_self (by rw [qW_len _ _ (by simp)]; omega)]
    rfl
set_option maxRecDepth 100000 in
set_option maxHeartbeats 1000000 in
theorem walk_RingWindow (m f t a : Int) (w : World) (h0 : (Lit.int .u8 m).wf = true) (h1 : (Lit.int .u16 f).wf = true) (h2 : (Lit.int .u8 t).wf = true) (h3 : (Lit.int .i16 a).wf = true) :
    Calls Try.prog 5 #[.int .u8 m, .int .u16 f, .int .u8 t, .int .i16 a] w fun e w' => e = .returned (.bool true) ∧ Below w.heap.size w w' := by
  have hm8 := bounds_u8 h0
  have hf16 := bounds_u16 h1
  have ht8 := bounds_u8 h2
  have ha16 := bounds_i16 h3
  obtain ⟨K, hK⟩ : ∃ K : Nat, m % 9 + 1 = (K : Int) := ⟨(m % 9 + 1).toNat, by omega⟩
  obtain ⟨F, hF⟩ : ∃ F : Nat, f = (F : Int) := ⟨f.toNat, by omega⟩
  obtain ⟨T, hT⟩ : ∃ T : Nat, t = (T : Int) := ⟨t.toNat, by omega⟩
  subst hF hT
  have hK1 : 1 ≤ K ∧ K ≤ 9 := by omega
  obtain ⟨p, hp⟩ : ∃ p, a.tmod (2 * (K : Int)) = p := ⟨_, rfl⟩
  have hpb : -18 < p ∧ p < 18 := by
    have h4 := Int.tmod_lt_of_pos a (show 0 < 2 * (K : Int) by omega)
    have h5 := Int.lt_tmod_of_pos a (show 0 < 2 * (K : Int) by omega)
    omega
  clear h0 h1 h2 h3
  go_enter Try.func5, Try.ntmps5
  go_wp2_with fail
  refine (head_any _).mono ?_
  rintro e W1 ⟨rfl, hk⟩
  have hb1 := hk
  clear hk
  go_wp2_with fail
  try rw [hK]
  refine (newI_any K F _ (by omega) (by omega)).mono ?_
  rintro e W2 ⟨rb, gb, rfl, hR, hk, l1, l2⟩
  have hzz := hb1.size
  have hb2 := hb1.trans (hk.mono hb1.size)
  clear hk hb1
  have R2 := Lib.hid (show RingI W2 rb gb F K (List.replicate K (0, false)) from hR)
  clear hR
  have hrb : w.heap.size ≤ rb := by omega
  have hgb : w.heap.size ≤ gb := by omega
  clear l1 l2 hzz
  go_wp2_with fail
  go_loopw [12] (fun i wr => ∃ k : Nat, k ≤ T ∧ i = .int .i64 k ∧ Below w.heap.size w wr ∧ RingI wr rb gb (F + k) K (qW K [])) (fun i _ => T - (intOf i).toNat)
  case atStart => exact ⟨0, by omega, rfl, hb2, by simpa [qW] using R2.out⟩
  case round =>
    clear R2 hb2
    obtain ⟨k, hk, rfl, hb, hR⟩ := hrel
    have HR := Lib.hid hR
    clear hR
    by_cases hlt : k < T
    · go_wp2_with fail
      refine (takeI_any rb gb _ K _ _ HR.out (by omega) (0, false) _ (qW_nil K (by omega))).mono ?_
      rintro e W5 ⟨rfl, hR5, hO5⟩
      rw [qW_nil2 K (by omega), Nat.add_assoc] at hR5
      have hb5 := Only.below hb hb.size hO5 (by simp; omega)
      have HR5 := Lib.hid hR5
      clear hR5 hO5
      go_wp2
      go_roundw
      case rel => exact ⟨k + 1, by omega, by go_num, hb5, HR5.out⟩
      case measure => simp [intOf]; omega
    · have he : k = T := by omega
      subst he
      have hce : (((F + k : Nat) : Int)) = (F : Int) + (k : Int) := by omega
      have hc := e_put (F + k) K p (by omega)
      have ha := e_at (F + k) K p 7 (by omega)
      rw [hce] at hc ha
      have HC := Lib.hid hc
      have HA := Lib.hid ha
      have HCE := Lib.hid hce
      clear hc ha hce
      go_wp2_with fail
      refine (putI_any rb gb _ K ((F : Int) + (k : Int) + p) 7 _ _ HR.out (by omega)).mono ?_
      rintro e W5 ⟨rfl, hR5, hO5⟩
      rw [HC.out]
      have hb5 := Only.below hb hb.size hO5 (by simp; omega)
      have HR5 := Lib.hid hR5
      clear hR5 hO5
      by_cases c1 : p < 0
      · have f1 : decide (p < 0) = true := decide_eq_true c1
        have f2 : decide (0 ≤ p ∧ p < (K : Int)) = false := decide_eq_false (by omega)
        rw [if_pos c1]
        go_wp2_with fail
        refine (atI_any rb gb _ K ((F : Int) + (k : Int) + p) _ _ HR5.out (by omega)).mono ?_
        rintro e W6 ⟨rfl, mm, hW6⟩
        rw [HA.out, f2]
        have hb6 : Below w.heap.size w W6 := by rw [← hW6]; exact Bdrew hb5 mm
        have HR6 := HR5.out.drw mm
        rw [hW6] at HR6
        have HR7 := Lib.hid HR6
        clear hW6 HR6
        generalize (atQ 0 (F + k) K (putQ (F + k) K (qW K []) ((F : Int) + (k : Int) + p) 7) ((F : Int) + (k : Int) + p)).1 = av at *
        go_wp2_with fail
        refine (fromI_any rb gb _ K _ _ HR7.out).mono ?_
        rintro e W7 ⟨rfl, rfl⟩
        rw [HCE.out]
        go_wp2
        go_ret
        exact ⟨by first | rfl | simp, hb6⟩
      by_cases c2 : p ≥ (K : Int)
      · have f1 : decide (p < 0) = false := decide_eq_false c1
        have f2 : decide (0 ≤ p ∧ p < (K : Int)) = false := decide_eq_false (by omega)
        have f3 : decide (p ≥ (K : Int)) = true := decide_eq_true c2
        rw [if_neg c1, if_pos c2]
        go_wp2_with fail
        refine (atI_any rb gb _ K ((F : Int) + (k : Int) + p) _ _ HR5.out (by omega)).mono ?_
        rintro e W6 ⟨rfl, mm, hW6⟩
        rw [HA.out, f2]
        have hb6 : Below w.heap.size w W6 := by rw [← hW6]; exact Bdrew hb5 mm
        have HR6 := HR5.out.drw mm
        rw [hW6] at HR6
        have HR7 := Lib.hid HR6
        clear hW6 HR6
        generalize (atQ 0 (F + k) K (putQ (F + k) K (qW K []) ((F : Int) + (k : Int) + p) 7) ((F : Int) + (k : Int) + p)).1 = av at *
        go_wp2_with fail
        refine (fromI_any rb gb _ K _ _ HR7.out).mono ?_
        rintro e W7 ⟨rfl, rfl⟩
        rw [HCE.out]
        go_wp2
        go_ret
        exact ⟨by first | rfl | simp, hb6⟩
      · have f1 : decide (p < 0) = false := decide_eq_false c1
        have f2 : decide (0 ≤ p ∧ p < (K : Int)) = true := decide_eq_true (by omega)
        have f3 : decide (p ≥ (K : Int)) = false := decide_eq_false c2
        have f4 : decide (p ≥ 0) = true := decide_eq_true (by omega)
        have f5 : decide (p < (K : Int)) = true := decide_eq_true (by omega)
        rw [if_neg c1, if_neg c2]
        go_wp2_with fail
        refine (atI_any rb gb _ K ((F : Int) + (k : Int) + p) _ _ HR5.out (by omega)).mono ?_
        rintro e W6 ⟨rfl, mm, hW6⟩
        rw [HA.out, f2]
        have hb6 : Below w.heap.size w W6 := by rw [← hW6]; exact Bdrew hb5 mm
        have HR6 := HR5.out.drw mm
        rw [hW6] at HR6
        have HR7 := Lib.hid HR6
        clear hW6 HR6
        generalize (atQ 0 (F + k) K (putQ (F + k) K (qW K []) ((F : Int) + (k : Int) + p) 7) ((F : Int) + (k : Int) + p)).1 = av at *
        go_wp2_with fail
        refine (fromI_any rb gb _ K _ _ HR7.out).mono ?_
        rintro e W7 ⟨rfl, rfl⟩
        rw [HCE.out]
        go_wp2
        go_ret
        exact ⟨by first | rfl | simp, hb6⟩
end Go.Proofs.Ytpbhfhjnjmcgjaa
