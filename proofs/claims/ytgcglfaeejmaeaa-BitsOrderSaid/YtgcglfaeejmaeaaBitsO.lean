/- The law of order of layer 1. -/
import Derived.Test.YtgcglfaeejmaeaaBitsM
import Derived.WalkLawsBesides
namespace Go.Proofs.Ytgcglfaeejmaeaa
open Go.ChangeShapes Go.WideShapes Go.ChangeAt Go.RowKit
set_option linter.unusedVariables false
set_option linter.unusedSimpArgs false

theorem num_cons (x : Int) (l : List Int) : num (x :: l) = x * 256 ^ l.length + num l := by
  have := num_append [x] l
  simpa [num] using this

theorem less_num (xs ys : List Int) (hl : xs.length = ys.length) (hx : ∀ x ∈ xs, 0 ≤ x ∧ x ≤ 255) (hy : ∀ x ∈ ys, 0 ≤ x ∧ x ≤ 255) :
    Op.bytesLess (xs.map fun n => UInt8.ofNat n.toNat) (ys.map fun n => UInt8.ofNat n.toNat) = decide (num xs < num ys) := by
  induction xs generalizing ys with
  | nil =>
    cases ys with
    | nil => rfl
    | cons y ys => simp at hl
  | cons x xs ih =>
    cases ys with
    | nil => simp at hl
    | cons y ys =>
      have hl' : xs.length = ys.length := by simpa using hl
      have ih' := ih ys hl' (fun z hz => hx z (by simp [hz])) (fun z hz => hy z (by simp [hz]))
      have ax := hx x (by simp)
      have ay := hy y (by simp)
      have rx := num_range xs fun z hz => hx z (by simp [hz])
      have ry := num_range ys fun z hz => hy z (by simp [hz])
      rw [← hl'] at ry
      rw [num_cons, num_cons, ← hl']
      simp only [List.map_cons, Op.bytesLess, ih']
      generalize (256 : Int) ^ xs.length = q at *
      have e1 : (UInt8.ofNat x.toNat < UInt8.ofNat y.toNat) = (x < y) := by
        rw [UInt8.lt_iff_toNat_lt]
        simp only [UInt8.toNat_ofNat']
        rw [Nat.mod_eq_of_lt (by omega), Nat.mod_eq_of_lt (by omega)]
        exact propext (by omega)
      have e2 : (UInt8.ofNat x.toNat == UInt8.ofNat y.toNat) = decide (x = y) := by
        rw [Bool.eq_iff_iff, beq_iff_eq, decide_eq_true_eq, ← UInt8.toNat_inj]
        simp only [UInt8.toNat_ofNat']
        rw [Nat.mod_eq_of_lt (by omega), Nat.mod_eq_of_lt (by omega)]
        omega
      simp only [e1, e2]
      rw [Bool.eq_iff_iff]
      simp only [Bool.or_eq_true, Bool.and_eq_true, decide_eq_true_eq]
      rcases (by omega : x < y ∨ x = y ∨ y < x) with h | h | h
      · have h3 : (x + 1) * q ≤ y * q := Int.mul_le_mul_of_nonneg_right (by omega) (by omega)
        rw [Int.add_mul] at h3
        omega
      · subst h
        omega
      · have h3 : (y + 1) * q ≤ x * q := Int.mul_le_mul_of_nonneg_right (by omega) (by omega)
        rw [Int.add_mul] at h3
        omega

theorem less_put (a b m : Int) (ha : putO a m = true) (hb : putO b m = true) :
    Op.bytesLess (bstr (putL a m)).toList (bstr (putL b m)).toList = decide (a < b) := by
  have pa : 1 ≤ m ∧ m ≤ 7 ∧ 0 ≤ a ∧ a < 256 ^ m.toNat := by unfold putO at ha; simpa using ha
  have pb : 1 ≤ m ∧ m ≤ 7 ∧ 0 ≤ b ∧ b < 256 ^ m.toNat := by unfold putO at hb; simpa using hb
  unfold putL
  rw [if_pos ha, if_pos hb, toList_data, toList_data, bstr_data, bstr_data, less_num _ _ (by rw [putB_len, putB_len]) (putB_range _ _) (putB_range _ _),
    num_putB _ _ pa.2.2.1 pa.2.2.2, num_putB _ _ pb.2.2.1 pb.2.2.2]

set_option maxHeartbeats 1000000 in
theorem walk_BitsOrder (a b m c : Int) (w : World) (w0 : (Lit.int .i64 a).wf = true) (w1 : (Lit.int .i64 b).wf = true) (w2 : (Lit.int .i64 m).wf = true) (w3 : (Lit.int .u8 c).wf = true) :
    Calls Try.prog 6 #[.int .i64 a, .int .i64 b, .int .i64 m, .int .u8 c] w fun e w' => e = .returned (.bool true) ∧ Below w.heap.size w w' := by
  have hc := wf_u8 w3
  clear w0 w1 w2 w3
  go_enter Try.func6, Try.ntmps6
  go_wp2_with fail
  refine (head_any _).mono ?_
  rintro e w1 ⟨rfl, hb1⟩
  go_wp2_with fail
  refine (put_any a m _).mono ?_
  rintro e w2 ⟨v2, rfl, hv2, hb2⟩
  have hb12 := hb1.trans (hb2.mono hb1.size)
  have HV2 := Lib.hid hv2
  clear hv2
  go_wp2_with fail
  refine (put_any b m _).mono ?_
  rintro e w3 ⟨v3, rfl, hv3, hb3⟩
  have hb13 := hb12.trans (hb3.mono hb12.size)
  have HA3 := Lib.hid (HV2.out.below hb3)
  have HB3 := Lib.hid hv3
  clear HV2 hv3
  rcases ha : putO a m with _ | _ <;> rcases hb : putO b m with _ | _
  case true.true =>
    have ca := run_conv (P := Try.prog) (dst := 9) Try.underlying22 Try.underlying5 Try.underlying9 HA3.out
    have cb := run_conv (P := Try.prog) (dst := 9) Try.underlying22 Try.underlying5 Try.underlying9 HB3.out
    have hless := less_put a b m ha hb
    have pa : 1 ≤ m ∧ m ≤ 7 ∧ 0 ≤ a ∧ a < 256 ^ m.toNat := by unfold putO at ha; simpa using ha
    have hpl : putL a m = putB a m.toNat := by unfold putL; rw [if_pos ha]
    have hln : (putL a m).length = m.toNat := by rw [hpl, putB_len]
    have hnum : num (putL a m ++ [c]) = a * 256 + c := by rw [num_snoc, hpl, num_putB _ _ pa.2.2.1 pa.2.2.2]
    have HX := Lib.hid HA3.out
    have hlx : ((putL a m).map (Value.int .u8)).length = m.toNat := by rw [List.length_map, hln]
    have HLX := Lib.hid hlx
    have HLN := Lib.hid hln
    have HNUM := Lib.hid hnum
    have HPA := Lib.hid pa
    have hm1 := pa.1
    have hm7 := pa.2.1
    have ha0 := pa.2.2.1
    have ha1 : a < 72057594037927936 := by
      refine Int.lt_of_lt_of_le pa.2.2.2 ?_
      have h3 := Nat.pow_le_pow_right (n := 256) (i := m.toNat) (j := 7) (by omega) (by omega)
      have e : ((256 : Int) ^ m.toNat) = ((256 ^ m.toNat : Nat) : Int) := by simp
      rw [e]
      omega
    clear hpl hln hnum pa hlx HA3
    generalize putL a m = xs at *
    have hab : (decide (a < b) != decide (a < b)) = false := by simp
    go_wp2_with (at_builtin; refine wpList_app el8 rfl (.tmp 46) (.tmp 47) rfl w.heap.size _ 0 [] rfl (own_empty _ _ _ _ hb13.size rfl) _ (xs.map (.int .u8)) rfl (HX.out.1.below ((Below.refl _ _).alloc (Nat.le_refl _) _)) (one_ints _ _) ?_ ?_ ?_ ?_)
    case refine_1 => rw [HLX.out]; unfold maxLen; omega
    case refine_2 => rw [HLX.out]; omega
    case refine_3 => have := hb13.size; simp; omega
    intro v4 w4 hown1 hg1 _
    have hb34 : Below w3.heap.size w3 w4 := ((Below.refl _ _).alloc (Nat.le_refl _) _).grown hg1 (by simp) (by simp [Value.ownBlock])
    have hown1' : w4.ownsRow w.heap.size 5 1 v4 xs.length (xs.map (.int .u8)) := by simpa using hown1
    clear hown1
    have hb4 : Below w.heap.size w w4 := hb13.trans (hb34.mono hb13.size)
    go_wp2_with (at_builtin; refine wpList_app el8 rfl (.tmp 48) (.tmp 50) rfl w.heap.size _ _ _ rfl (hown1'.alloc _) _ [.int .u8 c] rfl ?_ ?_ ?_ ?_ ?_ ?_)
    case refine_1 => exact Row.of_block (heap_at _ _ _ rfl) rfl rfl (Nat.le_refl _) (by decide)
    case refine_2 => simp [Value.oneCell']
    case refine_3 => rw [HLN.out]; unfold maxLen; simp; omega
    case refine_4 => rw [HLN.out]; simp; omega
    case refine_5 => have := hb4.size; simp; omega
    intro v5 w5 hown2 hg2 _
    have hb5 : Below w.heap.size w w5 := below_app (hb4.alloc hb4.size _) (by have := hb4.size; simp; omega) (hown1'.alloc _) hg2 (Nat.le_refl _)
    have hZ : Bytes w5 v5 (xs ++ [c]) := ⟨by rw [List.map_append]; exact Row.of_own hown2, fun x hx => by
      rcases List.mem_append.1 hx with hx | hx
      · exact HX.out.2 x hx
      · rw [List.mem_singleton.1 hx]; exact hc⟩
    clear hown1' hown2 hg1 hg2
    have hO : getO (xs ++ [c]) = decide (m < 7) := by
      unfold getO
      rw [List.length_append, HLN.out, Bool.eq_iff_iff]
      simp only [decide_eq_true_eq, List.length_singleton]
      omega
    rcases hm : decide (m < 7) with _ | _
    · rw [hm] at hO
      have h7 : ¬ m < 7 := of_decide_eq_false hm
      go_wp2_with fail
      refine (get_any _ _ _ hZ).mono ?_
      rintro e w6 ⟨rfl, rfl⟩
      go_wp2
      go_ret
      exact ⟨by simp, hb5⟩
    · rw [hm] at hO
      have h7 : m < 7 := of_decide_eq_true hm
      have hN : getN (xs ++ [c]) = a * 256 + c := by unfold getN; rw [if_pos hO, HNUM.out]
      have ha2 : a < 281474976710656 := by
        refine Int.lt_of_lt_of_le HPA.out.2.2.2 ?_
        have h3 := Nat.pow_le_pow_right (n := 256) (i := m.toNat) (j := 6) (by omega) (by omega)
        have e : ((256 : Int) ^ m.toNat) = ((256 ^ m.toNat : Nat) : Int) := by simp
        rw [e]
        omega
      go_wp2_with fail
      refine (get_any _ _ _ hZ).mono ?_
      rintro e w6 ⟨rfl, rfl⟩
      go_wp2
      all_goals
        go_ret
        refine ⟨?_, hb5⟩
        simp
        try omega
  all_goals
    go_wp2
    go_ret
    exact ⟨rfl, hb13⟩
end Go.Proofs.Ytgcglfaeejmaeaa
