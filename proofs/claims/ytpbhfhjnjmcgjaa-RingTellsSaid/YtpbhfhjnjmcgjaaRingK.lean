/- Layer 12: laws, walked. -/
import Derived.Test.YtpbhfhjnjmcgjaaRingP
namespace Go.Proofs.Ytpbhfhjnjmcgjaa
open Go.ChangeShapes Go.WideShapes Go.ChangeAt Go.RowKit Go.Deep
set_option linter.unusedVariables false
set_option linter.unusedSimpArgs false

theorem put_keep {from_ K : Nat} {q : List (ByteArray × Bool)} {P : Nat} {s : ByteArray} (h : q[P]? = some (s, true)) (at_ : Int) (x : ByteArray) : (putQ from_ K q at_ x)[P]? = some (s, true) := by
  unfold putQ
  split
  · rename_i h9
    by_cases he : (at_ - (from_ : Int)).toNat = P
    · exfalso
      unfold putC at h9
      split at h9
      · omega
      · split at h9
        · omega
        · rw [he, h] at h9
          simp at h9
    · rw [List.getElem?_set_ne he]
      exact h
  · exact h
theorem put_taken {from_ K : Nat} {q : List (ByteArray × Bool)} {P : Nat} {s : ByteArray} (h : q[P]? = some (s, true)) (hP : P < K) (at_ : Int) (ha : at_ = (from_ : Int) + P) (x : ByteArray) : putC from_ K q at_ = 8 ∧ putQ from_ K q at_ x = q := by
  have e : putC from_ K q at_ = 8 := by
    subst ha
    unfold putC
    rw [if_neg (by omega), if_neg (by omega), show ((from_ : Int) + P - from_).toNat = P by omega, h]
    rfl
  refine ⟨e, ?_⟩
  unfold putQ
  rw [e]
  rfl
theorem at_head {from_ K : Nat} {q : List (ByteArray × Bool)} {s : ByteArray} (h : q[0]? = some (s, true)) (hK : 0 < K) (at_ : Int) (ha : at_ = (from_ : Int)) (z : ByteArray) : atQ z from_ K q at_ = (s, true) := by
  subst ha
  unfold atQ
  rw [if_neg (by omega), show ((from_ : Int) - from_).toNat = 0 by omega, List.getD_eq_getElem?_getD, h]
  rfl
theorem at_gone {from_ K : Nat} {q : List (ByteArray × Bool)} (at_ : Int) (ha : at_ < (from_ : Int)) (z : ByteArray) : atQ z from_ K q at_ = (z, false) := by
  unfold atQ
  rw [if_pos (.inl ha)]
theorem put_gone {from_ K : Nat} {q : List (ByteArray × Bool)} (at_ : Int) (ha : at_ < (from_ : Int)) : putC from_ K q at_ = 6 := if_pos ha
theorem put_first {from_ K P : Nat} (hP : P < K) (s z : ByteArray) (at_ : Int) (ha : at_ = (from_ : Int) + P) : putC from_ K (List.replicate K (z, false)) at_ = 9 ∧ (putQ from_ K (List.replicate K (z, false)) at_ s)[P]? = some (s, true) := by
  have e : putC from_ K (List.replicate K (z, false)) at_ = 9 := by
    subst ha
    unfold putC
    rw [if_neg (by omega), if_neg (by omega), show ((from_ : Int) + P - from_).toNat = P by omega, List.getElem?_replicate, if_pos hP]
    rfl
  refine ⟨e, ?_⟩
  unfold putQ
  rw [if_pos e]
  subst ha
  rw [show ((from_ : Int) + P - from_).toNat = P by omega, List.getElem?_set_self (by simp; exact hP)]

set_option maxRecDepth 100000 in
set_option maxHeartbeats 1000000 in
theorem walk_RingKept (m f a : Int) (s : ByteArray) (v : Value) (l : List (Int × Int)) (w : World) (h0 : (Lit.int .u8 m).wf = true) (h1 : (Lit.int .u16 f).wf = true) (h2 : (Lit.int .u8 a).wf = true) (h3 : s.size ≤ maxLen) (h4 : OpsRow w v l) :
    Calls Try.prog 6 #[.int .u8 m, .int .u16 f, .int .u8 a, .string s, v] w fun e w' => e = .returned (.bool true) ∧ Below w.heap.size w w' := by
  have hm8 := bounds_u8 h0
  have hf16 := bounds_u16 h1
  have ha8 := bounds_u8 h2
  obtain ⟨A, c, rfl, hc, hcm, hA⟩ := h4
  have HC := Lib.hid hA
  obtain ⟨K, hK⟩ : ∃ K : Nat, m % 9 + 1 = (K : Int) := ⟨(m % 9 + 1).toNat, by omega⟩
  obtain ⟨F, hF⟩ : ∃ F : Nat, f = (F : Int) := ⟨f.toNat, by omega⟩
  subst hF
  have hK1 : 1 ≤ K ∧ K ≤ 9 := by omega
  obtain ⟨P, hP⟩ : ∃ P : Nat, a % (K : Int) = (P : Int) := ⟨(a % (K : Int)).toNat, by have := Int.emod_nonneg a (show (K : Int) ≠ 0 by omega); omega⟩
  have hPK : P < K := by have := Int.emod_lt_of_pos a (show 0 < (K : Int) by omega); omega
  have HPF := Lib.hid (put_first (from_ := F) hPK s ByteArray.empty ((F : Int) + P) rfl)
  clear h0 h1 h2 h3 hA
  go_enter Try.func6, Try.ntmps6
  go_wp2_with fail
  refine (head_any _).mono ?_
  rintro e W1 ⟨rfl, hk⟩
  have hb1 := hk
  clear hk
  by_cases hbig : 60 < l.length
  · have g1 : decide (((l.length : Nat) : Int) > 60) = true := decide_eq_true (by omega)
    go_wp2
    go_ret
    exact ⟨by first | rfl | simp, hb1⟩
  have g1 : decide (((l.length : Nat) : Int) > 60) = false := decide_eq_false (by omega)
  go_wp2_with fail
  try rw [hK]
  refine (newS_any K F _ (by omega) (by omega)).mono ?_
  rintro e W2 ⟨rb, gb, rfl, hR, hk, l1, l2⟩
  have hzz := hb1.size
  have hb2 := hb1.trans (hk.mono hb1.size)
  clear hk hb1
  have R2 := Lib.hid (show RingS W2 rb gb F K (List.replicate K (ByteArray.empty, false)) from hR)
  clear hR
  have hrb : w.heap.size ≤ rb := by omega
  have hgb : w.heap.size ≤ gb := by omega
  clear l1 l2 hzz
  go_wp2_with fail
  refine (putS_any rb gb F K ((F : Int) + P) s _ _ R2.out (by omega)).mono ?_
  rintro e W3 ⟨rfl, hR, hO⟩
  rw [HPF.out.1]
  have hb3 := Only.below hb2 hb2.size hO (by simp; omega)
  have HQ3 := Lib.hid HPF.out.2
  have HR3 := Lib.hid hR
  clear hR hO R2 hb2
  generalize putQ F K (List.replicate K (ByteArray.empty, false)) ((F : Int) + P) s = q3 at *
  go_wp2_with fail
  go_loopw [15] (fun i wr => ∃ (k : Nat) (q : List (ByteArray × Bool)), k ≤ l.length ∧ i = .int .i64 k ∧ Below w.heap.size w wr ∧ RingS wr rb gb F K q ∧ q[P]? = some (s, true)) (fun i _ => l.length - (intOf i).toNat)
  case atStart => exact ⟨0, q3, by omega, rfl, hb3, HR3.out, HQ3.out⟩
  case round =>
    clear HR3 HQ3 hb3
    obtain ⟨k, q, hk, rfl, hb, hR, hq⟩ := hrel
    have HR := Lib.hid hR
    have HQ := Lib.hid hq
    clear hR hq
    by_cases hlt : k < l.length
    · obtain ⟨o, ho⟩ : ∃ o, l[k]? = some o := ⟨_, List.getElem?_eq_getElem hlt⟩
      obtain ⟨ad, rfl, had, hc0, hc1, hb0, hb1⟩ := HC.out k o ho
      have hc0' : wr.cell? (ad.add (k * 2)) = some (.int .i64 o.1) := by rw [hb.cell (by rw [block_add]; exact had)]; exact hc0
      clear hc0 hc1 ho
      obtain ⟨o1, o2⟩ := o
      dsimp only at hc0' hb0 hb1
      go_wp2_with fail
      refine (far_any _ _).mono ?_
      rintro e W4 ⟨rfl, rfl⟩
      by_cases hfar : -576460752303423488 ≤ o1 ∧ o1 ≤ 576460752303423488
      · rw [decide_eq_true hfar]
        go_wp2_with fail
        refine (putS_any rb gb F K ((F : Int) + o1) _ _ _ HR.out (by omega)).mono ?_
        rintro e W5 ⟨rfl, hR5, hO5⟩
        have hb5 := Only.below hb hb.size hO5 (by simp; omega)
        have HR5 := Lib.hid hR5
        have HQ5 := Lib.hid (put_keep (from_ := F) (K := K) HQ.out ((F : Int) + o1) ⟨#[111, 116, 104, 101, 114]⟩)
        clear hR5 hO5 hc0'
        generalize putC F K q ((F : Int) + o1) = code at *
        generalize putQ F K q ((F : Int) + o1) ⟨#[111, 116, 104, 101, 114]⟩ = q5 at *
        go_wp2_with fail
        refine (putS_any rb gb F K ((F : Int) + P) _ _ _ HR5.out (by omega)).mono ?_
        rintro e W6 ⟨rfl, hR6, hO6⟩
        have htk := put_taken HQ5.out hPK ((F : Int) + P) rfl ⟨#[110, 111]⟩
        rw [htk.2] at hR6
        rw [htk.1]
        have hb6 := Only.below hb5 hb5.size hO6 (by simp; omega)
        have HR6 := Lib.hid hR6
        clear hR6 hO6 htk
        go_wp2
        go_roundw
        case rel => exact ⟨k + 1, q5, by omega, by go_num, hb6, HR6.out, HQ5.out⟩
        case measure => simp [intOf]; omega
      · rw [decide_eq_false hfar]
        go_wp2
        go_ret
        exact ⟨by first | rfl | simp, hb⟩
    · have he : k = l.length := by omega
      subst he
      go_wp2_with fail
      go_loopw [16] (fun i wr => ∃ (j : Nat) (q : List (ByteArray × Bool)), j ≤ P ∧ i = .int .i64 j ∧ Below w.heap.size w wr ∧ RingS wr rb gb (F + j) K q ∧ q[P - j]? = some (s, true)) (fun i _ => P - (intOf i).toNat)
      case atStart => exact ⟨0, q, by omega, rfl, hb, HR.out, HQ.out⟩
      case round =>
        clear HR HQ hb
        obtain ⟨j, q, hj, rfl, hb, hR, hq⟩ := hrel
        have HR := Lib.hid hR
        have HQ := Lib.hid hq
        have hql := hR.rest.elim fun cs hh => hh.2.2.1
        obtain ⟨a0, r0, hqr⟩ : ∃ a0 r0, q = a0 :: r0 := by
          match q, hql with
          | a0 :: r0, _ => exact ⟨a0, r0, rfl⟩
          | [], h => simp at h; omega
        have HQL := Lib.hid hql
        have HQR := Lib.hid hqr
        clear hR hq hql hqr
        by_cases hlt2 : j < P
        · go_wp2_with fail
          refine (takeS_any rb gb _ K _ _ HR.out (by omega) a0 r0 HQR.out).mono ?_
          rintro e W5 ⟨rfl, hR5, hO5⟩
          rw [Nat.add_assoc] at hR5
          have hb5 := Only.below hb hb.size hO5 (by simp; omega)
          have HR5 := Lib.hid hR5
          have HQ5 := Lib.hid (show (r0 ++ [(ByteArray.empty, false)])[P - (j + 1)]? = some (s, true) by
            have h1 := HQ.out
            have h2 := HQL.out
            rw [HQR.out] at h1 h2
            have hl : r0.length + 1 = K := by simpa using h2
            rw [List.getElem?_append_left (by omega), ← h1, show P - j = (P - (j + 1)) + 1 by omega, List.getElem?_cons_succ])
          clear hR5 hO5
          go_wp2
          go_roundw
          case rel => exact ⟨j + 1, r0 ++ [(ByteArray.empty, false)], by omega, by go_num, hb5, HR5.out, HQ5.out⟩
          case measure => simp [intOf]; omega
        · have he : j = P := by omega
          subst he
          have hq0 : q[0]? = some (s, true) := by have := HQ.out; rwa [Nat.sub_self] at this
          have ha0 : a0 = (s, true) := by rw [HQR.out] at hq0; simpa using hq0
          have HAT := Lib.hid (at_head (from_ := F + j) (K := K) hq0 (by omega) ((F : Int) + j) (by omega) ByteArray.empty)
          have HA0 := Lib.hid ha0
          clear hq0 ha0
          go_wp2_with fail
          refine (atS_any rb gb _ K ((F : Int) + j) _ _ HR.out (by omega)).mono ?_
          rintro e W5 ⟨rfl, mm, hW5⟩
          rw [HAT.out]
          have hb5 : Below w.heap.size w W5 := by rw [← hW5]; exact Bdrew hb mm
          have HR5 := HR.out.drw mm
          rw [hW5] at HR5
          have HR5' := Lib.hid HR5
          clear HR5 hW5
          go_wp2_with fail
          refine (takeS_any rb gb _ K _ _ HR5'.out (by omega) a0 r0 HQR.out).mono ?_
          rintro e W6 ⟨rfl, hR6, hO6⟩
          rw [HA0.out]
          have hb6 := Only.below hb5 hb5.size hO6 (by simp; omega)
          have HR6 := Lib.hid hR6
          clear hR6 hO6 HR5'
          go_wp2_with fail
          refine (atS_any rb gb _ K ((F : Int) + j) _ _ HR6.out (by omega)).mono ?_
          rintro e W7 ⟨rfl, m2, hW7⟩
          rw [at_gone (K := K) ((F : Int) + j) (by omega) ByteArray.empty]
          have hb7 : Below w.heap.size w W7 := by rw [← hW7]; exact Bdrew hb6 m2
          have HR7 := HR6.out.drw m2
          rw [hW7] at HR7
          have HR7' := Lib.hid HR7
          clear HR7 hW7
          go_wp2_with fail
          refine (putS_any rb gb _ K ((F : Int) + j) s _ _ HR7'.out (by omega)).mono ?_
          rintro e W8 ⟨rfl, hR8, hO8⟩
          rw [put_gone (K := K) ((F : Int) + j) (by omega)]
          have hb8 := Only.below hb7 hb7.size hO8 (by simp; omega)
          clear hR8 hO8
          go_wp2
          go_ret
          exact ⟨by first | rfl | simp, hb8⟩
end Go.Proofs.Ytpbhfhjnjmcgjaa
