/- Layer 12: laws, walked. -/
import Derived.Test.YtpbhfhjnjmcgjaaRingH
namespace Go.Proofs.Ytpbhfhjnjmcgjaa
open Go.ChangeShapes Go.WideShapes Go.ChangeAt Go.RowKit
set_option linter.unusedVariables false
set_option linter.unusedSimpArgs false

theorem Ints.shapeK {k : IntKind} {w : World} {v : Value} {xs : List Int} (h : Ints k w v xs) : ∃ A c, v = .slice A xs.length c ∧ xs.length ≤ c ∧ c ≤ 9223372036854775807 ∧
    ∀ (i : Nat) (x : Int), xs[i]? = some x → ∃ ad, A = some ad ∧ ad.block < w.heap.size ∧ w.cell? (ad.add i) = some (.int k x) := by
  obtain ⟨⟨A, c, h1, h2, h3, hA⟩, _⟩ := h
  rw [List.length_map] at h1 h2 hA
  refine ⟨A, c, h1, h2, h3, fun i x hx => ?_⟩
  have hk : i < xs.length := (List.getElem?_eq_some_iff.1 hx).1
  rcases hA with ⟨_, h0⟩ | ⟨ad, h1, h2, h3⟩
  · omega
  · exact ⟨ad, h1, h2 (by omega), h3 i _ (by rw [List.getElem?_map, hx]; rfl)⟩

def qW (K : Nat) (u : List Int) : List (Int × Bool) := u.map (fun x => (x, true)) ++ List.replicate (K - u.length) (0, false)
theorem qW_len (K : Nat) (u : List Int) (h : u.length ≤ K) : (qW K u).length = K := by simp [qW]; omega
theorem qW_cons (K : Nat) (x : Int) (v : List Int) : qW K (x :: v) = (x, true) :: (v.map (fun x => (x, true)) ++ List.replicate (K - (v.length + 1)) (0, false)) := rfl
theorem qW_take (K : Nat) (v : List Int) (h : v.length + 1 ≤ K) : (v.map (fun x => (x, true)) ++ List.replicate (K - (v.length + 1)) ((0 : Int), false)) ++ [(0, false)] = qW K v := by
  unfold qW
  rw [List.append_assoc]
  congr 1
  have e : K - v.length = (K - (v.length + 1)) + 1 := by omega
  rw [e, List.replicate_succ']
theorem qW_nil (K : Nat) (h : 0 < K) : qW K [] = (0, false) :: List.replicate (K - 1) (0, false) := by
  obtain ⟨m, rfl⟩ : ∃ m, K = m + 1 := ⟨K - 1, by omega⟩
  simp [qW, List.replicate_succ]
theorem qW_nil2 (K : Nat) (h : 0 < K) : List.replicate (K - 1) ((0 : Int), false) ++ [(0, false)] = qW K [] := by
  obtain ⟨m, rfl⟩ : ∃ m, K = m + 1 := ⟨K - 1, by omega⟩
  simp [qW, List.replicate_succ']
theorem qW_putC (from_ K : Nat) (u : List Int) (h : u.length < K) (at_ : Int) (ha : at_ = (from_ : Int) + u.length) : putC from_ K (qW K u) at_ = 9 := by
  subst ha
  unfold putC
  rw [if_neg (by omega), if_neg (by omega), show ((from_ : Int) + u.length - from_).toNat = u.length by omega]
  have : (qW K u)[u.length]? = some (0, false) := by
    unfold qW
    rw [List.getElem?_append_right (by simp), List.length_map, Nat.sub_self, List.getElem?_replicate, if_pos (by omega)]
  rw [this]
  rfl
theorem qW_putQ (from_ K : Nat) (u : List Int) (h : u.length < K) (at_ : Int) (ha : at_ = (from_ : Int) + u.length) (x : Int) : putQ from_ K (qW K u) at_ x = qW K (u ++ [x]) := by
  unfold putQ
  rw [if_pos (qW_putC from_ K u h at_ ha)]
  subst ha
  rw [show ((from_ : Int) + u.length - from_).toNat = u.length by omega]
  unfold qW
  rw [List.set_append_right _ _ (by simp), List.length_map, Nat.sub_self, List.map_append, List.append_assoc]
  congr 1
  obtain ⟨m, hm⟩ : ∃ m, K - u.length = m + 1 := ⟨K - u.length - 1, by omega⟩
  have h2 : K - (u ++ [x]).length = m := by rw [List.length_append, List.length_singleton]; omega
  rw [hm, h2, List.replicate_succ]
  rfl
theorem win_head (l : List Int) (i t : Nat) (x : Int) (hx : l[t]? = some x) (h : t < i) : (l.take i).drop t = x :: (l.take i).drop (t + 1) := by
  have ht : t < l.length := (List.getElem?_eq_some_iff.1 hx).1
  have h2 : t < (l.take i).length := by rw [List.length_take]; omega
  rw [List.drop_eq_getElem_cons h2]
  congr 1
  rw [List.getElem_take]
  exact (List.getElem?_eq_some_iff.1 hx).2
theorem win_snoc (l : List Int) (i t : Nat) (x : Int) (hx : l[i]? = some x) (h : t ≤ i) : (l.take (i + 1)).drop t = (l.take i).drop t ++ [x] := by
  have hi : i < l.length := (List.getElem?_eq_some_iff.1 hx).1
  rw [List.take_add_one, hx, List.drop_append_of_le_length (by rw [List.length_take]; omega)]
  rfl
theorem win_stay (l : List Int) (i : Nat) (h : l.length ≤ i) : l.take (i + 1) = l.take i := by rw [List.take_of_length_le (by omega), List.take_of_length_le h]

set_option maxRecDepth 100000 in
set_option maxHeartbeats 1000000 in
theorem walk_RingRound (m f : Int) (v : Value) (l : List Int) (w : World) (h0 : (Lit.int .u8 m).wf = true) (h1 : (Lit.int .u16 f).wf = true) (h2 : Ints .i16 w v l) :
    Calls Try.prog 8 #[.int .u8 m, .int .u16 f, v] w fun e w' => e = .returned (.bool true) ∧ Below w.heap.size w w' := by
  have hm8 := bounds_u8 h0
  have hf16 := bounds_u16 h1
  obtain ⟨A, c, rfl, hc, hcm, hA⟩ := h2.shapeK
  have HC := Lib.hid hA
  have HWF := Lib.hid h2.2
  obtain ⟨K, hK⟩ : ∃ K : Nat, m % 9 + 1 = (K : Int) := ⟨(m % 9 + 1).toNat, by omega⟩
  obtain ⟨F, hF⟩ : ∃ F : Nat, f = (F : Int) := ⟨f.toNat, by omega⟩
  subst hF
  have hK1 : 1 ≤ K ∧ K ≤ 9 := by omega
  clear h0 h1 h2 hA
  go_enter Try.func8, Try.ntmps8
  go_wp2_with fail
  refine (head_any _).mono ?_
  rintro e W1 ⟨rfl, hk⟩
  have hb1 := hk
  clear hk
  by_cases hbig : 300 < l.length
  · have g1 : decide (((l.length : Nat) : Int) > 300) = true := decide_eq_true (by omega)
    go_wp2
    go_ret
    exact ⟨by first | rfl | simp, hb1⟩
  have g1 : decide (((l.length : Nat) : Int) > 300) = false := decide_eq_false (by omega)
  go_wp2_with fail
  try rw [hK]
  refine (newI_any K F _ (by omega) (by omega)).mono ?_
  rintro e W2 ⟨rb, gb, rfl, hR, hk, l1, l2⟩
  have hzz := hb1.size
  have hb2 := hb1.trans (hk.mono hb1.size)
  clear hk hb1
  have R2 := Lib.hid (show RingI W2 rb gb F K (List.replicate K (0, false)) from hR)
  clear hR
  have hrb : w.heap.size ≤ rb := by omega
  have hgb : w.heap.size ≤ gb := by omega
  clear l1 l2 hzz
  go_wp2_with fail
  go_loopw [10] (fun i wr => ∃ k : Nat, k ≤ l.length + K ∧ i = .int .i64 k ∧ Below w.heap.size w wr ∧ RingI wr rb gb (F + (k - K)) K (qW K ((l.take k).drop (k - K)))) (fun i _ => l.length + K - (intOf i).toNat)
  case atStart => exact ⟨0, by omega, rfl, hb2, by simpa [qW] using R2.out⟩
  case round =>
    clear R2 hb2
    obtain ⟨k, hk, rfl, hb, hR⟩ := hrel
    have HR := Lib.hid hR
    clear hR
    by_cases hlt : k < l.length + K
    · have gk : (k : Int) < (l.length : Int) + (K : Int) := by omega
      have hnext : ∀ W, Below w.heap.size w W → RingI W rb gb (F + (k + 1 - K)) K (qW K ((l.take k).drop (k + 1 - K))) → True := fun _ _ _ => trivial
      clear hnext
      by_cases hkK : K ≤ k
      · obtain ⟨x, hx⟩ : ∃ x, l[k - K]? = some x := ⟨_, List.getElem?_eq_getElem (by omega)⟩
        have hw := win_head l k (k - K) x hx (by omega)
        have hvl : ((l.take k).drop (k - K + 1)).length + 1 ≤ K := by rw [List.length_drop, List.length_take]; omega
        have gkK : decide ((k : Int) ≥ (K : Int)) = true := decide_eq_true (by omega)
        go_wp2_with fail
        refine (takeI_any rb gb _ K _ _ HR.out (by omega) (x, true) _ (by rw [hw]; exact qW_cons K x _)).mono ?_
        rintro e W5 ⟨rfl, hR5, hO5⟩
        rw [qW_take K _ hvl] at hR5
        have hb5 := Only.below hb hb.size hO5 (by simp; omega)
        have e1 : F + (k - K) + 1 = F + (k + 1 - K) := by omega
        have e2 : k - K + 1 = k + 1 - K := by omega
        rw [e1, e2] at hR5
        have HR5 := Lib.hid hR5
        obtain ⟨ad, rfl, had, hcx⟩ := HC.out (k - K) x hx
        have hcx' : W5.cell? (ad.add (k - K)) = some (.int .i16 x) := by rw [hb5.cell (by rw [block_add]; exact had)]; exact hcx
        have hx16 := bounds_i16 (HWF.out x (List.mem_of_getElem? hx))
        have hsub : IntKind.i64.wrap ((k : Int) - (K : Int)) = ((k - K : Nat) : Int) := by rw [IntWalk.i64_in _ (by omega)]; omega
        clear hw hvl hR5 hO5 hx hcx e1 e2
        by_cases hkl : k < l.length
        · obtain ⟨y, hy⟩ : ∃ y, l[k]? = some y := ⟨_, List.getElem?_eq_getElem hkl⟩
          obtain ⟨bd, hbd0, hbd, hcy⟩ := HC.out k y hy
          have hbe := Option.some.inj hbd0; rw [← hbe] at hcy hbd; clear hbe hbd0
          have hcy' : W5.cell? (ad.add k) = some (.int .i16 y) := by rw [hb5.cell (by rw [block_add]; exact hbd)]; exact hcy
          have hy16 := bounds_i16 (HWF.out y (List.mem_of_getElem? hy))
          have hul : ((l.take k).drop (k + 1 - K)).length < K := by rw [List.length_drop, List.length_take]; omega
          have hat : ((F : Int) + (k : Int)) = ((F + (k + 1 - K) : Nat) : Int) + ((l.take k).drop (k + 1 - K)).length := by rw [List.length_drop, List.length_take]; omega
          have HUL := Lib.hid hul
          have HAT := Lib.hid hat
          have HS := Lib.hid (win_snoc l k (k + 1 - K) y hy (by omega))
          clear hul hat hy hcy
          go_wp2_with fail
          refine (putI_any rb gb _ K ((F : Int) + (k : Int)) y _ _ HR5.out (by omega)).mono ?_
          rintro e W6 ⟨rfl, hR6, hO6⟩
          rw [qW_putC _ K _ HUL.out _ HAT.out]
          rw [qW_putQ _ K _ HUL.out _ HAT.out, ← HS.out] at hR6
          have hb6 := Only.below hb5 hb5.size hO6 (by simp; omega)
          have HR6 := Lib.hid hR6
          clear hR6 hO6
          go_wp2
          go_roundw
          case rel => exact ⟨k + 1, by omega, by go_num, hb6, HR6.out⟩
          case measure => simp [intOf]; omega
        · have HS := Lib.hid (win_stay l k (by omega))
          have gkl : decide ((k : Int) < (l.length : Int)) = false := decide_eq_false (by omega)
          go_wp2
          go_roundw
          case rel => exact ⟨k + 1, by omega, by go_num, hb5, by rw [HS.out]; exact HR5.out⟩
          case measure => simp [intOf]; omega
      · have e1 : k - K = 0 := by omega
        have e2 : k + 1 - K = 0 := by omega
        have gkK : decide ((k : Int) ≥ (K : Int)) = false := decide_eq_false (by omega)
        have HR5 := Lib.hid (show RingI wr rb gb (F + (k + 1 - K)) K (qW K ((l.take k).drop (k + 1 - K))) by have := HR.out; rw [e1] at this; rw [e2]; exact this)
        clear e1 e2
        by_cases hkl : k < l.length
        · obtain ⟨y, hy⟩ : ∃ y, l[k]? = some y := ⟨_, List.getElem?_eq_getElem hkl⟩
          obtain ⟨bd, hbd0, hbd, hcy⟩ := HC.out k y hy
          subst hbd0
          have hcy' : wr.cell? (bd.add k) = some (.int .i16 y) := by rw [hb.cell (by rw [block_add]; exact hbd)]; exact hcy
          have hy16 := bounds_i16 (HWF.out y (List.mem_of_getElem? hy))
          have hul : ((l.take k).drop (k + 1 - K)).length < K := by rw [List.length_drop, List.length_take]; omega
          have hat : ((F : Int) + (k : Int)) = ((F + (k + 1 - K) : Nat) : Int) + ((l.take k).drop (k + 1 - K)).length := by rw [List.length_drop, List.length_take]; omega
          have HUL := Lib.hid hul
          have HAT := Lib.hid hat
          have HS := Lib.hid (win_snoc l k (k + 1 - K) y hy (by omega))
          clear hul hat hy hcy
          go_wp2_with fail
          refine (putI_any rb gb _ K ((F : Int) + (k : Int)) y _ _ HR5.out (by omega)).mono ?_
          rintro e W6 ⟨rfl, hR6, hO6⟩
          rw [qW_putC _ K _ HUL.out _ HAT.out]
          rw [qW_putQ _ K _ HUL.out _ HAT.out, ← HS.out] at hR6
          have hb6 := Only.below hb hb.size hO6 (by simp; omega)
          have HR6 := Lib.hid hR6
          clear hR6 hO6
          go_wp2
          go_roundw
          case rel => exact ⟨k + 1, by omega, by go_num, hb6, HR6.out⟩
          case measure => simp [intOf]; omega
        · have HS := Lib.hid (win_stay l k (by omega))
          have gkl : decide ((k : Int) < (l.length : Int)) = false := decide_eq_false (by omega)
          go_wp2
          go_roundw
          case rel => exact ⟨k + 1, by omega, by go_num, hb, by rw [HS.out]; exact HR5.out⟩
          case measure => simp [intOf]; omega
    · have he : k = l.length + K := by omega
      subst he
      have hq : (l.take (l.length + K)).drop (l.length + K - K) = [] := by
        rw [List.take_of_length_le (by omega), show l.length + K - K = l.length by omega, List.drop_length]
      go_wp2_with fail
      refine (takeI_any rb gb _ K _ _ HR.out (by omega) (0, false) _ (by rw [hq]; exact qW_nil K (by omega))).mono ?_
      rintro e W5 ⟨rfl, hR5, hO5⟩
      have hb5 := Only.below hb hb.size hO5 (by simp; omega)
      go_wp2
      go_ret
      exact ⟨by first | rfl | simp, hb5⟩
end Go.Proofs.Ytpbhfhjnjmcgjaa
