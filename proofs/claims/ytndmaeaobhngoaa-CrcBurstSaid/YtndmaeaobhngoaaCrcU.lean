/- Layer 2: the law of bursts. -/
import Derived.Test.YtndmaeaobhngoaaCrcL
import Derived.Laws.ShiftsVarLaws
namespace Go.Proofs.Ytndmaeaobhngoaa
open Go.ChangeShapes Go.WideShapes Go.ChangeAt Go.RowKit
set_option linter.unusedVariables false
set_option linter.unusedSimpArgs false

theorem mod_one1 (t j : Nat) (h : t / 2 ^ j % 2 = 1) : t % 2 ^ (j + 1) = (t % 2 ^ j) ^^^ 2 ^ j := by
  rw [Nat.mod_pow_succ, h, Nat.mul_one, Nat.add_comm, add_xor j _ (Nat.mod_lt _ (Nat.two_pow_pos j)), Nat.xor_comm]
theorem mod_one0 (t j : Nat) (h : ¬ t / 2 ^ j % 2 = 1) : t % 2 ^ (j + 1) = t % 2 ^ j := by
  rw [Nat.mod_pow_succ, show t / 2 ^ j % 2 = 0 by omega]; simp
theorem shl_at (k j : Nat) : (2 ^ ((k + j) % 8)) <<< (8 * ((k + j) / 8)) = (2 ^ j) <<< k := by
  rw [Nat.shiftLeft_eq, Nat.shiftLeft_eq, ← Nat.pow_add, ← Nat.pow_add]
  congr 1
  omega
theorem small_wrap (x : Nat) (h : x < 100000) : IntKind.i64.wrap (x : Int) = (x : Int) := IntWalk.i64_in _ (by omega)
theorem small_wrap2 (x : Nat) (h : x < 100000) : wrap64 (x : Int) = (x : Int) := IntWalk.wrap64_in _ (by omega)
theorem div_pow_cast (t j : Nat) : ((t / 2 ^ j : Nat) : Int) = (t : Int) / 2 ^ j := by simp

theorem burst_facts (k j n : Nat) (hk : k + 32 ≤ 8 * n) (hj : j < 32) (hn : n ≤ 1000) : ∃ m q r p : Nat, (k : Int) + (j : Int) = (m : Int) ∧ IntKind.i64.wrap (m : Int) = (m : Int) ∧ wrap64 (m : Int) = (m : Int) ∧ (m : Int) / 8 = (q : Int) ∧
    IntKind.i64.wrap (q : Int) = (q : Int) ∧ (m : Int) % 8 = (r : Int) ∧ (m : Int).tmod 8 = (r : Int) ∧ q < n ∧ r < 8 ∧ (2 : Int) ^ r = (p : Int) ∧ p ≤ 128 ∧ p <<< (8 * q) = (2 ^ j) <<< k := by
  have hm : (k : Int) + (j : Int) = ((k + j : Nat) : Int) := by omega
  refine ⟨k + j, (k + j) / 8, (k + j) % 8, 2 ^ ((k + j) % 8), hm, small_wrap _ (by omega), small_wrap2 _ (by omega), by omega, small_wrap _ (by omega), by omega, ?_, by omega, by omega, by simp, ?_, shl_at k j⟩
  · rw [Int.tmod_eq_emod_of_nonneg (by omega)]; omega
  · have : 2 ^ ((k + j) % 8) ≤ 2 ^ 7 := Nat.pow_le_pow_right (by decide) (by omega)
    exact this
theorem bit_facts (bt j : Nat) (hb : bt < 4294967296) : bt / 2 ^ j < 4294967296 := Nat.lt_of_le_of_lt (Nat.div_le_self _ _) hb
theorem bit1 (bt j : Nat) (hb : bt < 4294967296) (h : bt / 2 ^ j % 2 = 1) : (bits .and .u32 ((bt : Int) / 2 ^ j) 1 == 1) = true := by rw [← div_pow_cast, and1 _ (bit_facts bt j hb), h]; rfl
theorem bit0 (bt j : Nat) (hb : bt < 4294967296) (h : ¬ bt / 2 ^ j % 2 = 1) : (bits .and .u32 ((bt : Int) / 2 ^ j) 1 == 1) = false := by
  have h0 : bt / 2 ^ j % 2 = 0 := by omega
  rw [← div_pow_cast, and1 _ (bit_facts bt j hb), h0]; rfl

theorem pow_low (r p : Nat) (hr : r < 8) (hp : (2 : Int) ^ r = (p : Int)) (h8 : p ≤ 128) : (2 : Int) ^ min r 8 % 256 = (p : Int) := by
  rw [Nat.min_eq_left (Nat.le_of_lt hr), hp]
  exact Int.emod_eq_of_lt (Int.natCast_nonneg _) (Int.ofNat_lt.mpr (Nat.lt_of_le_of_lt h8 (by decide)))

def U8 (x : Nat) : Value := .int .u8 (x : Int)

set_option maxRecDepth 100000 in
set_option maxHeartbeats 1000000 in
theorem walk_CrcBurst (va : Value) (za : List Int) (at_ : Int) (bits_ : Int) (w : World) (h0 : Ints .u8 w va za) (h1 : (Lit.int .u16 at_).wf = true) (h2 : (Lit.int .u32 bits_).wf = true) :
    Calls Try.prog 5 #[va, .int .u16 at_, .int .u32 bits_] w fun e w' => e = .returned (.bool true) ∧ Below w.heap.size w w' := by
  have hN := NB.of_ints h0
  have ba := bounds_u16 h1
  have bb := bounds_u32 h2
  obtain ⟨A, c, rfl, hc, hcm, _⟩ := h0.1
  rw [List.length_map] at hc hN ⊢
  unfold maxLen at hcm
  have la := toN_len za
  clear h0 h1 h2
  generalize za.map Int.toNat = b at *
  have HN := Lib.hid hN
  have LA := Lib.hid la
  clear hN la
  obtain ⟨at_, rfl⟩ := Int.eq_ofNat_of_zero_le ba.1
  obtain ⟨bt, rfl⟩ := Int.eq_ofNat_of_zero_le bb.1
  generalize za.length = n at *
  go_enter Try.func5, Try.ntmps5
  go_wp2_with fail
  refine (head_any _).mono ?_
  rintro e w1 ⟨rfl, hb1⟩
  by_cases hbl : 1000 < n
  · go_wp2
    go_ret
    exact ⟨rfl, hb1⟩
  by_cases hbs : n < 5
  · go_wp2
    go_ret
    exact ⟨rfl, hb1⟩
  by_cases hb0 : bt = 0
  · subst hb0
    go_wp2
    go_ret
    exact ⟨rfl, hb1⟩
  have hb0' : ((bt : Int) == 0) = false := by simp [hb0]
  have hbt : bt < 4294967296 := by omega
  have HN1 := Lib.hid (HN.out.below hb1)
  clear HN
  go_wp2_with (at_builtin; refine wpList_app el8 rfl (.tmp 25) (.tmp 26) rfl w1.heap.size _ 0 [] rfl (own_empty _ _ _ _ (Nat.le_refl _) rfl) _ (b.map fun x : Nat => .int .u8 (x : Int)) rfl ((HN1.out.below ((Below.refl _ _).alloc (Nat.le_refl _) _)).1) (one_u8 _) ?_ ?_ ?_ ?_)
  case refine_1 => rw [List.length_map, LA.out]; unfold maxLen; omega
  case refine_2 => rw [List.length_map, LA.out]; omega
  case refine_3 => simp
  intro vb wb owna hga _
  have hba : Below w1.heap.size w1 wb := ((Below.refl _ _).alloc (Nat.le_refl _) _).grown hga (by simp) (by simp [Value.ownBlock])
  have ownb : wb.ownsRow w1.heap.size 5 1 vb n (b.map fun x : Nat => .int .u8 (x : Int)) := by have := owna; rw [LA.out] at this; exact this
  have HO := Lib.hid ownb
  have hshape : ∃ g cap, vb = .slice (some ⟨g, 0, none⟩) n cap ∧ n ≤ cap ∧ cap ≤ maxLen ∧ w1.heap.size ≤ g := by
    rcases ownb.2 with ⟨_, h⟩ | ⟨g, cap, cur, hv, hg1, _, hg3, hg4, _⟩
    · omega
    · exact ⟨g, cap, hv, hg3, hg4, hg1⟩
  obtain ⟨g, cap, rfl, hcap, hcapm, hg⟩ := hshape
  unfold maxLen at hcapm
  clear owna hga ownb
  go_wp2_with fail
  obtain ⟨k, hk, hk2⟩ : ∃ k : Nat, (at_ : Int) % (8 * (n : Int) - 31) = (k : Int) ∧ k + 32 ≤ 8 * n := ⟨at_ % (8 * n - 31), by
    have e : (8 * (n : Int) - 31) = ((8 * n - 31 : Nat) : Int) := by omega
    rw [e]
    exact (Int.natCast_emod _ _).symm, by
    have := Nat.mod_lt at_ (show 0 < 8 * n - 31 by omega)
    omega⟩
  rw [hk]
  clear hk
  go_loopw [10] (fun i wr => ∃ j : Nat, j ≤ 32 ∧ i = .int .i64 j ∧ Below w1.heap.size w1 wr ∧ ∃ cs : List Nat, cs.length = n ∧ (∀ x ∈ cs, x < 256) ∧ num cs = num b ^^^ ((bt % 2 ^ j) <<< k) ∧ wr.ownsRow w1.heap.size 5 1 (.slice (some ⟨g, 0, none⟩) n cap) n (cs.map fun x : Nat => .int .u8 (x : Int))) (fun i _ => 32 - (intOf i).toNat)
  case atStart => exact ⟨0, by omega, rfl, hba, b, LA.out, HN1.out.2, by simp [Nat.mod_one], HO.out⟩
  case round =>
    obtain ⟨j, hj, rfl, hb, cs, hcl, hc8, hnum, ho⟩ := hrel
    by_cases hlt : j < 32
    · have hlt' : (j : Int) < 32 := by omega
      have HNUM := Lib.hid hnum
      have HO2 := Lib.hid ho
      have HCL := Lib.hid hcl
      have HC8 := Lib.hid hc8
      clear hnum ho HO hcl hc8
      by_cases hbit : bt / 2 ^ j % 2 = 1
      · have ha := bit1 bt j hbt hbit
        have HM := Lib.hid (mod_one1 bt j hbit)
        clear hbit
        obtain ⟨m, q, r, p, e2', e5, e6, e3, e7, e4, e4t, hq, hr8, hpp, p8, hs⟩ := burst_facts k j n hk2 hlt (by omega)
        have HS := Lib.hid hs
        clear hs
        obtain ⟨x, hx⟩ : ∃ x, cs[q]? = some x := ⟨_, List.getElem?_eq_getElem (by rw [HCL.out]; exact hq)⟩
        have hx8 := HC8.out x (List.mem_of_getElem? hx)
        have hcell : wr.cell? ⟨g, q, none⟩ = some (.int .u8 (x : Int)) := by
          rw [HO2.out.cellAt _ (by omega), List.getElem?_map, hx]; rfl
        have hfz := HO2.out.frozenAt q
        have hxor := u8_xor_nat x p hx8 (by omega)
        have hxl : x ^^^ p < 256 := Nat.xor_lt_two_pow (n := 8) hx8 (by omega)
        have hq' : (q : Int) < (n : Int) := by omega
        have HX := Lib.hid hx
        clear hx
        go_wp2_with fail
        go_still_tail 19, (by kernel_rfl)
        go_wp2_with fail
        go_roundw
        case rel =>
          refine ⟨j + 1, by omega, by go_num, (hb.drew.setCell hg _), cs.set q (x ^^^ p), ?_, ?_, ?_, ?_⟩
          · rw [List.length_set]; exact HCL.out
          · intro y hy
            rcases List.mem_or_eq_of_mem_set hy with h | h
            · exact HC8.out y h
            · rw [h]; exact hxl
          · rw [num_set x p q cs HX.out, HNUM.out, HS.out, HM.out, Nat.shiftLeft_xor_distrib, Nat.xor_assoc]
          · have h := (HO2.out.drew.stored q (.int .u8 ((x ^^^ p : Nat) : Int))).1
            have hval : bits .xor .u8 (x : Int) (2 ^ min r 8 % 256) = ((x ^^^ p : Nat) : Int) := by
              rw [pow_low r p hr8 hpp p8]; exact hxor
            rw [List.map_set, hval]
            exact h
        case measure => simp [intOf]; omega
      · have ha := bit0 bt j hbt hbit
        have HM := Lib.hid (mod_one0 bt j hbit)
        clear hbit
        go_wp2
        go_roundw
        case rel => exact ⟨j + 1, by omega, by go_num, hb, cs, HCL.out, HC8.out, by rw [HM.out]; exact HNUM.out, HO2.out⟩
        case measure => simp [intOf]; omega
    · obtain rfl : j = 32 := by omega
      have e32 : bt % 2 ^ 32 = bt := Nat.mod_eq_of_lt hbt
      rw [e32] at hnum
      have HB := Lib.hid (sum_burst b cs k bt HN1.out.2 hc8 (by rw [hcl, LA.out]) (by rw [LA.out]; exact hk2) hbt hb0 hnum)
      have HS := Lib.hid (show NB wr _ cs from ⟨Row.of_own ho, hc8⟩)
      have HN2 := Lib.hid (HN1.out.below hb)
      have hb2 := hb1.trans (hb.mono hb1.size)
      clear ho hnum hb hb1 HN1 HO hba e32
      go_wp2_with fail
      refine (sum_any _ cs _ HS.out).mono ?_
      rintro e w4 ⟨rfl, hk4⟩
      have hb4 := hb2.trans (hk4.mono hb2.size)
      have HN4 := Lib.hid (HN2.out.below hk4)
      clear hk4 hb2 HN2 HS
      go_wp2_with fail
      refine (sum_any _ b _ HN4.out).mono ?_
      rintro e w5 ⟨rfl, hk5⟩
      have hb5 := hb4.trans (hk5.mono hb4.size)
      have hne : (((sumN 0 cs : Nat) : Int) != ((sumN 0 b : Nat) : Int)) = true := by
        rw [bne_iff_ne]
        have := HB.out
        omega
      clear hk5 hb4 HN4 HB
      go_wp2
      go_ret
      exact ⟨by simp, hb5⟩
end Go.Proofs.Ytndmaeaobhngoaa
