/- Layer 2: laws, walked. -/
import Derived.Test.YtndmaeaobhngoaaCrcP
import Derived.Laws.Bits128
import Derived.Laws.BitsAllLaws
namespace Go.Proofs.Ytndmaeaobhngoaa
open Go.ChangeShapes Go.WideShapes Go.ChangeAt Go.RowKit
set_option linter.unusedVariables false
set_option linter.unusedSimpArgs false

theorem sum_lt (l : List Nat) (hl : ∀ x ∈ l, x < 256) : sumN 0 l < 4294967296 := by
  have h : sumN 0 l = 4294967295 - feed 4294967295 l := rfl
  omega
theorem more_lt (s : Int) (l : List Nat) : more s l < 4294967296 := by
  have h : more s l = 4294967295 - feed (4294967295 - low32 s) l := rfl
  omega
theorem i64_mask (n : Int) : bits .and .i64 n 4294967295 = n % 4294967296 := by
  have h1 : (BitVec.ofInt 64 4294967295).toNat = 2 ^ 32 - 1 := by decide
  have key : (BitVec.ofInt 64 n &&& BitVec.ofInt 64 4294967295).toNat = (n % ((2 ^ 64 : Nat) : Int)).toNat % 2 ^ 32 := by
    rw [BitVec.toNat_and, BitVec.toNat_ofInt, h1, Nat.and_two_pow_sub_one_eq_mod]
  show IntKind.i64.wrap ((BitVec.ofInt 64 n &&& BitVec.ofInt 64 4294967295).toNat : Nat) = n % 4294967296
  rw [key, IntKind.wrap_i64]
  omega
theorem i64_xor_nat (a b : Nat) (ha : a < 9223372036854775808) (hb : b < 9223372036854775808) : bits .xor .i64 (a : Int) (b : Int) = ((a ^^^ b : Nat) : Int) := by
  show IntKind.i64.wrap ((BitVec.ofInt 64 (a : Int) ^^^ BitVec.ofInt 64 (b : Int)).toNat : Nat) = _
  rw [BitVec.toNat_xor, ofInt_u64 a (by omega), ofInt_u64 b (by omega)]
  have hx : a ^^^ b < 2 ^ 63 := Nat.xor_lt_two_pow (by omega) (by omega)
  rw [IntKind.wrap_i64]
  omega
theorem more_mask (s : Int) (l : List Nat) : more (s % 4294967296) l = more s l := by
  unfold more low32
  rw [Int.emod_emod_of_dvd _ (by decide : (4294967296 : Int) ∣ 4294967296)]

set_option maxRecDepth 100000 in
set_option maxHeartbeats 4000000 in
theorem walk_CrcZero (va : Value) (za : List Int) (w : World) (h0 : Ints .u8 w va za) :
    Calls Try.prog 8 #[va] w fun e w' => e = .returned (.bool true) ∧ Below w.heap.size w w' := by
  have hN := NB.of_ints h0
  obtain ⟨A, c, rfl, hc, hcm, _⟩ := h0.1
  rw [List.length_map] at hc hN ⊢
  unfold maxLen at hcm
  have HN := Lib.hid hN
  have la := toN_len za
  clear hN h0
  generalize za.map Int.toNat = l at *
  have LA := Lib.hid la
  clear la
  go_enter Try.func8, Try.ntmps8
  go_wp2_with fail
  refine (head_any _).mono ?_
  rintro e w1 ⟨rfl, hb1⟩
  by_cases hbl : 1000 < za.length
  · go_wp2
    go_ret
    exact ⟨rfl, hb1⟩
  have HN1 := Lib.hid (HN.out.below hb1)
  clear HN
  go_wp2_with fail
  refine (sum_any _ l _ HN1.out).mono ?_
  rintro e w2 ⟨rfl, hk⟩
  have hb2 := hb1.trans (hk.mono hb1.size)
  have HN2 := Lib.hid (HN1.out.below hk)
  clear hk hb1 HN1
  have HZ := Lib.hid (sum_zero l HN2.out.2)
  have hs := sum_lt l HN2.out.2
  generalize sumN 0 l = s at *
  go_wp2_with (at_builtin; refine wpList_app el8 rfl (.tmp 13) (.tmp 14) rfl w2.heap.size _ 0 [] rfl (own_empty _ _ _ _ (Nat.le_refl _) rfl) _ (l.map fun x : Nat => .int .u8 (x : Int)) rfl ((HN2.out.below ((Below.refl _ _).alloc (Nat.le_refl _) _)).1) (one_u8 _) ?_ ?_ ?_ ?_)
  case refine_1 => rw [List.length_map, LA.out]; unfold maxLen; omega
  case refine_2 => rw [List.length_map, LA.out]; omega
  case refine_3 => simp
  intro va1 wa owna hga _
  have hba : Below w2.heap.size w2 wa := ((Below.refl _ _).alloc (Nat.le_refl _) _).grown hga (by simp) (by simp [Value.ownBlock])
  have ownb : wa.ownsRow w2.heap.size 5 1 va1 l.length (l.map fun x : Nat => .int .u8 (x : Int)) := by simpa using owna
  clear owna hga
  go_wp2_with (at_builtin; refine wpList_app el8 rfl (.tmp 15) (.tmp 27) rfl w2.heap.size _ _ _ rfl (ownb.alloc _) _ ((le4 s).map fun x : Nat => .int .u8 (x : Int)) rfl ?_ (one_u8 _) ?_ ?_ ?_ ?_)
  case refine_1 => exact Row.of_block (heap_at _ _ _ rfl) (by simp [le4]; omega) rfl (Nat.le_refl _) (by decide)
  case refine_2 => rw [LA.out]; unfold maxLen; simp [le4]; omega
  case refine_3 => rw [LA.out]; simp [le4]; omega
  case refine_4 => have := hba.size; simp; omega
  intro vb1 wb ownc hgb _
  have hbb : Below w2.heap.size w2 wb := below_app (hba.alloc hba.size _) (by have := hba.size; simp; omega) (ownb.alloc _) hgb (Nat.le_refl _)
  have hb4 := hb2.trans (hbb.mono hb2.size)
  have HC := Lib.hid (show NB wb vb1 (l ++ le4 s) from ⟨by rw [List.map_append]; exact Row.of_own ownc, fun x hx => by
    rcases List.mem_append.1 hx with h | h
    · exact HN2.out.2 x h
    · simp [le4] at h; omega⟩)
  clear ownc hgb ownb hba hbb hb2 HN2
  go_wp2_with fail
  refine (sum_any _ (l ++ le4 s) _ HC.out).mono ?_
  rintro e w5 ⟨rfl, hk⟩
  rw [HZ.out]
  have hb5 := hb4.trans (hk.mono hb4.size)
  go_wp2
  go_ret
  exact ⟨by simp, hb5⟩

set_option maxRecDepth 100000 in
set_option maxHeartbeats 4000000 in
theorem walk_CrcBounds (va : Value) (za : List Int) (sum : Int) (w : World) (h0 : Ints .u8 w va za) (h1 : (Lit.int .i64 sum).wf = true) :
    Calls Try.prog 7 #[va, .int .i64 sum] w fun e w' => e = .returned (.bool true) ∧ Below w.heap.size w w' := by
  have hN := NB.of_ints h0
  have HB := Lib.hid h0.bytes
  obtain ⟨A, c, rfl, hc, hcm, _⟩ := h0.1
  rw [List.length_map] at hc hN HB ⊢
  unfold maxLen at hcm
  have HN := Lib.hid hN
  clear hN h0
  generalize za.map Int.toNat = l at *
  have hmask := i64_mask sum
  go_enter Try.func7, Try.ntmps7
  go_wp2_with fail
  refine (head_any _).mono ?_
  rintro e w1 ⟨rfl, hb1⟩
  by_cases hbl : 1000 < za.length
  · go_wp2
    go_ret
    exact ⟨rfl, hb1⟩
  have HN1 := Lib.hid (HN.out.below hb1)
  have HB1 := Lib.hid (HB.out.below hb1)
  clear HN HB
  have hcv := run_conv (P := Try.prog) Try.underlying22 Try.underlying5 Try.underlying9 HB1.out
  go_wp2_with fail
  clear hcv
  refine (sum_any _ l _ HN1.out).mono ?_
  rintro e w2 ⟨rfl, hk⟩
  have hb2 := hb1.trans (hk.mono hb1.size)
  have HN2 := Lib.hid (HN1.out.below hk)
  have HB2 := Lib.hid (HB1.out.below hk)
  clear hk hb1 HN1 HB1
  go_wp2_with fail
  refine (more_any _ _ l _ HN2.out).mono ?_
  rintro e w3 ⟨rfl, hk⟩
  have hb3 := hb2.trans (hk.mono hb2.size)
  have HN3 := Lib.hid (HN2.out.below hk)
  have HB3 := Lib.hid (HB2.out.below hk)
  clear hk hb2 HN2 HB2
  have hs : ((sumN 0 l : Nat) : Int) < 4294967296 := by have := sum_lt l HN3.out.2; omega
  have hm : ((more sum l : Nat) : Int) < 4294967296 := by have := more_lt sum l; omega
  have hs0 : (0 : Int) ≤ ((sumN 0 l : Nat) : Int) := by omega
  have hm0 : (0 : Int) ≤ ((more sum l : Nat) : Int) := by omega
  have HM := Lib.hid (more_mask sum l)
  go_wp2_with fail
  refine (more_any _ _ l _ HN3.out).mono ?_
  rintro e w4 ⟨rfl, hk⟩
  rw [HM.out]
  have hb4 := hb3.trans (hk.mono hb3.size)
  have HN4 := Lib.hid (HN3.out.below hk)
  have HB4 := Lib.hid (HB3.out.below hk)
  clear hk hb3 HN3 HB3 hmask
  go_wp2_with fail
  refine (sum_any _ l _ HN4.out).mono ?_
  rintro e w5 ⟨rfl, hk⟩
  have hb5 := hb4.trans (hk.mono hb4.size)
  have HB5 := Lib.hid (HB4.out.below hk)
  clear hk hb4 HN4 HB4
  have hcv := run_conv (P := Try.prog) Try.underlying22 Try.underlying5 Try.underlying9 HB5.out
  go_wp2
  go_ret
  exact ⟨by simp, hb5⟩
end Go.Proofs.Ytndmaeaobhngoaa
