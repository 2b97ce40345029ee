/- Two more laws of layer 1, walked: parts, and the document's answers. -/
import Derived.Test.YtgcglfaeejmaeaaBitsH
import Derived.Test.YtgcglfaeejmaeaaBitsR
namespace Go.Proofs.Ytgcglfaeejmaeaa
open Go.ChangeShapes Go.WideShapes Go.ChangeAt Go.RowKit
set_option linter.unusedVariables false
set_option linter.unusedSimpArgs false

theorem num_append (xs ys : List Int) : num (xs ++ ys) = num xs * 256 ^ ys.length + num ys := by
  have key : ∀ r : List Int, num (xs ++ r.reverse) = num xs * 256 ^ r.length + num r.reverse := by
    intro r
    induction r with
    | nil => simp [num]
    | cons x r ih =>
      rw [List.reverse_cons, ← List.append_assoc, num_snoc, num_snoc, ih, List.length_cons, Int.pow_succ, Int.add_mul, Int.mul_assoc]
      omega
  have := key ys.reverse
  simpa using this

def getO (bs : List Int) : Bool := decide (1 ≤ bs.length ∧ bs.length ≤ 7)
def getN (bs : List Int) : Int := if getO bs = true then num bs else 0
theorem get_any (v : Value) (bs : List Int) (w : World) (h : Bytes w v bs) :
    Calls Try.prog 12 #[v] w fun e w' => e = .returned (.tuple #[.int .i64 (getN bs), .bool (getO bs)]) ∧ w = w' := by
  by_cases ho : 1 ≤ bs.length ∧ bs.length ≤ 7
  · rw [show getO bs = true from by unfold getO; simp [ho], show getN bs = num bs from by unfold getN getO; rw [if_pos (by simp [ho])]]
    exact get_yes v bs w h ho.1 ho.2
  · rw [show getO bs = false from by unfold getO; simp only [ho, decide_false], show getN bs = 0 from by unfold getN getO; rw [if_neg (by simp only [ho, decide_false]; simp)]]
    exact get_no v bs w h (by omega)

set_option maxHeartbeats 1000000 in
theorem walk_BitsParts (va : Value) (xs : List Int) (vb : Value) (ys : List Int) (w : World) (h0 : Ints .u8 w va xs) (h1 : Ints .u8 w vb ys) :
    Calls Try.prog 8 #[va, vb] w fun e w' => e = .returned (.bool true) ∧ Below w.heap.size w w' := by
  have hX := h0.bytes
  have hY := h1.bytes
  obtain ⟨⟨A, c, rfl, hc, hm, j0⟩, j1⟩ := h0
  obtain ⟨⟨B, d, rfl, hd, hn, j2⟩, j3⟩ := h1
  clear j0 j1 j2 j3
  rw [List.length_map] at hc hX hd hY ⊢
  unfold maxLen at hm hn
  rcases (by omega : 10 < xs.length ∨ (xs.length ≤ 10 ∧ 10 < ys.length) ∨ (xs.length ≤ 10 ∧ ys.length ≤ 10)) with h | h | h
  case inr.inr =>
    go_enter Try.func8, Try.ntmps8
    go_wp2_with fail
    refine (head_any _).mono ?_
    rintro e w1 ⟨rfl, hb1⟩
    have hX1 := hX.below hb1
    have hY1 := hY.below hb1
    clear hX hY
    go_wp2_with fail
    refine (get_any _ _ _ hX1).mono ?_
    rintro e w2 ⟨rfl, rfl⟩
    go_wp2_with fail
    refine (get_any _ _ _ hY1).mono ?_
    rintro e w2 ⟨rfl, rfl⟩
    have hlx : (xs.map (Value.int .u8)).length = xs.length := List.length_map _
    have hly : (ys.map (Value.int .u8)).length = ys.length := List.length_map _
    have HX := Lib.hid hX1
    have HY := Lib.hid hY1
    have HLX := Lib.hid hlx
    have HLY := Lib.hid hly
    clear hX1 hY1 hlx hly
    go_wp2_with (at_builtin; refine wpList_app el8 rfl (.tmp 33) (.tmp 34) rfl w.heap.size _ 0 [] rfl (own_empty _ _ _ _ hb1.size rfl) _ (xs.map (.int .u8)) rfl (HX.out.1.below ((Below.refl _ _).alloc (Nat.le_refl _) _)) (one_ints _ _) ?_ ?_ ?_ ?_)
    case refine_1 => rw [HLX.out]; unfold maxLen; omega
    case refine_2 => rw [HLX.out]; omega
    case refine_3 => have := hb1.size; simp; omega
    intro v1 w2 hown1 hg1 _
    have hb12 : Below w1.heap.size w1 w2 := ((Below.refl _ _).alloc (Nat.le_refl _) _).grown hg1 (by simp) (by simp [Value.ownBlock])
    have hown1' : w2.ownsRow w.heap.size 5 1 v1 xs.length (xs.map (.int .u8)) := by simpa using hown1
    clear hown1
    have hb2 : Below w.heap.size w w2 := hb1.trans (hb12.mono hb1.size)
    go_wp2_with (at_builtin; refine wpList_app el8 rfl (.tmp 35) (.tmp 36) rfl w.heap.size _ _ _ rfl hown1' _ (ys.map (.int .u8)) rfl (HY.out.1.below hb12) (one_ints _ _) ?_ ?_ ?_ ?_)
    case refine_1 => rw [HLY.out]; unfold maxLen; omega
    case refine_2 => rw [HLY.out]; omega
    case refine_3 => exact hb2.size
    intro v2 w3 hown2 hg2 _
    have hb3 : Below w.heap.size w w3 := below_app hb2 hb2.size hown1' hg2 (Nat.le_refl _)
    have hZ : Bytes w3 v2 (xs ++ ys) := ⟨by rw [List.map_append]; exact Row.of_own hown2, fun x hx => by
      rcases List.mem_append.1 hx with hx | hx
      · exact HX.out.2 x hx
      · exact HY.out.2 x hx⟩
    clear hown1' hown2 hg1 hg2
    go_wp2_with fail
    refine (get_any _ _ _ hZ).mono ?_
    rintro e w4 ⟨rfl, rfl⟩
    have hO := Lib.hid (show getO (xs ++ ys) = decide (1 ≤ xs.length + ys.length ∧ xs.length + ys.length ≤ 7) by unfold getO; rw [List.length_append])
    rcases hx : getO xs with _ | _ <;> rcases hy : getO ys with _ | _ <;> rcases hz : getO (xs ++ ys) with _ | _
    case true.true.true => 
      have hx7 : 1 ≤ xs.length ∧ xs.length ≤ 7 := by unfold getO at hx; simpa using hx
      have hy7 : 1 ≤ ys.length ∧ ys.length ≤ 7 := by unfold getO at hy; simpa using hy
      have hz7 : xs.length + ys.length ≤ 7 := by have ho := hO.out; rw [hz] at ho; simp at ho; omega
      have ex : getN xs = num xs := by unfold getN; rw [if_pos hx]
      have ey : getN ys = num ys := by unfold getN; rw [if_pos hy]
      have ez : getN (xs ++ ys) = num xs * 256 ^ ys.length + num ys := by unfold getN; rw [if_pos hz, num_append]
      have rx := num_range xs HX.out.2
      have ry := num_range ys HY.out.2
      have rz := num_range (xs ++ ys) hZ.2
      rw [num_append, List.length_append] at rz
      have hp0 : 0 ≤ num xs * 256 ^ ys.length := Int.mul_nonneg rx.1 (Int.pow_nonneg (by omega))
      have hp1 : num xs * 256 ^ ys.length + num ys < 72057594037927936 := by
        refine Int.lt_of_lt_of_le rz.2 ?_
        have h3 := Nat.pow_le_pow_right (n := 256) (by omega) hz7
        have e : ((256 : Int) ^ (xs.length + ys.length)) = ((256 ^ (xs.length + ys.length) : Nat) : Int) := by simp
        rw [e]
        omega
      have hs0 : 0 ≤ num ys := ry.1
      have he2 : num xs * 2 ^ (8 * ys.length) = num xs * 256 ^ ys.length := by
        rw [Int.pow_mul]
        rfl
      have hb8 : 0 ≤ 8 * (ys.length : Int) ∧ 8 * (ys.length : Int) < 64 := by omega
      rw [ex, ey, ez]
      generalize num xs * 256 ^ ys.length = p at *
      clear rx ry rz ex ey ez hO
      have HE2 := Lib.hid he2
      clear he2
      go_wp2
      go_ret
      refine ⟨?_, hb3⟩
      simp
      rw [HE2.out, IntWalk.wrap64_in p (by omega), IntWalk.wrap64_in _ (by omega)]
    all_goals
      have ho := hO.out
      rw [hz] at ho
      simp at ho
      have HO := Lib.hid ho
      clear ho
      go_wp2
      all_goals
        go_ret
        refine ⟨?_, hb3⟩
        have ho := HO.out
        simp
        first | done | omega
  all_goals
    clear hX hY
    go_enter Try.func8, Try.ntmps8
    go_wp2_with fail
    refine (head_any _).mono ?_
    rintro e w1 ⟨rfl, hb1⟩
    go_wp2
    go_ret
    exact ⟨rfl, hb1⟩

set_option maxHeartbeats 1000000 in
theorem rget_any (v : Value) (bs : List Int) (w : World) (h : Bytes w v bs) :
    Calls Try.prog 13 #[v] w fun e w' => e = .returned (.tuple #[.int .i64 (getN bs), .bool (getO bs)]) ∧ w = w' := by
  by_cases ho : 1 ≤ bs.length ∧ bs.length ≤ 7
  · rw [show getO bs = true from by unfold getO; simp [ho], show getN bs = num bs from by unfold getN getO; rw [if_pos (by simp [ho])]]
    exact rget_yes v bs w h ho.1 ho.2
  · rw [show getO bs = false from by unfold getO; simp only [ho, decide_false], show getN bs = 0 from by unfold getN getO; rw [if_neg (by simp only [ho, decide_false]; simp)]]
    exact rget_no v bs w h (by omega)

def putO (n m : Int) : Bool := decide (1 ≤ m ∧ m ≤ 7 ∧ 0 ≤ n ∧ n < 256 ^ m.toNat)
def putL (n m : Int) : List Int := if putO n m = true then putB n m.toNat else []
theorem put_any (n m : Int) (w : World) :
    Calls Try.prog 10 #[.int .i64 n, .int .i64 m] w fun e w' => ∃ v, e = .returned (.tuple #[v, .bool (putO n m)]) ∧ Bytes w' v (putL n m) ∧ Below w.heap.size w w' := by
  by_cases ho : 1 ≤ m ∧ m ≤ 7 ∧ 0 ≤ n ∧ n < 256 ^ m.toNat
  · rw [show putO n m = true from by unfold putO; simp [ho], show putL n m = putB n m.toNat from by unfold putL putO; rw [if_pos (by simp [ho])]]
    exact put_yes n m w ho.1 ho.2.1 ho.2.2.1 ho.2.2.2
  · rw [show putO n m = false from by unfold putO; simp only [ho, decide_false], show putL n m = [] from by unfold putL putO; rw [if_neg (by simp only [ho, decide_false]; simp)]]
    exact (put_no n m w ho).mono fun e w' ⟨he, hw⟩ => ⟨_, he, hw ▸ Bytes.nil_, hw ▸ Below.refl _ _⟩
theorem rput_any (n m : Int) (w : World) :
    Calls Try.prog 11 #[.int .i64 n, .int .i64 m] w fun e w' => ∃ v, e = .returned (.tuple #[v, .bool (putO n m)]) ∧ Bytes w' v (putL n m) ∧ Below w.heap.size w w' := by
  by_cases ho : 1 ≤ m ∧ m ≤ 7 ∧ 0 ≤ n ∧ n < 256 ^ m.toNat
  · rw [show putO n m = true from by unfold putO; simp [ho], show putL n m = putB n m.toNat from by unfold putL putO; rw [if_pos (by simp [ho])]]
    exact rput_yes n m w ho.1 ho.2.1 ho.2.2.1 ho.2.2.2
  · rw [show putO n m = false from by unfold putO; simp only [ho, decide_false], show putL n m = [] from by unfold putL putO; rw [if_neg (by simp only [ho, decide_false]; simp)]]
    exact (rput_no n m w ho).mono fun e w' ⟨he, hw⟩ => ⟨_, he, hw ▸ Bytes.nil_, hw ▸ Below.refl _ _⟩

set_option maxHeartbeats 1000000 in
theorem walk_BitsTells (n m : Int) (v : Value) (bs : List Int) (w : World) (w0 : (Lit.int .i64 n).wf = true) (w1 : (Lit.int .i64 m).wf = true) (h0 : Ints .u8 w v bs) :
    Calls Try.prog 3 #[.int .i64 n, .int .i64 m, v] w fun e w' => e = .returned (.bool true) ∧ Below w.heap.size w w' := by
  clear w0 w1
  have hB := h0.bytes
  obtain ⟨⟨A, c, rfl, hc, hm, j0⟩, j1⟩ := h0
  clear j0 j1
  rw [List.length_map] at hc hB ⊢
  unfold maxLen at hm
  by_cases hbig : 1000 < bs.length
  · clear hB
    go_enter Try.func3, Try.ntmps3
    go_wp2_with fail
    refine (head_any _).mono ?_
    rintro e w1 ⟨rfl, hb1⟩
    go_wp2
    go_ret
    exact ⟨rfl, hb1⟩
  · go_enter Try.func3, Try.ntmps3
    go_wp2_with fail
    refine (head_any _).mono ?_
    rintro e w1 ⟨rfl, hb1⟩
    have HB := Lib.hid (hB.below hb1)
    clear hB
    go_wp2_with fail
    refine (put_any n m _).mono ?_
    rintro e w2 ⟨v2, rfl, hv2, hb2⟩
    have hb12 := hb1.trans (hb2.mono hb1.size)
    have HB2 := Lib.hid (HB.out.below hb2)
    have HV2 := Lib.hid hv2
    clear HB hv2
    go_wp2_with fail
    refine (rput_any n m _).mono ?_
    rintro e w3 ⟨v3, rfl, hv3, hb3⟩
    have hb13 := hb12.trans (hb3.mono hb12.size)
    have HB3 := Lib.hid (HB2.out.below hb3)
    have HV3 := Lib.hid (HV2.out.below hb3)
    have HW3 := Lib.hid hv3
    clear HB2 HV2 hv3
    go_wp2_with fail
    refine (get_any _ _ _ HB3.out).mono ?_
    rintro e w4 ⟨rfl, rfl⟩
    go_wp2_with fail
    refine (rget_any _ _ _ HB3.out).mono ?_
    rintro e w4 ⟨rfl, rfl⟩
    go_wp2_with fail
    refine (same_any _ _ _ _ _ HV3.out HW3.out).mono ?_
    rintro e w4 ⟨rfl, rfl⟩
    go_wp2_with fail
    refine (sign_any _ _).mono ?_
    rintro e w4 ⟨rfl, rfl⟩
    go_wp2_with fail
    refine (rsign_any _ _).mono ?_
    rintro e w4 ⟨rfl, rfl⟩
    go_wp2_with fail
    refine (bare_any _ _).mono ?_
    rintro e w4 ⟨rfl, rfl⟩
    go_wp2_with fail
    refine (rbare_any _ _).mono ?_
    rintro e w4 ⟨rfl, rfl⟩
    go_wp2
    go_ret
    exact ⟨by simp, hb13⟩
end Go.Proofs.Ytgcglfaeejmaeaa
