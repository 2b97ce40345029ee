/- Contracts of layer 1: numbers as bytes. -/
import Derived.Test.YtnimialdccbdfaaMem
namespace Go.Proofs.Ytnimialdccbdfaa
open Go.ChangeShapes Go.WideShapes Go.ChangeAt Go.RowKit

def sgn (n : Int) : Int := if n < 0 ∨ 65536 ≤ n then 0 else if 32768 ≤ n then n - 65536 else n
def bre (n : Int) : Int := if n < -32768 ∨ 32768 ≤ n then 0 else if n < 0 then n + 65536 else n
/-- the number of bytes -/
def num (bs : List Int) : Int := bs.foldl (fun n x => n * 256 + x) 0
/-- so many bytes of a number -/
def putB (n : Int) : Nat → List Int
  | 0 => []
  | m + 1 => putB (n / 256) m ++ [n % 256]

theorem num_snoc (l : List Int) (x : Int) : num (l ++ [x]) = num l * 256 + x := by simp [num]
theorem putB_len (n : Int) (m : Nat) : (putB n m).length = m := by
  induction m generalizing n with
  | zero => rfl
  | succ m ih => simp [putB, ih]
theorem putB_range (n : Int) (m : Nat) : ∀ x ∈ putB n m, 0 ≤ x ∧ x ≤ 255 := by
  induction m generalizing n with
  | zero => simp [putB]
  | succ m ih =>
    intro x hx
    rw [putB, List.mem_append] at hx
    rcases hx with hx | hx
    · exact ih _ x hx
    · simp at hx; omega
theorem num_putB (m : Nat) (n : Int) (h0 : 0 ≤ n) (h : n < 256 ^ m) : num (putB n m) = n := by
  induction m generalizing n with
  | zero => simp at h; simp [putB, num]; omega
  | succ m ih =>
    rw [putB, num_snoc, ih (n / 256) (by omega) (by rw [Int.pow_succ] at h; omega)]
    omega
theorem num_range (bs : List Int) (h : ∀ x ∈ bs, 0 ≤ x ∧ x ≤ 255) : 0 ≤ num bs ∧ num bs < 256 ^ bs.length := by
  have key : ∀ r : List Int, (∀ x ∈ r, 0 ≤ x ∧ x ≤ 255) → 0 ≤ num r.reverse ∧ num r.reverse < 256 ^ r.length := by
    intro r
    induction r with
    | nil => intro _; simp [num]
    | cons x r ih =>
      intro hr
      have h1 := ih fun y hy => hr y (by simp [hy])
      have h2 := hr x (by simp)
      rw [List.reverse_cons, num_snoc, List.length_cons, Int.pow_succ]
      omega
  have := key bs.reverse (fun x hx => h x (by simpa using hx))
  simpa using this
theorem putB_num (bs : List Int) (h : ∀ x ∈ bs, 0 ≤ x ∧ x ≤ 255) : putB (num bs) bs.length = bs := by
  have key : ∀ r : List Int, (∀ x ∈ r, 0 ≤ x ∧ x ≤ 255) → putB (num r.reverse) r.length = r.reverse := by
    intro r
    induction r with
    | nil => intro _; rfl
    | cons x r ih =>
      intro hr
      have h1 := ih fun y hy => hr y (by simp [hy])
      have h2 := hr x (by simp)
      rw [List.reverse_cons, num_snoc, List.length_cons, putB]
      rw [show (num r.reverse * 256 + x) / 256 = num r.reverse from by omega, show (num r.reverse * 256 + x) % 256 = x from by omega, h1]
  have := key bs.reverse (fun x hx => h x (by simpa using hx))
  simpa using this

theorem sign_any (n : Int) (w : World) :
    Calls Try.prog 24 #[.int .i64 n] w fun e w' => e = .returned (.int .i64 (sgn n)) ∧ w = w' := by
  go_enter Try.func24, Try.ntmps24
  go_wp2
  all_goals go_ret
  all_goals refine ⟨ret_int ?_, rfl⟩
  all_goals (unfold sgn; (repeat' split) <;> omega)

theorem bare_any (n : Int) (w : World) :
    Calls Try.prog 33 #[.int .i64 n] w fun e w' => e = .returned (.int .i64 (bre n)) ∧ w = w' := by
  go_enter Try.func33, Try.ntmps33
  go_wp2
  all_goals go_ret
  all_goals refine ⟨ret_int ?_, rfl⟩
  all_goals (unfold bre; (repeat' split) <;> omega)

theorem or_byte (n x : Int) (h0 : 0 ≤ n) (h1 : n < 36028797018963968) (hx : 0 ≤ x ∧ x ≤ 255) : bits .or .i64 (n * 256) x = n * 256 + x := by
  obtain ⟨a, rfl⟩ := Int.eq_ofNat_of_zero_le h0
  obtain ⟨b, rfl⟩ := Int.eq_ofNat_of_zero_le hx.1
  have hb : b < 2 ^ 8 := by omega
  have ha : a < 36028797018963968 := by omega
  have e1 : (a * 256 ||| b) = a * 256 + b := by
    have := Nat.shiftLeft_add_eq_or_of_lt hb a
    rw [Nat.shiftLeft_eq] at this
    exact this.symm
  show IntKind.i64.wrap ((BitVec.ofInt 64 ((a : Int) * 256) ||| BitVec.ofInt 64 (b : Int)).toNat : Int) = _
  rw [show (a : Int) * 256 = ((a * 256 : Nat) : Int) from by omega, BitVec.ofInt_natCast, BitVec.ofInt_natCast, BitVec.toNat_or, BitVec.toNat_ofNat, BitVec.toNat_ofNat,
    Nat.mod_eq_of_lt (by omega), Nat.mod_eq_of_lt (by omega), e1, IntKind.wrap_i64]
  omega

set_option maxHeartbeats 400000 in
theorem get_yes (v : Value) (bs : List Int) (w : World) (h : Bytes w v bs) (h1 : 1 ≤ bs.length) (h7 : bs.length ≤ 7) :
    Calls Try.prog 35 #[v] w fun e w' => e = .returned (.tuple #[.int .i64 (num bs), .bool true]) ∧ w = w' := by
  obtain ⟨⟨A, c, rfl, hc, hm, hA⟩, hr⟩ := h
  rw [List.length_map] at hc hA ⊢
  obtain ⟨ad, rfl, _, hcell⟩ : ∃ ad, A = some ad ∧ (0 < bs.length → ad.block < w.heap.size) ∧ ∀ i x, (List.map (Value.int .u8) bs)[i]? = some x → w.cell? (ad.add i) = some x := by
    rcases hA with ⟨_, h0⟩ | hA
    · omega
    · exact hA
  have H := Lib.hid hcell
  have HR := Lib.hid hr
  clear hcell hr
  go_enter Try.func35, Try.ntmps35
  go_wp2
  go_loop [4, 17] (fun n i => ∃ k : Nat, k ≤ bs.length ∧ i = .int .i64 k ∧ n = .int .i64 (num (bs.take k))) (fun _ i => bs.length - (intOf i).toNat)
  case atStart => exact ⟨0, Nat.zero_le _, rfl, rfl⟩
  case round =>
    obtain ⟨k, hk, rfl, rfl⟩ := hrel
    have hn := num_range (bs.take k) fun x hx => HR.out x (List.mem_of_mem_take hx)
    by_cases hlt : k < bs.length
    · obtain ⟨x, hx⟩ : ∃ x, bs[k]? = some x := ⟨_, List.getElem?_eq_getElem hlt⟩
      have hcx := H.out k (.int .u8 x) (by rw [List.getElem?_map, hx]; rfl)
      have hx255 := HR.out x (List.mem_of_getElem? hx)
      have hnb : num (bs.take k) < 36028797018963968 := by
        refine Int.lt_of_lt_of_le hn.2 ?_
        have hkk : (bs.take k).length ≤ 6 := by rw [List.length_take]; omega
        have h3 := Nat.pow_le_pow_right (n := 256) (by omega) hkk
        have e : ((256 : Int) ^ (bs.take k).length) = ((256 ^ (bs.take k).length : Nat) : Int) := by simp
        rw [e]
        omega
      have h0 := hn.1
      clear hn
      have hor := or_byte (num (bs.take k)) x h0 hnb hx255
      have HE := Lib.hid (show num (bs.take (k + 1)) = num (bs.take k) * 256 + x by rw [List.take_add_one, hx]; simp [num_snoc])
      clear hx
      go_wp2
      go_round
      case rel => exact ⟨k + 1, by omega, by go_num, by rw [HE.out]⟩
      case measure => simp [intOf]; omega
    · go_wp2
      go_ret2
      have he : k = bs.length := by omega
      subst he
      exact ⟨by rw [List.take_length]; rfl, rfl⟩

theorem get_no (v : Value) (bs : List Int) (w : World) (h : Bytes w v bs) (h1 : bs.length < 1 ∨ 7 < bs.length) :
    Calls Try.prog 35 #[v] w fun e w' => e = .returned (.tuple #[.int .i64 0, .bool false]) ∧ w = w' := by
  obtain ⟨⟨A, c, rfl, hc, hm, hA⟩, hr⟩ := h
  rw [List.length_map] at hc hA ⊢
  clear hA hr
  unfold maxLen at hm
  rcases h1 with h1 | h1
  all_goals
    go_enter Try.func35, Try.ntmps35
    go_wp2
    go_ret2
    exact ⟨rfl, rfl⟩
end Go.Proofs.Ytnimialdccbdfaa
