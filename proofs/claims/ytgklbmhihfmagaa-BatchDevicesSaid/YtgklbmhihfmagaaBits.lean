/- Contracts of layer 1: numbers as bytes. -/
import Derived.Test.YtgklbmhihfmagaaMem
namespace Go.Proofs.Ytgklbmhihfmagaa
open Go.ChangeShapes Go.WideShapes Go.ChangeAt Go.RowKit

def sgn (n : Int) : Int := if n < 0 ∨ 65536 ≤ n then 0 else if 32768 ≤ n then n - 65536 else n
def bre (n : Int) : Int := if n < -32768 ∨ 32768 ≤ n then 0 else if n < 0 then n + 65536 else n
/-- the number of bytes -/
def num (bs : List Int) : Int := bs.foldl (fun n x => n * 256 + x) 0
/-- so many bytes of a number -/
def putB (n : Int) : Nat → List Int
  | 0 => []
  | m + 1 => putB (n / 256) m ++ [n % 256]

theorem num_snoc (l : List Int) (x : Int) : num (l ++ [x]) = num l * 256 + x := by simp [num]
theorem putB_len (n : Int) (m : Nat) : (putB n m).length = m := by
  induction m generalizing n with
  | zero => rfl
  | succ m ih => simp [putB, ih]
theorem putB_range (n : Int) (m : Nat) : ∀ x ∈ putB n m, 0 ≤ x ∧ x ≤ 255 := by
  induction m generalizing n with
  | zero => simp [putB]
  | succ m ih =>
    intro x hx
    rw [putB, List.mem_append] at hx
    rcases hx with hx | hx
    · exact ih _ x hx
    · simp at hx; omega
theorem num_putB (m : Nat) (n : Int) (h0 : 0 ≤ n) (h : n < 256 ^ m) : num (putB n m) = n := by
  induction m generalizing n with
  | zero => simp at h; simp [putB, num]; omega
  | succ m ih =>
    rw [putB, num_snoc, ih (n / 256) (by omega) (by rw [Int.pow_succ] at h; omega)]
    omega
theorem num_range (bs : List Int) (h : ∀ x ∈ bs, 0 ≤ x ∧ x ≤ 255) : 0 ≤ num bs ∧ num bs < 256 ^ bs.length := by
  have key : ∀ r : List Int, (∀ x ∈ r, 0 ≤ x ∧ x ≤ 255) → 0 ≤ num r.reverse ∧ num r.reverse < 256 ^ r.length := by
    intro r
    induction r with
    | nil => intro _; simp [num]
    | cons x r ih =>
      intro hr
      have h1 := ih fun y hy => hr y (by simp [hy])
      have h2 := hr x (by simp)
      rw [List.reverse_cons, num_snoc, List.length_cons, Int.pow_succ]
      omega
  have := key bs.reverse (fun x hx => h x (by simpa using hx))
  simpa using this
theorem putB_num (bs : List Int) (h : ∀ x ∈ bs, 0 ≤ x ∧ x ≤ 255) : putB (num bs) bs.length = bs := by
  have key : ∀ r : List Int, (∀ x ∈ r, 0 ≤ x ∧ x ≤ 255) → putB (num r.reverse) r.length = r.reverse := by
    intro r
    induction r with
    | nil => intro _; rfl
    | cons x r ih =>
      intro hr
      have h1 := ih fun y hy => hr y (by simp [hy])
      have h2 := hr x (by simp)
      rw [List.reverse_cons, num_snoc, List.length_cons, putB]
      rw [show (num r.reverse * 256 + x) / 256 = num r.reverse from by omega, show (num r.reverse * 256 + x) % 256 = x from by omega, h1]
  have := key bs.reverse (fun x hx => h x (by simpa using hx))
  simpa using this

theorem bare_any (n : Int) (w : World) :
    Calls Try.prog 62 #[.int .i64 n] w fun e w' => e = .returned (.int .i64 (bre n)) ∧ w = w' := by
  go_enter Try.func62, Try.ntmps62
  go_wp2
  all_goals go_ret
  all_goals refine ⟨ret_int ?_, rfl⟩
  all_goals (unfold bre; (repeat' split) <;> omega)

theorem or_byte (n x : Int) (h0 : 0 ≤ n) (h1 : n < 36028797018963968) (hx : 0 ≤ x ∧ x ≤ 255) : bits .or .i64 (n * 256) x = n * 256 + x := by
  obtain ⟨a, rfl⟩ := Int.eq_ofNat_of_zero_le h0
  obtain ⟨b, rfl⟩ := Int.eq_ofNat_of_zero_le hx.1
  have hb : b < 2 ^ 8 := by omega
  have ha : a < 36028797018963968 := by omega
  have e1 : (a * 256 ||| b) = a * 256 + b := by
    have := Nat.shiftLeft_add_eq_or_of_lt hb a
    rw [Nat.shiftLeft_eq] at this
    exact this.symm
  show IntKind.i64.wrap ((BitVec.ofInt 64 ((a : Int) * 256) ||| BitVec.ofInt 64 (b : Int)).toNat : Int) = _
  rw [show (a : Int) * 256 = ((a * 256 : Nat) : Int) from by omega, BitVec.ofInt_natCast, BitVec.ofInt_natCast, BitVec.toNat_or, BitVec.toNat_ofNat, BitVec.toNat_ofNat,
    Nat.mod_eq_of_lt (by omega), Nat.mod_eq_of_lt (by omega), e1, IntKind.wrap_i64]
  omega

end Go.Proofs.Ytgklbmhihfmagaa
