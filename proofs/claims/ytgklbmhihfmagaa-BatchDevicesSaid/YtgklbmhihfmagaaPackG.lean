/- Layer 4: the packet of bytes. -/
import Derived.Test.YtgklbmhihfmagaaPackF
namespace Go.Proofs.Ytgklbmhihfmagaa
open Go.ChangeShapes Go.WideShapes Go.ChangeAt Go.RowKit
set_option linter.unusedVariables false
set_option linter.unusedSimpArgs false

theorem Bytes.sub {w : World} {ad : Addr} {n c : Nat} {bs : List Int} (h : Bytes w (.slice (some ad) n c) bs) (i m c' : Nat) (hm : i + m ≤ bs.length) (hc' : m ≤ c') (hcm : c' ≤ maxLen) : Bytes w (.slice (some (ad.add i)) m c') ((bs.drop i).take m) := by
  obtain ⟨⟨A, c0, hv, h2, h3, hA⟩, hr⟩ := h
  injection hv with e1 e2 e3
  subst e1 e3
  have hl : ((bs.drop i).take m).length = m := by simp; omega
  refine ⟨⟨some (ad.add i), c', by rw [List.length_map, hl], by rw [List.length_map, hl]; exact hc', hcm, .inr ⟨_, rfl, fun h0 => ?_, fun j x hx => ?_⟩⟩, fun x hx => hr x (List.mem_of_mem_drop (List.mem_of_mem_take hx))⟩
  · rw [List.length_map, hl] at h0
    rcases hA with ⟨h, _⟩ | ⟨ad', h5, h6, _⟩
    · cases h
    · cases h5
      rw [block_add]
      exact h6 (by rw [List.length_map]; omega)
  · rcases hA with ⟨h, _⟩ | ⟨ad', h5, _, h7⟩
    · cases h
    · cases h5
      rw [Go.Deep.add_add]
      refine h7 (i + j) x ?_
      rw [← hx, List.getElem?_map, List.getElem?_map, List.getElem?_take]
      have hj : j < m := by
        rcases Nat.lt_or_ge j m with h | h
        · exact h
        · rw [List.getElem?_eq_none (by rw [List.length_map, hl]; exact h)] at hx
          cases hx
      rw [if_pos hj, List.getElem?_drop]

/-- the number of the k-th field -/
def fv (bs : List Int) : Nat → Int
  | 0 => num ((bs.drop 0).take 1)
  | 1 => num ((bs.drop 1).take 1)
  | 2 => num ((bs.drop 2).take 1)
  | 3 => num ((bs.drop 3).take 2)
  | _ => num ((bs.drop 5).take 5)
def fvA (bs : List Int) (k : Nat) : Array Value := #[.int .i64 (if 0 < k then fv bs 0 else 0), .int .i64 (if 1 < k then fv bs 1 else 0), .int .i64 (if 2 < k then fv bs 2 else 0), .int .i64 (if 3 < k then fv bs 3 else 0), .int .i64 (if 4 < k then fv bs 4 else 0)]
theorem fvA_step (bs : List Int) (k : Nat) (hk : k < 5) : (fvA bs k).setIfInBounds k (.int .i64 (fv bs k)) = fvA bs (k + 1) := by
  rcases (by omega : k = 0 ∨ k = 1 ∨ k = 2 ∨ k = 3 ∨ k = 4) with rfl | rfl | rfl | rfl | rfl <;> rfl
theorem fvA_at (bs : List Int) (k : Nat) (hk : k < 5) : ∃ old, (fvA bs k)[k]? = some old := by
  have : k < (fvA bs k).size := hk
  exact ⟨_, Array.getElem?_eq_getElem this⟩
theorem num_one (bs : List Int) (k : Nat) (h : k < bs.length) : num ((bs.drop k).take 1) = bs.getD k 0 := by
  rw [List.drop_eq_getElem_cons h, List.take_succ_cons, List.take_zero]
  simp [num, List.getD_eq_getElem?_getD, List.getElem?_eq_getElem h]
theorem ofB_fv (bs : List Int) (h : 3 ≤ bs.length) : ofB bs = ⟨fv bs 0, fv bs 1, fv bs 2, fv bs 3, fv bs 4, valsOf (bs.drop 10)⟩ := by
  have e0 : fv bs 0 = bs.getD 0 0 := num_one bs 0 (by omega)
  have e1 : fv bs 1 = bs.getD 1 0 := num_one bs 1 (by omega)
  have e2 : fv bs 2 = bs.getD 2 0 := num_one bs 2 (by omega)
  rw [e0, e1, e2]
  rfl
theorem at_f (bs : List Int) (k : Nat) (hk : k < 5) : ∃ (pl l : Int), 0 ≤ pl ∧ 1 ≤ l ∧ l ≤ 7 ∧ pl + l ≤ 10 ∧ num ((bs.drop pl.toNat).take l.toNat) = fv bs k ∧
    (∀ w, (Instr.index 101 (.agg #[.int .i64 0, .int .i64 1, .int .i64 1, .int .i64 1, .int .i64 2, .int .i64 1, .int .i64 3, .int .i64 2, .int .i64 5, .int .i64 5]) (.int .i64 k)).run Try.prog w = .ok (.agg #[.int .i64 pl, .int .i64 l]) w) := by
  rcases (by omega : k = 0 ∨ k = 1 ∨ k = 2 ∨ k = 3 ∨ k = 4) with rfl | rfl | rfl | rfl | rfl
  · exact ⟨0, 1, by omega, by omega, by omega, by omega, rfl, idx0⟩
  · exact ⟨1, 1, by omega, by omega, by omega, by omega, rfl, idx1⟩
  · exact ⟨2, 1, by omega, by omega, by omega, by omega, rfl, idx2⟩
  · exact ⟨3, 2, by omega, by omega, by omega, by omega, rfl, idx3⟩
  · exact ⟨5, 5, by omega, by omega, by omega, by omega, rfl, idx4⟩
def valsL (N : Nat) (xs : List Int) : List Value := (xs ++ List.replicate (N - xs.length) (0 : Int)).map (Value.int .i64)
theorem vals_set (N : Nat) (xs : List Int) (k : Nat) (x : Int) (hk : xs.length = k) (h : k < N) : (valsL N xs).toArray.setIfInBounds k (.int .i64 x) = (valsL N (xs ++ [x])).toArray := by
  subst hk
  rw [List.setIfInBounds_toArray]
  congr 1
  unfold valsL
  rw [← List.map_set]
  congr 1
  rw [List.set_append_right _ _ (Nat.le_refl _), Nat.sub_self, List.append_assoc]
  congr 1
  obtain ⟨m, hm⟩ : ∃ m, N - xs.length = m + 1 := ⟨N - xs.length - 1, by omega⟩
  have h2 : N - (xs ++ [x]).length = m := by rw [List.length_append, List.length_singleton]; omega
  rw [hm, h2, List.replicate_succ]
  rfl
theorem vals_len (N : Nat) (xs : List Int) (h : xs.length ≤ N) : (valsL N xs).length = N := by simp [valsL]; omega
theorem vals_full (xs : List Int) (N : Nat) (h : xs.length = N) : valsL N xs = xs.map (Value.int .i64) := by simp [valsL, h]
theorem int_info : (Try.prog.info? 3).map (fun i => (i.zero, i.size, i.bytes)) = some (some (.int .i64 0), 1, 8) := by kernel_rfl
theorem zero_info : (Try.prog.info? 97).map (fun i => (i.zero, i.size)) = some (some (.agg #[.int .i64 0, .int .i64 0, .int .i64 0, .int .i64 0, .int .i64 0]), 5) := by kernel_rfl

theorem wf_i64 {z : Int} (h0 : -9223372036854775808 ≤ z) (h1 : z ≤ 9223372036854775807) : (Lit.int .i64 z).wf = true := by
  simp [Lit.wf, IntKind.min, IntKind.max, IntKind.signed, IntKind.bits]
  omega
def badCode (n : Nat) : Int := if n < 12 then 2 else if n > 26 then 3 else 4
end Go.Proofs.Ytgklbmhihfmagaa
