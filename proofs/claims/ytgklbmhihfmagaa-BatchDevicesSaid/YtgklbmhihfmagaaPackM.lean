/- Layer 4: packets, the mathematics. -/
import Derived.Test.YtgklbmhihfmagaaBitsP
import Derived.Test.YtgklbmhihfmagaaMemC
import Derived.Laws.CopyOwn
namespace Go.Proofs.Ytgklbmhihfmagaa
open Go.ChangeShapes Go.WideShapes Go.ChangeAt Go.RowKit
set_option linter.unusedVariables false
set_option linter.unusedSimpArgs false

structure Pk where
  dev : Int
  chan : Int
  boot : Int
  seq : Int
  stamp : Int
  vals : List Int
deriving DecidableEq

def Pk.zero : Pk := ⟨0, 0, 0, 0, 0, []⟩
def valsOk (l : List Int) : Prop := ∀ v ∈ l, -32768 ≤ v ∧ v ≤ 32767
instance (l : List Int) : Decidable (valsOk l) := by unfold valsOk; infer_instance
def headOk (p : Pk) : Prop := (0 ≤ p.dev ∧ p.dev ≤ 255) ∧ (0 ≤ p.chan ∧ p.chan ≤ 255) ∧ (0 ≤ p.boot ∧ p.boot ≤ 255) ∧ (0 ≤ p.seq ∧ p.seq ≤ 65535) ∧ (0 ≤ p.stamp ∧ p.stamp ≤ 1099511627775)
instance (p : Pk) : Decidable (headOk p) := by unfold headOk; infer_instance
def Pk.right (p : Pk) : Prop := headOk p ∧ (1 ≤ p.vals.length ∧ p.vals.length ≤ 8) ∧ valsOk p.vals
instance (p : Pk) : Decidable p.right := by unfold Pk.right; infer_instance

def vdata (l : List Int) : List Int := l.flatMap fun v => putB (bre v) 2
def hdata (p : Pk) : Nat → List Int
  | 0 => []
  | 1 => putB p.dev 1
  | 2 => putB p.dev 1 ++ putB p.chan 1
  | 3 => putB p.dev 1 ++ putB p.chan 1 ++ putB p.boot 1
  | 4 => putB p.dev 1 ++ putB p.chan 1 ++ putB p.boot 1 ++ putB p.seq 2
  | _ => putB p.dev 1 ++ putB p.chan 1 ++ putB p.boot 1 ++ putB p.seq 2 ++ putB p.stamp 5
def Pk.data (p : Pk) : List Int := hdata p 5 ++ vdata p.vals

def valsOf : List Int → List Int
  | a :: b :: r => sgn (num [a, b]) :: valsOf r
  | _ => []
def ofB (bs : List Int) : Pk := ⟨bs.getD 0 0, bs.getD 1 0, bs.getD 2 0, num ((bs.drop 3).take 2), num ((bs.drop 5).take 5), valsOf (bs.drop 10)⟩

theorem vdata_len (l : List Int) : (vdata l).length = 2 * l.length := by
  induction l with
  | nil => rfl
  | cons a l ih => simp [vdata, putB_len] at ih ⊢; omega
theorem hdata_len (p : Pk) : (hdata p 5).length = 10 := by simp [hdata, putB_len]
theorem data_len (p : Pk) : p.data.length = 10 + 2 * p.vals.length := by
  rw [Pk.data, List.length_append, hdata_len, vdata_len]
theorem vdata_range (l : List Int) : ∀ x ∈ vdata l, 0 ≤ x ∧ x ≤ 255 := by
  intro x hx
  obtain ⟨a, _, h⟩ := List.mem_flatMap.1 hx
  exact putB_range _ _ x h
theorem app_range {l m : List Int} (h : ∀ x ∈ l, 0 ≤ x ∧ x ≤ 255) (k : ∀ x ∈ m, 0 ≤ x ∧ x ≤ 255) : ∀ x ∈ l ++ m, 0 ≤ x ∧ x ≤ 255 := by
  intro x hx
  rcases List.mem_append.1 hx with hx | hx
  · exact h x hx
  · exact k x hx
theorem hdata_range (p : Pk) (k : Nat) : ∀ x ∈ hdata p k, 0 ≤ x ∧ x ≤ 255 := by
  have h1 := putB_range p.dev 1
  have h2 := putB_range p.chan 1
  have h3 := putB_range p.boot 1
  have h4 := putB_range p.seq 2
  have h5 := putB_range p.stamp 5
  match k with
  | 0 => intro x hx; cases hx
  | 1 => exact h1
  | 2 => exact app_range h1 h2
  | 3 => exact app_range (app_range h1 h2) h3
  | 4 => exact app_range (app_range (app_range h1 h2) h3) h4
  | k + 5 => exact app_range (app_range (app_range (app_range h1 h2) h3) h4) h5
theorem data_range (p : Pk) : ∀ x ∈ p.data, 0 ≤ x ∧ x ≤ 255 := by
  intro x hx
  rcases List.mem_append.1 hx with h | h
  · exact hdata_range p 5 x h
  · exact vdata_range _ x h
theorem putB_one (n : Int) : putB n 1 = [n % 256] := by simp [putB]
theorem putB_two (n : Int) : putB n 2 = [n / 256 % 256, n % 256] := by simp [putB]
theorem sgn_bre (v : Int) (h : -32768 ≤ v ∧ v ≤ 32767) : sgn (bre v) = v := by unfold sgn bre; (repeat' split) <;> omega
theorem bre_sgn (n : Int) (h : 0 ≤ n ∧ n < 65536) : bre (sgn n) = n := by unfold sgn bre; (repeat' split) <;> omega
theorem bre_range (v : Int) : 0 ≤ bre v ∧ bre v < 65536 := by unfold bre; (repeat' split) <;> omega
theorem sgn_range (v : Int) : -32768 ≤ sgn v ∧ sgn v ≤ 32767 := by unfold sgn; (repeat' split) <;> omega
theorem valsOf_vdata (l : List Int) (h : valsOk l) : valsOf (vdata l) = l := by
  induction l with
  | nil => rfl
  | cons v l ih =>
    have hv := h v (by simp)
    have hb := bre_range v
    show valsOf (putB (bre v) 2 ++ vdata l) = _
    rw [putB_two]
    show sgn (num [bre v / 256 % 256, bre v % 256]) :: valsOf (vdata l) = _
    rw [ih fun x hx => h x (by simp [hx])]
    congr 1
    have : num [bre v / 256 % 256, bre v % 256] = bre v := by simp [num]; omega
    rw [this, sgn_bre v hv]
theorem vdata_valsOf : ∀ (n : Nat) (bs : List Int), bs.length = 2 * n → (∀ x ∈ bs, 0 ≤ x ∧ x ≤ 255) → vdata (valsOf bs) = bs ∧ (valsOf bs).length = n ∧ valsOk (valsOf bs) := by
  intro n
  induction n with
  | zero => intro bs h _; have := List.eq_nil_of_length_eq_zero h; subst this; exact ⟨rfl, rfl, by simp [valsOk, valsOf]⟩
  | succ n ih =>
    intro bs h hr
    match bs, h with
    | a :: b :: r, h =>
      have ha := hr a (by simp)
      have hb := hr b (by simp)
      obtain ⟨h1, h2, h3⟩ := ih r (by simp at h; omega) fun x hx => hr x (by simp [hx])
      have hn : num [a, b] = a * 256 + b := by simp [num]
      refine ⟨?_, by simp [valsOf, h2], ?_⟩
      · show putB (bre (sgn (num [a, b]))) 2 ++ vdata (valsOf r) = _
        rw [h1, bre_sgn _ (by omega), hn, putB_two]
        have e1 : (a * 256 + b) / 256 % 256 = a := by omega
        have e2 : (a * 256 + b) % 256 = b := by omega
        rw [e1, e2]
        rfl
      · intro v hv
        simp only [valsOf, List.mem_cons] at hv
        rcases hv with rfl | hv
        · exact sgn_range _
        · exact h3 v hv
theorem hdata_five (p : Pk) : hdata p 5 = [p.dev % 256, p.chan % 256, p.boot % 256, p.seq / 256 % 256, p.seq % 256] ++ putB p.stamp 5 := by
  simp [hdata, putB_one, putB_two]
theorem ofB_data (p : Pk) (h : p.right) : ofB p.data = p := by
  obtain ⟨⟨h1, h2, h3, h4, h5⟩, h6, h7⟩ := h
  have e5 := num_putB 5 p.stamp h5.1 (by omega)
  have l5 := putB_len p.stamp 5
  have hv := valsOf_vdata p.vals h7
  have hd : p.data = p.dev % 256 :: p.chan % 256 :: p.boot % 256 :: p.seq / 256 % 256 :: p.seq % 256 :: (putB p.stamp 5 ++ vdata p.vals) := by
    rw [Pk.data, hdata_five]; simp
  rw [hd]
  obtain ⟨dev, chan, boot, seq, stamp, vals⟩ := p
  dsimp only at *
  have t5 : (putB stamp 5 ++ vdata vals).take 5 = putB stamp 5 := by rw [List.take_append_of_le_length (by omega)]; exact List.take_of_length_le (by omega)
  have d5 : (putB stamp 5 ++ vdata vals).drop 5 = vdata vals := by rw [List.drop_append, l5]; simp [List.drop_eq_nil_of_le (Nat.le_of_eq l5)]
  unfold ofB
  simp only [List.drop_succ_cons, List.drop_zero, List.take_succ_cons, List.take_zero, t5, d5, e5, hv, List.getD_cons_zero, List.getD_cons_succ]
  have e4 : num [seq / 256 % 256, seq % 256] = seq := by simp [num]; omega
  rw [e4]
  congr 1 <;> omega
theorem data_ofB (bs : List Int) (h1 : 12 ≤ bs.length) (h2 : bs.length ≤ 26) (h3 : bs.length % 2 = 0) (hr : ∀ x ∈ bs, 0 ≤ x ∧ x ≤ 255) : (ofB bs).data = bs ∧ (ofB bs).right := by
  match bs, h1 with
  | b0 :: b1 :: b2 :: b3 :: b4 :: b5 :: b6 :: b7 :: b8 :: b9 :: r, h1 =>
    simp only [List.length_cons] at h1 h2 h3
    have hb : ∀ (i : Nat) (x : Int), (b0 :: b1 :: b2 :: b3 :: b4 :: b5 :: b6 :: b7 :: b8 :: b9 :: r)[i]? = some x → 0 ≤ x ∧ x ≤ 255 := fun i x hx => hr x (List.mem_of_getElem? hx)
    have r0 := hb 0 b0 rfl
    have r1 := hb 1 b1 rfl
    have r2 := hb 2 b2 rfl
    have r3 := hb 3 b3 rfl
    have r4 := hb 4 b4 rfl
    have r5 := hb 5 b5 rfl
    have r6 := hb 6 b6 rfl
    have r7 := hb 7 b7 rfl
    have r8 := hb 8 b8 rfl
    have r9 := hb 9 b9 rfl
    obtain ⟨v1, v2, v3⟩ := vdata_valsOf (r.length / 2) r (by omega) fun x hx => hr x (by simp [hx])
    have e : ofB (b0 :: b1 :: b2 :: b3 :: b4 :: b5 :: b6 :: b7 :: b8 :: b9 :: r) = ⟨b0, b1, b2, num [b3, b4], num [b5, b6, b7, b8, b9], valsOf r⟩ := rfl
    have q5 := putB_num [b5, b6, b7, b8, b9] (by intro x hx; simp at hx; omega)
    have n5 := num_range [b5, b6, b7, b8, b9] (by intro x hx; simp at hx; omega)
    rw [e]
    refine ⟨?_, ⟨r0, r1, r2, ?_, ?_⟩, ?_, v3⟩
    · rw [Pk.data, hdata_five]
      have q6 : putB (num [b5, b6, b7, b8, b9]) 5 = [b5, b6, b7, b8, b9] := q5
      dsimp only
      rw [v1, q6]
      have n2 : num [b3, b4] = b3 * 256 + b4 := by simp [num]
      rw [n2]
      have e3 : (b3 * 256 + b4) / 256 % 256 = b3 := by omega
      have e4 : (b3 * 256 + b4) % 256 = b4 := by omega
      have m0 : b0 % 256 = b0 := by omega
      have m1 : b1 % 256 = b1 := by omega
      have m2 : b2 % 256 = b2 := by omega
      rw [e3, e4, m0, m1, m2]
      simp
    · simp [num]; omega
    · have e5 : [b5, b6, b7, b8, b9].length = 5 := rfl
      have : ((256 : Int) ^ 5) = 1099511627776 := by decide
      rw [e5, this] at n5
      dsimp only
      omega
    · dsimp only; omega
theorem data_inj (p q : Pk) (hp : p.right) (hq : q.right) : (p.data = q.data) = (p = q) := by
  refine propext ⟨fun h => ?_, fun h => by rw [h]⟩
  rw [← ofB_data p hp, ← ofB_data q hq, h]
theorem vdata_snoc (l : List Int) (v : Int) : vdata (l ++ [v]) = vdata l ++ putB (bre v) 2 := by simp [vdata]
theorem data_snoc (p : Pk) (v : Int) : ({ p with vals := p.vals ++ [v] } : Pk).data = p.data ++ putB (bre v) 2 := by
  rw [Pk.data, Pk.data, vdata_snoc, ← List.append_assoc]
  rfl
theorem valsOf_step : ∀ (k : Nat) (r : List Int), 2 * (k + 1) ≤ r.length → valsOf (r.take (2 * (k + 1))) = valsOf (r.take (2 * k)) ++ [sgn (num ((r.drop (2 * k)).take 2))] := by
  intro k
  induction k with
  | zero =>
    intro r h
    match r, h with
    | a :: b :: r, _ => simp [valsOf]
  | succ k ih =>
    intro r h
    match r, h with
    | a :: b :: r, h =>
      have h' := ih r (by simp at h; omega)
      have e1 : 2 * (k + 1 + 1) = 2 * (k + 1) + 1 + 1 := by omega
      have e2 : 2 * (k + 1) = 2 * k + 1 + 1 := by omega
      rw [e1, List.take_succ_cons, List.take_succ_cons, valsOf, h', e2, List.take_succ_cons, List.take_succ_cons, valsOf, List.drop_succ_cons, List.drop_succ_cons]
      rfl
theorem valsOf_all (r : List Int) (k : Nat) (h : 2 * k = r.length) : valsOf (r.take (2 * k)) = valsOf r := by rw [h, List.take_length]

theorem splice_app {α : Type} (L R cs : List α) (off : Nat) (h : L.length = off) : splice (L ++ R) off cs = L ++ (cs ++ R.drop cs.length) := by
  subst h
  simp [splice]
end Go.Proofs.Ytgklbmhihfmagaa
