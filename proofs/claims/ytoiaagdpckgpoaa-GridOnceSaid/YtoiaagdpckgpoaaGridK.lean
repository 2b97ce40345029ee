/- Layer 13: rows as they come in; settings; fresh grids. -/
import Derived.Test.YtoiaagdpckgpoaaGridJ
import Derived.Deep.Fields
import Derived.ChangeSame
namespace Go.Proofs.Ytoiaagdpckgpoaa
open Go.ChangeShapes Go.WideShapes Go.ChangeAt Go.RowKit Go.Deep
set_option linter.unusedVariables false
set_option linter.unusedSimpArgs false

structure OpI where
  (tell : Bool) (ch : Int) (k : Int) (v : Int) (f : Int)
instance : Inhabited OpI := ⟨⟨false, 0, 0, 0, 0⟩⟩
/-- The slice v reads as these. -/
def OpsRow (w : World) (v : Value) (l : List OpI) : Prop :=
  ∃ A c, v = .slice A l.length c ∧ l.length ≤ c ∧ c ≤ 9223372036854775807 ∧
    ∀ (i : Nat) (o : OpI), l[i]? = some o → ∃ ad, A = some ad ∧ ad.block < w.heap.size ∧ w.cell? (ad.add (i * 5)) = some (.bool o.tell) ∧ w.cell? (ad.add (i * 5 + 1)) = some (.int .i64 o.ch) ∧ w.cell? (ad.add (i * 5 + 2)) = some (.int .i16 o.k) ∧ w.cell? (ad.add (i * 5 + 3)) = some (.int .i64 o.v) ∧ w.cell? (ad.add (i * 5 + 4)) = some (.int .i64 o.f) ∧
      (-9223372036854775808 ≤ o.ch ∧ o.ch ≤ 9223372036854775807) ∧ (-32768 ≤ o.k ∧ o.k ≤ 32767)
def SamRow (w : World) (v : Value) (l : List (Int × Int)) : Prop :=
  ∃ A c, v = .slice A l.length c ∧ l.length ≤ c ∧ c ≤ 9223372036854775807 ∧
    ∀ (i : Nat) (o : Int × Int), l[i]? = some o → ∃ ad, A = some ad ∧ ad.block < w.heap.size ∧ w.cell? (ad.add (i * 2)) = some (.int .i64 o.1) ∧ w.cell? (ad.add (i * 2 + 1)) = some (.int .i64 o.2)

section
variable {H : Type} {enc : TypeId × Value → H} {w : World} {rch : Reach} {b0 : Nat}
theorem arg52_of_trod {v : Value} {d : DataW H} {p : List MemPlace} (hv : Value.okWide Try.prog w rch b0 52 v) (h : DataW.Trod enc Try.prog w 0 (fun _ => true) true 52 v d p) : ∃ l, SamRow w v l := by
  obtain ⟨a0, len0, cap0, rfl⟩ := okWide_slice Try.underlying52 hv
  obtain ⟨fuel, hf⟩ := h
  have hce : Try.prog.cellsOf 39 = 2 := by kernel_rfl
  rcases open_slice Try.underlying52 hf with ⟨hcs, _⟩ | ⟨a, len, cap, m, n, D, Pl, hcs, _, hl, hm, hmm, _, hi⟩
  · simp [Value.cells] at hcs
    obtain ⟨rfl, rfl, rfl⟩ := hcs
    exact ⟨[], none, 0, rfl, Nat.le_refl _, by omega, fun i o h => by simp at h⟩
  · simp [Value.cells] at hcs
    obtain ⟨rfl, rfl, rfl⟩ := hcs
    have hlm : len0 ≤ m := by rw [hmm]; simp; omega
    rw [hce] at hi
    have hX : ∀ i, i < len0 → ∃ o : Int × Int, w.cell? (a.add (i * 2)) = some (.int .i64 o.1) ∧ w.cell? (a.add (i * 2 + 1)) = some (.int .i64 o.2) := by
      intro i hil
      obtain ⟨cs', hc1, hc2⟩ := hi i (by omega)
      obtain ⟨hb, hlen, hcell⟩ := World.cells?_some hc1
      obtain ⟨y0, y1, n', _, hlc, t0, t1⟩ := trod_struct2 Try.underlying39 hc2
      obtain ⟨u0, u1, rfl⟩ : ∃ u0 u1, cs' = [u0, u1] := by
        match cs', hlen with
        | [u0, u1], _ => exact ⟨u0, u1, rfl⟩
      have t0' : DataW.trod enc Try.prog w 0 (fun _ => true) true n' 3 [u0] = some y0 := t0
      have t1' : DataW.trod enc Try.prog w 0 (fun _ => true) true n' 3 [u1] = some y1 := t1
      obtain ⟨p0, q0, _, w0⟩ := DataW.trod_int Try.underlying3 t0'
      obtain ⟨p1, q1, _, w1⟩ := DataW.trod_int Try.underlying3 t1'
      simp at q0 q1
      subst q0 q1
      have c0 := hcell 0 (by omega)
      have c1 := hcell 1 (by omega)
      rw [add_add] at c0 c1
      exact ⟨(p0, p1), by simpa using c0, by simpa using c1⟩
    obtain ⟨f, hF⟩ := choose_lt hX
    have hbl : 0 < len0 → a.block < w.heap.size := fun h0 => by
      have := lt_of_cell (hF 0 h0).1
      rwa [block_add] at this
    refine ⟨(List.range len0).map f, some a, cap0, by simp, by simpa using hl, hm, fun i o ho => ?_⟩
    have hil : i < len0 := by
      have := (List.getElem?_eq_some_iff.1 ho).1
      simpa using this
    rw [List.getElem?_map, List.getElem?_range hil] at ho
    have ho' : f i = o := by simpa using ho
    subst ho'
    have := hF i hil
    exact ⟨a, rfl, hbl (by omega), this.1, this.2⟩
theorem arg26_of_trod {v : Value} {d : DataW H} {p : List MemPlace} (hv : Value.okWide Try.prog w rch b0 26 v) (h : DataW.Trod enc Try.prog w 0 (fun _ => true) true 26 v d p) : ∃ l, OpsRow w v l := by
  obtain ⟨a0, len0, cap0, rfl⟩ := okWide_slice Try.underlying26 hv
  obtain ⟨fuel, hf⟩ := h
  have hce : Try.prog.cellsOf 41 = 5 := by kernel_rfl
  rcases open_slice Try.underlying26 hf with ⟨hcs, _⟩ | ⟨a, len, cap, m, n, D, Pl, hcs, _, hl, hm, hmm, _, hi⟩
  · simp [Value.cells] at hcs
    obtain ⟨rfl, rfl, rfl⟩ := hcs
    exact ⟨[], none, 0, rfl, Nat.le_refl _, by omega, fun i o h => by simp at h⟩
  · simp [Value.cells] at hcs
    obtain ⟨rfl, rfl, rfl⟩ := hcs
    have hlm : len0 ≤ m := by rw [hmm]; simp; omega
    rw [hce] at hi
    have hX : ∀ i, i < len0 → ∃ o : OpI, w.cell? (a.add (i * 5)) = some (.bool o.tell) ∧ w.cell? (a.add (i * 5 + 1)) = some (.int .i64 o.ch) ∧ w.cell? (a.add (i * 5 + 2)) = some (.int .i16 o.k) ∧ w.cell? (a.add (i * 5 + 3)) = some (.int .i64 o.v) ∧ w.cell? (a.add (i * 5 + 4)) = some (.int .i64 o.f) ∧ (-9223372036854775808 ≤ o.ch ∧ o.ch ≤ 9223372036854775807) ∧ (-32768 ≤ o.k ∧ o.k ≤ 32767) := by
      intro i hil
      obtain ⟨cs', hc1, hc2⟩ := hi i (by omega)
      obtain ⟨hb, hlen, hcell⟩ := World.cells?_some hc1
      obtain ⟨xs, n', _, _, _, hlx, hg⟩ := DataW.trod_struct Try.underlying41 hc2
      obtain ⟨u0, u1, u2, u3, u4, rfl⟩ : ∃ u0 u1 u2 u3 u4, cs' = [u0, u1, u2, u3, u4] := by
        match cs', hlen with
        | [u0, u1, u2, u3, u4], _ => exact ⟨u0, u1, u2, u3, u4, rfl⟩
      obtain ⟨y0, y1, y2, y3, rfl⟩ : ∃ y0 y1 y2 y3, xs = [y0, y1, y2, y3] := by
        match xs, hlx with
        | [y0, y1, y2, y3], _ => exact ⟨y0, y1, y2, y3, rfl⟩
      have t0' : DataW.trod enc Try.prog w 0 (fun _ => true) true n' 4 [u0] = some y0 := hg 0 _ rfl
      have t1' : DataW.trod enc Try.prog w 0 (fun _ => true) true n' 3 [u1] = some y1 := hg 1 _ rfl
      have t2' : DataW.trod enc Try.prog w 0 (fun _ => true) true n' 37 [u2] = some y2 := hg 2 _ rfl
      have t3' : DataW.trod enc Try.prog w 0 (fun _ => true) true n' 39 [u3, u4] = some y3 := hg 3 _ rfl
      obtain ⟨z0, z1, n2, _, _, t4, t5⟩ := trod_struct2 Try.underlying39 t3'
      have t4' : DataW.trod enc Try.prog w 0 (fun _ => true) true n2 3 [u3] = some z0 := t4
      have t5' : DataW.trod enc Try.prog w 0 (fun _ => true) true n2 3 [u4] = some z1 := t5
      obtain ⟨p0, q0, _⟩ := DataW.trod_bool Try.underlying4 t0'
      obtain ⟨p1, q1, _, w1⟩ := DataW.trod_int Try.underlying3 t1'
      obtain ⟨p2, q2, _, w2⟩ := DataW.trod_int Try.underlying37 t2'
      obtain ⟨p3, q3, _, w3⟩ := DataW.trod_int Try.underlying3 t4'
      obtain ⟨p4, q4, _, w4⟩ := DataW.trod_int Try.underlying3 t5'
      simp at q0 q1 q2 q3 q4
      subst q0 q1 q2 q3 q4
      have c0 := hcell 0 (by omega)
      have c1 := hcell 1 (by omega)
      have c2 := hcell 2 (by omega)
      have c3 := hcell 3 (by omega)
      have c4 := hcell 4 (by omega)
      rw [add_add] at c0 c1 c2 c3 c4
      exact ⟨⟨p0, p1, p2, p3, p4⟩, by simpa using c0, by simpa using c1, by simpa using c2, by simpa using c3, by simpa using c4, bounds_i64 w1, bounds_i16 w2⟩
    obtain ⟨f, hF⟩ := choose_lt hX
    have hbl : 0 < len0 → a.block < w.heap.size := fun h0 => by
      have := lt_of_cell (hF 0 h0).1
      rwa [block_add] at this
    refine ⟨(List.range len0).map f, some a, cap0, by simp, by simpa using hl, hm, fun i o ho => ?_⟩
    have hil : i < len0 := by
      have := (List.getElem?_eq_some_iff.1 ho).1
      simpa using this
    rw [List.getElem?_map, List.getElem?_range hil] at ho
    have ho' : f i = o := by simpa using ho
    subst ho'
    have := hF i hil
    exact ⟨a, rfl, hbl (by omega), this⟩
end
def wit52 : Value := .slice none 0 0
def wit26 : Value := .slice none 0 0

/-- a grid of which nothing is placed, from F on -/
def G0 (F N k : Nat) : List (Nat × List SB) := List.replicate N (F, List.replicate k ((0, 0), false))
theorem G0_len (F N k : Nat) : (G0 F N k).length = N := by simp [G0]
theorem G0_at (F N k i : Nat) (h : i < N) : (G0 F N k)[i]? = some (F, List.replicate k ((0, 0), false)) := by simp [G0, h]
theorem adv_rep (F k : Nat) (h : 0 < k) : adv (F, List.replicate k ((0, 0), false)) = (F + 1, List.replicate k ((0, 0), false)) := by
  obtain ⟨m, rfl⟩ : ∃ m, k = m + 1 := ⟨k - 1, by omega⟩
  show (F + 1, (List.replicate (m + 1) ((0, 0), false)).tail ++ [((0, 0), false)]) = _
  rw [List.replicate_succ, List.tail_cons, ← List.replicate_succ']
  rfl
theorem G0_adv (F N k : Nat) (h : 0 < k) : (G0 F N k).map adv = G0 (F + 1) N k := by
  unfold G0
  rw [List.map_replicate, adv_rep F k h]
theorem G0_first (F N k : Nat) (h : 0 < N) : gfirst (G0 F N k) = F := by
  obtain ⟨m, rfl⟩ : ∃ m, N = m + 1 := ⟨N - 1, by omega⟩
  rfl
theorem G0_ok (F N k : Nat) (h : F < 4611686018427387904) : ∀ r ∈ G0 F N k, r.1 < 4611686018427387904 := by
  intro r hr
  rw [List.eq_of_mem_replicate hr]
  exact h
theorem gputC_out (k : Nat) (rs : List (Nat × List SB)) (ch at_ : Int) (h : ch < 0 ∨ (rs.length : Int) ≤ ch) : gputC k rs ch at_ = 0 := by
  unfold gputC
  by_cases h0 : ch < 0
  · rw [if_pos h0]
  · rw [if_neg h0, List.getElem?_eq_none (by omega)]
theorem gputR_out (k : Nat) (rs : List (Nat × List SB)) (ch at_ : Int) (x : Int × Int) (h : ch < 0 ∨ (rs.length : Int) ≤ ch) : gputR k rs ch at_ x = rs := by
  unfold gputR
  by_cases h0 : ch < 0
  · rw [if_pos h0]
  · rw [if_neg h0, List.getElem?_eq_none (by omega)]
theorem gputC_in (k : Nat) (rs : List (Nat × List SB)) (i : Nat) (at_ : Int) (r : Nat × List SB) (h : rs[i]? = some r) : gputC k rs (i : Int) at_ = putC r.1 k r.2 at_ := by
  unfold gputC
  rw [if_neg (by omega), Int.toNat_natCast, h]
theorem gputR_in (k : Nat) (rs : List (Nat × List SB)) (i : Nat) (at_ : Int) (x : Int × Int) (r : Nat × List SB) (h : rs[i]? = some r) : gputR k rs (i : Int) at_ x = rs.set i (r.1, putQ r.1 k r.2 at_ x) := by
  unfold gputR
  rw [if_neg (by omega), Int.toNat_natCast, h]
theorem gputR_len (k : Nat) (rs : List (Nat × List SB)) (ch at_ : Int) (x : Int × Int) : (gputR k rs ch at_ x).length = rs.length := by
  unfold gputR
  by_cases h0 : ch < 0
  · rw [if_pos h0]
  · rw [if_neg h0]
    cases rs[ch.toNat]? <;> simp
theorem gputR_from (k : Nat) (rs : List (Nat × List SB)) (ch at_ : Int) (x : Int × Int) (F : Nat) (h : ∀ r ∈ rs, r.1 = F) : ∀ r ∈ gputR k rs ch at_ x, r.1 = F := by
  unfold gputR
  by_cases h0 : ch < 0
  · rw [if_pos h0]; exact h
  · rw [if_neg h0]
    cases hr : rs[ch.toNat]? with
    | none => exact h
    | some r =>
      intro y hy
      rcases List.mem_or_eq_of_mem_set hy with hy | rfl
      · exact h y hy
      · exact h r (List.mem_of_getElem? hr)
theorem adv_from (rs : List (Nat × List SB)) (F : Nat) (h : ∀ r ∈ rs, r.1 = F) : ∀ r ∈ rs.map adv, r.1 = F + 1 := by
  intro r hr
  obtain ⟨a, ha, rfl⟩ := List.mem_map.1 hr
  show a.1 + 1 = F + 1
  rw [h a ha]
theorem gfirst_from (rs : List (Nat × List SB)) (F : Nat) (h : ∀ r ∈ rs, r.1 = F) (h0 : 0 < rs.length) : gfirst rs = F := by
  match rs, h0 with
  | r :: l, _ => exact h r (by simp)
theorem putC_rep (F k : Nat) (p : Int) (hk : 0 < k) : putC F k (List.replicate k (((0 : Int), (0 : Int)), false)) ((F : Int) + p) = (if p < 0 then 6 else if p ≥ k then 7 else 9) := by
  unfold putC
  by_cases h1 : p < 0
  · rw [if_pos (by omega), if_pos h1]
  · rw [if_neg (by omega), if_neg h1]
    by_cases h2 : p ≥ k
    · rw [if_pos (by omega), if_pos h2]
    · have h3 : (List.replicate k (((0 : Int), (0 : Int)), false))[((F : Int) + p - (F : Int)).toNat]? = some ((0, 0), false) := by
        rw [List.getElem?_replicate, if_pos (by omega)]
      rw [if_neg (by omega), if_neg h2, h3]
      rfl
/-- what a right setting has -/
theorem conf_facts {c : Cf} (h : (!greatB c.rows && confO c) = true) : ∃ k : Nat, c.C = (k : Int) ∧ 1 ≤ k ∧ k ≤ 64 ∧ 0 < (chansOf c.rows).length ∧ (chansOf c.rows).length ≤ 2500 := by
  rw [Bool.and_eq_true, Bool.not_eq_true'] at h
  obtain ⟨p1, p2, p3, p4⟩ := confP h.2
  refine ⟨c.C.toNat, by omega, by omega, by omega, ?_, great_len h.1⟩
  have hl : 0 < c.rows.length := by omega
  have h1 := p4 _ (List.getElem_mem hl)
  have h2 : 0 < lenAt c.rows 0 := by
    unfold lenAt
    rw [List.getElem?_eq_getElem hl]
    have := h1.1.1
    simp
    omega
  have := came_lt c.rows 0 0 hl h2
  omega
end Go.Proofs.Ytoiaagdpckgpoaa
