/- Layer 18: rules and cells as they come in. -/
import Derived.Test.YtcdmojimdiiepaaRuleFV
import Derived.Test.YtcdmojimdiiepaaOpenV
import Derived.Deep.Fields
import Derived.ChangeSame
namespace Go.Proofs.Ytcdmojimdiiepaa
open Go.ChangeShapes Go.WideShapes Go.ChangeAt Go.RowKit Go.Deep
set_option linter.unusedVariables false
set_option linter.unusedSimpArgs false

section
variable {H : Type} {enc : TypeId × Value → H} {w : World} {rch : Reach} {b0 : Nat}

set_option maxRecDepth 100000 in
theorem cells_of_trod1 {v : Value} {n : Nat} {x : DataW H × List MemPlace} (hf : DataW.trod enc Try.prog w 0 (fun _ => true) true n 35 [v] = some x) : ∃ l : List Cl, ∃ A c, v = .slice A l.length c ∧ RowN 3 w (.slice A l.length c) l.length (c3c l) := by
  have hce : Try.prog.cellsOf 55 = 3 := by kernel_rfl
  rcases open_slice Try.underlying35 hf with ⟨hcs, _⟩ | ⟨a, len, cap, m, n', D, Pl, hcs, _, hl, hm, hmm, _, hi⟩
  · simp at hcs
    subst hcs
    exact ⟨[], none, 0, rfl, RowN.nil_⟩
  · simp at hcs
    subst hcs
    have hlm : len ≤ m := by rw [hmm]; simp; omega
    rw [hce] at hi
    have hX : ∀ i, i < len → ∃ o : Cl, w.cell? (a.add (i * 3)) = some (.int .i64 o.1) ∧ w.cell? (a.add (i * 3 + 1)) = some (.int .i64 o.2.1) ∧ w.cell? (a.add (i * 3 + 2)) = some (.int .i64 o.2.2) := by
      intro i hil
      obtain ⟨cs', hc1, hc2⟩ := hi i (by omega)
      obtain ⟨hb, hlen, hcell⟩ := World.cells?_some hc1
      obtain ⟨xs, n2, _, _, _, hlx, hg⟩ := DataW.trod_struct Try.underlying55 hc2
      obtain ⟨u0, u1, u2, rfl⟩ : ∃ u0 u1 u2, cs' = [u0, u1, u2] := by
        match cs', hlen with
        | [u0, u1, u2], _ => exact ⟨u0, u1, u2, rfl⟩
      obtain ⟨y0, y1, y2, rfl⟩ : ∃ y0 y1 y2, xs = [y0, y1, y2] := by
        match xs, hlx with
        | [y0, y1, y2], _ => exact ⟨y0, y1, y2, rfl⟩
      have t0' : DataW.trod enc Try.prog w 0 (fun _ => true) true n2 3 [u0] = some y0 := hg 0 _ rfl
      have t1' : DataW.trod enc Try.prog w 0 (fun _ => true) true n2 3 [u1] = some y1 := hg 1 _ rfl
      have t2' : DataW.trod enc Try.prog w 0 (fun _ => true) true n2 3 [u2] = some y2 := hg 2 _ rfl
      obtain ⟨p0, q0, _, _⟩ := DataW.trod_int Try.underlying3 t0'
      obtain ⟨p1, q1, _, _⟩ := DataW.trod_int Try.underlying3 t1'
      obtain ⟨p2, q2, _, _⟩ := DataW.trod_int Try.underlying3 t2'
      simp at q0 q1 q2
      subst q0 q1 q2
      have c0 := hcell 0 (by omega)
      have c1 := hcell 1 (by omega)
      have c2 := hcell 2 (by omega)
      rw [add_add] at c0 c1 c2
      exact ⟨(p0, p1, p2), by simpa using c0, by simpa using c1, by simpa using c2⟩
    obtain ⟨f, hF⟩ := choose_lt hX
    have hbl : 0 < len → a.block < w.heap.size := fun h0 => by
      have := lt_of_cell (hF 0 h0).1
      rwa [block_add] at this
    have hlen : ((List.range len).map f).length = len := by simp
    refine ⟨(List.range len).map f, some a, cap, by rw [hlen], c3c_len _, some a, cap, rfl, by rw [hlen]; simpa using hl, hm, .inr ⟨a, rfl, fun h0 => hbl ?_, fun i u hu => ?_⟩⟩
    · rw [c3c_len, hlen] at h0; omega
    · have hi3 : i < len * 3 := by
        have := (List.getElem?_eq_some_iff.1 hu).1
        rw [c3c_len, hlen] at this
        exact this
      have hq : i / 3 < len := by omega
      have hat := c3c_at ((List.range len).map f) (i / 3) (f (i / 3)) (by rw [List.getElem?_map, List.getElem?_range hq]; rfl)
      have hc := hF (i / 3) hq
      rcases (by omega : i % 3 = 0 ∨ i % 3 = 1 ∨ i % 3 = 2) with h | h | h
      · have e : i = i / 3 * 3 := by omega
        rw [e] at hu ⊢
        rw [show (i / 3 * 3) = (i / 3 * 3) from rfl, hat.1] at hu
        injection hu with hu
        subst hu
        exact hc.1
      · have e : i = i / 3 * 3 + 1 := by omega
        rw [e, hat.2.1] at hu
        injection hu with hu
        subst hu
        rw [e]
        have := hc.2.1
        rwa [show (i / 3 * 3 + 1) / 3 = i / 3 by omega]
      · have e : i = i / 3 * 3 + 2 := by omega
        rw [e, hat.2.2] at hu
        injection hu with hu
        subst hu
        rw [e]
        have := hc.2.2
        rwa [show (i / 3 * 3 + 2) / 3 = i / 3 by omega]

set_option maxRecDepth 100000 in
theorem terms_of_trod1 {v : Value} {n : Nat} {x : DataW H × List MemPlace} (hf : DataW.trod enc Try.prog w 0 (fun _ => true) true n 48 [v] = some x) : ∃ l : List Cl, ∃ A c, v = .slice A l.length c ∧ RowN 3 w (.slice A l.length c) l.length (c3c l) := by
  have hce : Try.prog.cellsOf 103 = 3 := by kernel_rfl
  rcases open_slice Try.underlying48 hf with ⟨hcs, _⟩ | ⟨a, len, cap, m, n', D, Pl, hcs, _, hl, hm, hmm, _, hi⟩
  · simp at hcs
    subst hcs
    exact ⟨[], none, 0, rfl, RowN.nil_⟩
  · simp at hcs
    subst hcs
    have hlm : len ≤ m := by rw [hmm]; simp; omega
    rw [hce] at hi
    have hX : ∀ i, i < len → ∃ o : Cl, w.cell? (a.add (i * 3)) = some (.int .i64 o.1) ∧ w.cell? (a.add (i * 3 + 1)) = some (.int .i64 o.2.1) ∧ w.cell? (a.add (i * 3 + 2)) = some (.int .i64 o.2.2) := by
      intro i hil
      obtain ⟨cs', hc1, hc2⟩ := hi i (by omega)
      obtain ⟨hb, hlen, hcell⟩ := World.cells?_some hc1
      obtain ⟨xs, n2, _, _, _, hlx, hg⟩ := DataW.trod_struct Try.underlying103 hc2
      obtain ⟨u0, u1, u2, rfl⟩ : ∃ u0 u1 u2, cs' = [u0, u1, u2] := by
        match cs', hlen with
        | [u0, u1, u2], _ => exact ⟨u0, u1, u2, rfl⟩
      obtain ⟨y0, y1, y2, rfl⟩ : ∃ y0 y1 y2, xs = [y0, y1, y2] := by
        match xs, hlx with
        | [y0, y1, y2], _ => exact ⟨y0, y1, y2, rfl⟩
      have t0' : DataW.trod enc Try.prog w 0 (fun _ => true) true n2 3 [u0] = some y0 := hg 0 _ rfl
      have t1' : DataW.trod enc Try.prog w 0 (fun _ => true) true n2 3 [u1] = some y1 := hg 1 _ rfl
      have t2' : DataW.trod enc Try.prog w 0 (fun _ => true) true n2 3 [u2] = some y2 := hg 2 _ rfl
      obtain ⟨p0, q0, _, _⟩ := DataW.trod_int Try.underlying3 t0'
      obtain ⟨p1, q1, _, _⟩ := DataW.trod_int Try.underlying3 t1'
      obtain ⟨p2, q2, _, _⟩ := DataW.trod_int Try.underlying3 t2'
      simp at q0 q1 q2
      subst q0 q1 q2
      have c0 := hcell 0 (by omega)
      have c1 := hcell 1 (by omega)
      have c2 := hcell 2 (by omega)
      rw [add_add] at c0 c1 c2
      exact ⟨(p0, p1, p2), by simpa using c0, by simpa using c1, by simpa using c2⟩
    obtain ⟨f, hF⟩ := choose_lt hX
    have hbl : 0 < len → a.block < w.heap.size := fun h0 => by
      have := lt_of_cell (hF 0 h0).1
      rwa [block_add] at this
    have hlen : ((List.range len).map f).length = len := by simp
    refine ⟨(List.range len).map f, some a, cap, by rw [hlen], c3c_len _, some a, cap, rfl, by rw [hlen]; simpa using hl, hm, .inr ⟨a, rfl, fun h0 => hbl ?_, fun i u hu => ?_⟩⟩
    · rw [c3c_len, hlen] at h0; omega
    · have hi3 : i < len * 3 := by
        have := (List.getElem?_eq_some_iff.1 hu).1
        rw [c3c_len, hlen] at this
        exact this
      have hq : i / 3 < len := by omega
      have hat := c3c_at ((List.range len).map f) (i / 3) (f (i / 3)) (by rw [List.getElem?_map, List.getElem?_range hq]; rfl)
      have hc := hF (i / 3) hq
      rcases (by omega : i % 3 = 0 ∨ i % 3 = 1 ∨ i % 3 = 2) with h | h | h
      · have e : i = i / 3 * 3 := by omega
        rw [e] at hu ⊢
        rw [show (i / 3 * 3) = (i / 3 * 3) from rfl, hat.1] at hu
        injection hu with hu
        subst hu
        exact hc.1
      · have e : i = i / 3 * 3 + 1 := by omega
        rw [e, hat.2.1] at hu
        injection hu with hu
        subst hu
        rw [e]
        have := hc.2.1
        rwa [show (i / 3 * 3 + 1) / 3 = i / 3 by omega]
      · have e : i = i / 3 * 3 + 2 := by omega
        rw [e, hat.2.2] at hu
        injection hu with hu
        subst hu
        rw [e]
        have := hc.2.2
        rwa [show (i / 3 * 3 + 2) / 3 = i / 3 by omega]

/-- cells that came in -/
def CellsV (w : World) (v : Value) (l : List Cl) : Prop := ∃ A c, v = .slice A l.length c ∧ RowN 3 w (.slice A l.length c) l.length (c3c l)
set_option maxRecDepth 100000 in
theorem arg35_of_trod {v : Value} {d : DataW H} {p : List MemPlace} (hv : Value.okWide Try.prog w rch b0 35 v) (h : DataW.Trod enc Try.prog w 0 (fun _ => true) true 35 v d p) : ∃ l, CellsV w v l := by
  obtain ⟨a0, len0, cap0, rfl⟩ := okWide_slice Try.underlying35 hv
  obtain ⟨fuel, hf⟩ := h
  exact cells_of_trod1 (by simpa [Value.cells] using hf)
def wit35 : Value := .slice none 0 0
def wit50 : Value := .agg #[.slice none 0 0, .int .i64 0, .bool false]
/-- a rule that came in -/
def RuleV (w : World) (v : Value) (z : Int × Bool × List T) : Prop := IsRule w v z.1 z.2.1 z.2.2
set_option maxRecDepth 100000 in
theorem arg50_of_trod {v : Value} {d : DataW H} {p : List MemPlace} (hv : Value.okWide Try.prog w rch b0 50 v) (h : DataW.Trod enc Try.prog w 0 (fun _ => true) true 50 v d p) : ∃ z, RuleV w v z := by
  obtain ⟨cs, n, rfl, hsz, hf⟩ := oopen_fields Try.underlying50 (by kernel_rfl) (by kernel_rfl) hv h
  obtain ⟨u0, y0, g0, t0⟩ := hf 0 _ rfl
  obtain ⟨u1, y1, g1, t1⟩ := hf 1 _ rfl
  obtain ⟨u2, y2, g2, t2⟩ := hf 2 _ rfl
  obtain ⟨p1, e1, _, _⟩ := DataW.trod_int Try.underlying3 t1
  obtain ⟨p2, e2, _⟩ := DataW.trod_bool Try.underlying4 t2
  simp at e1 e2
  subst e1 e2
  obtain ⟨l, A, c, rfl, hr⟩ := terms_of_trod1 t0
  have hcs : cs = #[.slice A l.length c, .int .i64 p1, .bool p2] := by
    obtain ⟨l⟩ := cs
    simp at hsz
    simp only [List.getElem?_toArray] at g0 g1 g2
    match l, hsz with
    | [a0, a1, a2], _ => simp at g0 g1 g2; simp [*]
  exact ⟨(p1, p2, l), ⟨A, c, by rw [hcs], hr⟩⟩
end
def goodB (z : Int × Bool × List T) (cs : List Cl) : Bool := decide (z.2.2.length ≤ 100) && decide (cs.length ≤ 100) && ruleB z.1 z.2.2 (cs.length : Int)
theorem good_facts {z : Int × Bool × List T} {cs : List Cl} (h : goodB z cs = true) : z.2.2.length ≤ 16 ∧ 1 ≤ z.2.2.length ∧ cs.length ≤ 100 ∧ ruleB z.1 z.2.2 (cs.length : Int) = true ∧ (∀ t ∈ z.2.2, tRight t (cs.length : Int) = true) ∧ evalN z.2.2 0 = some 1 := by
  unfold goodB at h
  rw [Bool.and_eq_true, Bool.and_eq_true, decide_eq_true_eq, decide_eq_true_eq] at h
  obtain ⟨h1, h2, h3⟩ := rule_n h.2
  exact ⟨h1.2.2.2, h1.2.2.1, h.1.2, h.2, h2, h3⟩
def oneL : List T := [(1, 1, 5), (2, 0, 2), (5, 0, 0), (3, 0, 0)]
set_option maxHeartbeats 1000000 in
theorem one_any (w : World) : Calls Try.prog 52 #[] w fun e w' => ∃ v, e = .returned v ∧ IsRule w' v 2 false oneL ∧ Below w.heap.size w w' := by
  have R0 := Lib.hid (Blk.new w 50 #[.slice none 0 0, .int .i64 0, .bool false] w.heap.size rfl)
  go_enter Try.func52, Try.ntmps52
  go_wp2
  refine bodyPost_ret (v := .agg #[.slice (some ⟨w.heap.size + 1, 0, none⟩) 4 4, .int .i64 2, .bool false]) (by simp [results, Try.results52, go_sem]) rfl ⟨_, rfl, ⟨_, 4, rfl, ?_⟩, by go_grown⟩
  exact RowN.of_blk (Blk.new _ _ _ _ (by simp)) rfl rfl (Nat.le_refl _) (by decide)
end Go.Proofs.Ytcdmojimdiiepaa
