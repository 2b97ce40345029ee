/- Layer 21: settings with rules, and rows of what is done, as they come in. -/
import Derived.Test.YtcdmojimdiiepaaAlarmG
import Derived.Test.YtcdmojimdiiepaaRuleIV
import Derived.Test.YtcdmojimdiiepaaRuleUV
import Derived.Deep.Fields
import Derived.ChangeSame
namespace Go.Proofs.Ytcdmojimdiiepaa
open Go.ChangeShapes Go.WideShapes Go.ChangeAt Go.RowKit Go.Deep
set_option linter.unusedVariables false
set_option linter.unusedSimpArgs false

def t3 {α : Type} (f : α → Value × Value × Value) (l : List α) : List Value := l.flatMap fun a => [(f a).1, (f a).2.1, (f a).2.2]
theorem t3_len {α : Type} (f : α → Value × Value × Value) (l : List α) : (t3 f l).length = l.length * 3 := by
  induction l with
  | nil => rfl
  | cons a l ih => simp [t3] at ih ⊢; omega
theorem t3_at {α : Type} (f : α → Value × Value × Value) (l : List α) (i : Nat) (a : α) (h : l[i]? = some a) : (t3 f l)[i * 3]? = some (f a).1 ∧ (t3 f l)[i * 3 + 1]? = some (f a).2.1 ∧ (t3 f l)[i * 3 + 2]? = some (f a).2.2 := by
  induction l generalizing i with
  | nil => simp at h
  | cons b l ih =>
    cases i with
    | zero =>
      simp at h
      subst h
      exact ⟨rfl, rfl, rfl⟩
    | succ i =>
      have h' : l[i]? = some a := by simpa using h
      have := ih i h'
      have e1 : (i + 1) * 3 = i * 3 + 3 := by omega
      rw [e1]
      exact this
section
variable {H : Type} {enc : TypeId × Value → H} {w : World} {rch : Reach} {b0 : Nat}
set_option maxRecDepth 100000 in
theorem triples_of_trod1 {α : Type} [Inhabited α] (f : α → Value × Value × Value) (Good : α → Prop) {t e : TypeId} (ht : Try.prog.underlying t = some (.slice e)) (hce : Try.prog.cellsOf e = 3)
    (step : ∀ cs n y, cs.length = 3 → DataW.trod enc Try.prog w 0 (fun _ => true) true n e cs = some y → ∃ a : α, Good a ∧ cs = [(f a).1, (f a).2.1, (f a).2.2])
    {v : Value} {n : Nat} {x : DataW H × List MemPlace} (hf : DataW.trod enc Try.prog w 0 (fun _ => true) true n t [v] = some x) :
    ∃ l : List α, (∀ a ∈ l, Good a) ∧ ∃ A c, v = .slice A l.length c ∧ RowN 3 w (.slice A l.length c) l.length (t3 f l) := by
  rcases open_slice ht hf with ⟨hcs, _⟩ | ⟨a, len, cap, m, n', D, Pl, hcs, _, hl, hm, hmm, _, hi⟩
  · simp at hcs
    subst hcs
    exact ⟨[], by simp, none, 0, rfl, RowN.nil_⟩
  · simp at hcs
    subst hcs
    have hlm : len ≤ m := by rw [hmm]; simp; omega
    rw [hce] at hi
    have hX : ∀ i, i < len → ∃ o : α, Good o ∧ w.cell? (a.add (i * 3)) = some (f o).1 ∧ w.cell? (a.add (i * 3 + 1)) = some (f o).2.1 ∧ w.cell? (a.add (i * 3 + 2)) = some (f o).2.2 := by
      intro i hil
      obtain ⟨cs', hc1, hc2⟩ := hi i (by omega)
      obtain ⟨hb, hlen, hcell⟩ := World.cells?_some hc1
      obtain ⟨o, hg, rfl⟩ := step cs' _ _ hlen hc2
      have c0 := hcell 0 (by omega)
      have c1 := hcell 1 (by omega)
      have c2 := hcell 2 (by omega)
      rw [add_add] at c0 c1 c2
      exact ⟨o, hg, by simpa using c0, by simpa using c1, by simpa using c2⟩
    obtain ⟨g, hF⟩ := choose_lt hX
    have hbl : 0 < len → a.block < w.heap.size := fun h0 => by
      have := lt_of_cell (hF 0 h0).2.1
      rwa [block_add] at this
    have hlen : ((List.range len).map g).length = len := by simp
    refine ⟨(List.range len).map g, ?_, some a, cap, by rw [hlen], t3_len _ _, some a, cap, rfl, by rw [hlen]; simpa using hl, hm, .inr ⟨a, rfl, fun h0 => hbl ?_, fun i u hu => ?_⟩⟩
    · intro o ho
      obtain ⟨i, hi', rfl⟩ := List.mem_map.1 ho
      exact (hF i (List.mem_range.1 hi')).1
    · rw [t3_len, hlen] at h0; omega
    · have hi3 : i < len * 3 := by
        have := (List.getElem?_eq_some_iff.1 hu).1
        rw [t3_len, hlen] at this
        exact this
      have hq : i / 3 < len := by omega
      have hat := t3_at f ((List.range len).map g) (i / 3) (g (i / 3)) (by rw [List.getElem?_map, List.getElem?_range hq]; rfl)
      have hc := (hF (i / 3) hq).2
      rcases (by omega : i % 3 = 0 ∨ i % 3 = 1 ∨ i % 3 = 2) with h | h | h
      · have e : i = i / 3 * 3 := by omega
        rw [e] at hu ⊢
        rw [show (i / 3 * 3) = (i / 3 * 3) from rfl, hat.1] at hu
        injection hu with hu
        subst hu
        exact hc.1
      · have e : i = i / 3 * 3 + 1 := by omega
        rw [e, hat.2.1] at hu
        injection hu with hu
        subst hu
        rw [e]
        have := hc.2.1
        rwa [show (i / 3 * 3 + 1) / 3 = i / 3 by omega]
      · have e : i = i / 3 * 3 + 2 := by omega
        rw [e, hat.2.2] at hu
        injection hu with hu
        subst hu
        rw [e]
        have := hc.2.2
        rwa [show (i / 3 * 3 + 2) / 3 = i / 3 by omega]
theorem three {α : Type} {l : List α} (h : l.length = 3) : ∃ a b c, l = [a, b, c] := by
  match l, h with
  | [a, b, c], _ => exact ⟨a, b, c, rfl⟩
/-- what is done: acks, and a tick's cells -/
structure Ol where
  R : Int
  C : Int
  A : Option Addr
  cc : Nat
  cs : List Cl
instance : Inhabited Ol := ⟨⟨0, 0, none, 0, []⟩⟩
instance : Inhabited Rl := ⟨⟨none, 0, 0, false, []⟩⟩
def o3 (l : List Ol) : List Value := t3 (fun o => (.int .i64 o.R, .int .i64 o.C, .slice o.A o.cs.length o.cc)) l
def OpsV (w : World) (v : Value) (l : List Ol) : Prop := ∃ A c, v = .slice A l.length c ∧ RowN 3 w (.slice A l.length c) l.length (o3 l) ∧ ∀ o ∈ l, RowN 3 w (.slice o.A o.cs.length o.cc) o.cs.length (c3c o.cs)
def wit26 : Value := .slice none 0 0
set_option maxRecDepth 100000 in
theorem arg26_of_trod {v : Value} {d : DataW H} {p : List MemPlace} (hv : Value.okWide Try.prog w rch b0 26 v) (h : DataW.Trod enc Try.prog w 0 (fun _ => true) true 26 v d p) : ∃ l, OpsV w v l := by
  obtain ⟨a0, len0, cap0, rfl⟩ := okWide_slice Try.underlying26 hv
  obtain ⟨fuel, hf⟩ := h
  obtain ⟨l, hg, A, c, e, hr⟩ := triples_of_trod1 (w := w) (fun o : Ol => (.int .i64 o.R, .int .i64 o.C, .slice o.A o.cs.length o.cc)) (fun o => RowN 3 w (.slice o.A o.cs.length o.cc) o.cs.length (c3c o.cs)) Try.underlying26 (by kernel_rfl) (by
    intro cs n y hl h3
    obtain ⟨xs, n2, _, _, _, hlx, hg⟩ := DataW.trod_struct Try.underlying37 h3
    obtain ⟨u0, u1, u2, rfl⟩ := three hl
    obtain ⟨y0, y1, y2, rfl⟩ := three hlx
    have t0' : DataW.trod enc Try.prog w 0 (fun _ => true) true n2 3 [u0] = some y0 := hg 0 _ rfl
    have t1' : DataW.trod enc Try.prog w 0 (fun _ => true) true n2 3 [u1] = some y1 := hg 1 _ rfl
    have t2' : DataW.trod enc Try.prog w 0 (fun _ => true) true n2 35 [u2] = some y2 := hg 2 _ rfl
    obtain ⟨p0, q0, _, _⟩ := DataW.trod_int Try.underlying3 t0'
    obtain ⟨p1, q1, _, _⟩ := DataW.trod_int Try.underlying3 t1'
    obtain ⟨l, A, c, rfl, hrow⟩ := cells_of_trod1 t2'
    simp at q0 q1
    subst q0 q1
    exact ⟨⟨p0, p1, A, c, l⟩, hrow, rfl⟩) (by simpa [Value.cells] using hf)
  exact ⟨l, A, c, e, hr, hg⟩
def ConfV (w : World) (v : Value) (z : Cf × List Rl) : Prop := ConfR w v z.1 z.2
def wit25 : Value := .agg #[.int .i64 0, .int .i64 0, .int .i64 0, .int .i64 0, .int .i64 0, .int .i64 0, .int .i64 0, .int .i64 0, .int .i64 0, .slice none 0 0, .slice none 0 0]
set_option maxRecDepth 100000 in
theorem arg25_of_trod {v : Value} {d : DataW H} {p : List MemPlace} (hv : Value.okWide Try.prog w rch b0 25 v) (h : DataW.Trod enc Try.prog w 0 (fun _ => true) true 25 v d p) :
    ∃ z, ConfV w v z := by
  obtain ⟨cs, n, rfl, hsz, hf⟩ := open_fields Try.underlying25 (by kernel_rfl) (by kernel_rfl) hv h
  obtain ⟨u0, y0, g0, t0⟩ := hf 0 _ rfl
  obtain ⟨u1, y1, g1, t1⟩ := hf 1 _ rfl
  obtain ⟨u2, y2, g2, t2⟩ := hf 2 _ rfl
  obtain ⟨u3, y3, g3, t3⟩ := hf 3 _ rfl
  obtain ⟨u4, y4, g4, t4⟩ := hf 4 _ rfl
  obtain ⟨u5, y5, g5, t5⟩ := hf 5 _ rfl
  obtain ⟨u6, y6, g6, t6⟩ := hf 6 _ rfl
  obtain ⟨u7, y7, g7, t7⟩ := hf 7 _ rfl
  obtain ⟨u8, y8, g8, t8⟩ := hf 8 _ rfl
  obtain ⟨u9, y9, g9, t9⟩ := hf 9 _ rfl
  obtain ⟨u10, y10, g10, t10⟩ := hf 10 _ rfl
  obtain ⟨p0, e0, _, w0⟩ := DataW.trod_int Try.underlying3 t0
  obtain ⟨p1, e1, _, w1⟩ := DataW.trod_int Try.underlying3 t1
  obtain ⟨p2, e2, _, w2⟩ := DataW.trod_int Try.underlying3 t2
  obtain ⟨p3, e3, _, w3⟩ := DataW.trod_int Try.underlying3 t3
  obtain ⟨p4, e4, _, w4⟩ := DataW.trod_int Try.underlying3 t4
  obtain ⟨p5, e5, _, w5⟩ := DataW.trod_int Try.underlying3 t5
  obtain ⟨p6, e6, _, w6⟩ := DataW.trod_int Try.underlying3 t6
  obtain ⟨p7, e7, _, w7⟩ := DataW.trod_int Try.underlying3 t7
  obtain ⟨p8, e8, _, w8⟩ := DataW.trod_int Try.underlying3 t8
  simp at e0 e1 e2 e3 e4 e5 e6 e7 e8
  subst e0 e1 e2 e3 e4 e5 e6 e7 e8
  obtain ⟨rows, hrows, hwf⟩ := rows2_of_trod Try.underlying22 Try.underlying46 Try.underlying3 (by kernel_rfl) (by kernel_rfl) t9
  obtain ⟨rs, hg, RA, rc, rfl, hr⟩ := triples_of_trod1 (w := w) (fun r : Rl => (.slice r.A r.l.length r.rc, .int .i64 r.hold, .bool r.latch)) (fun r => RowN 3 w (.slice r.A r.l.length r.rc) r.l.length (c3c r.l)) Try.underlying23 (by kernel_rfl) (by
    intro cs n y hl h3
    obtain ⟨xs, n2, _, _, _, hlx, hg⟩ := DataW.trod_struct Try.underlying50 h3
    obtain ⟨u0, u1, u2, rfl⟩ := three hl
    obtain ⟨y0, y1, y2, rfl⟩ := three hlx
    have t0' : DataW.trod enc Try.prog w 0 (fun _ => true) true n2 48 [u0] = some y0 := hg 0 _ rfl
    have t1' : DataW.trod enc Try.prog w 0 (fun _ => true) true n2 3 [u1] = some y1 := hg 1 _ rfl
    have t2' : DataW.trod enc Try.prog w 0 (fun _ => true) true n2 4 [u2] = some y2 := hg 2 _ rfl
    obtain ⟨l, A, c, rfl, hrow⟩ := terms_of_trod1 t0'
    obtain ⟨p1, q1, _, _⟩ := DataW.trod_int Try.underlying3 t1'
    obtain ⟨p2, q2, _⟩ := DataW.trod_bool Try.underlying4 t2'
    simp at q1 q2
    subst q1 q2
    exact ⟨⟨A, c, p1, p2, l⟩, hrow, rfl⟩) t10
  have hcs : cs = #[.int .i64 p0, .int .i64 p1, .int .i64 p2, .int .i64 p3, .int .i64 p4, .int .i64 p5, .int .i64 p6, .int .i64 p7, .int .i64 p8, u9, .slice RA rs.length rc] := by
    obtain ⟨l⟩ := cs
    simp at hsz
    simp only [List.getElem?_toArray] at g0 g1 g2 g3 g4 g5 g6 g7 g8 g9 g10
    match l, hsz with
    | [a0, a1, a2, a3, a4, a5, a6, a7, a8, a9, a10], _ => simp at g0 g1 g2 g3 g4 g5 g6 g7 g8 g9 g10; simp [*]
  exact ⟨(⟨p0, p1, p2, p3, p4, p5, p6, p7, p8, rows⟩, rs), u9, RA, rc, by rw [hcs], hrows, hr, hg⟩
end
end Go.Proofs.Ytcdmojimdiiepaa
