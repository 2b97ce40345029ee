/- Layer 23: what comes in. -/
import Derived.Test.YtaelhgkodcgmnaaDoorRendC
namespace Go.Proofs.YtaelhgkodcgmnaaDoor
open Go.ChangeShapes Go.WideShapes Go.ChangeAt Go.RowKit Go.Deep
set_option linter.unusedVariables false
set_option linter.unusedSimpArgs false

theorem three_ {α : Type} {l : List α} (h : l.length = 3) : ∃ a b c, l = [a, b, c] := by
  match l, h with
  | [a, b, c], _ => exact ⟨a, b, c, rfl⟩
theorem two_ {α : Type} {l : List α} (h : l.length = 2) : ∃ a b, l = [a, b] := by
  match l, h with
  | [a, b], _ => exact ⟨a, b, rfl⟩
theorem four_ {α : Type} {l : List α} (h : l.length = 4) : ∃ a b c d, l = [a, b, c, d] := by
  match l, h with
  | [a, b, c, d], _ => exact ⟨a, b, c, d, rfl⟩
/-- what is told, and where its rows lie -/
structure TdV where
  t : Td
  ca : Option Addr
  cc : Nat
  ra : Option Addr
  rc : Nat
  ha : Option Addr
  hc : Nat
instance : Inhabited TdV := ⟨⟨Td.zero, none, 0, none, 0, none, 0⟩⟩
def f4 (x : TdV) : List Value := [.int .i64 x.t.tick, .slice x.ca x.t.cells.length x.cc, .slice x.ra x.t.rules.length x.rc, .slice x.ha x.t.chans.length x.hc]
theorem f4_len (x : TdV) : (f4 x).length = 4 := rfl
theorem f4_one (x : TdV) : ∀ u ∈ f4 x, u.oneCell' = true := by
  intro u hu
  simp [f4] at hu
  rcases hu with rfl | rfl | rfl | rfl <;> rfl
def TdV.ok (w : World) (x : TdV) : Prop := CRow w (.slice x.ca x.t.cells.length x.cc) x.t.cells ∧ ARow w (.slice x.ra x.t.rules.length x.rc) x.t.rules ∧ ARow w (.slice x.ha x.t.chans.length x.hc) x.t.chans ∧ td64 x.t
theorem TdV.ok.below {w w' : World} {x : TdV} (h : x.ok w) (hb : Below w.heap.size w w') : x.ok w' := ⟨h.1.below hb, h.2.1.below hb, h.2.2.1.below hb, h.2.2.2⟩
theorem TdV.ok.told {w : World} {x : TdV} (h : x.ok w) : ToldV w (.agg #[.int .i64 x.t.tick, .slice x.ca x.t.cells.length x.cc, .slice x.ra x.t.rules.length x.rc, .slice x.ha x.t.chans.length x.hc]) x.t := ⟨_, _, _, rfl, h.1, h.2.1, h.2.2.1⟩
/-- rows of what is told -/
def TRow (w : World) (v : Value) (l : List TdV) : Prop := (∃ A c, v = .slice A l.length c) ∧ RowN 4 w v l.length (tk f4 l) ∧ ∀ x ∈ l, x.ok w
theorem TRow.below {w w' : World} {v : Value} {l : List TdV} (h : TRow w v l) (hb : Below w.heap.size w w') : TRow w' v l := ⟨h.1, h.2.1.below hb, fun x hx => (h.2.2 x hx).below hb⟩
theorem TRow.nil_ {w : World} : TRow w (.slice none 0 0) [] := ⟨⟨none, 0, rfl⟩, RowN.nil_, by simp⟩
theorem TRow.atw {w : World} {l : List TdV} {A : Option Addr} {n c : Nat} (h : TRow w (.slice A n c) l) {i : Nat} {x : TdV} (hi : l[i]? = some x) :
    ∃ ad, A = some ad ∧ (ad.add (i * 4)).block < w.heap.size ∧ w.cell? (ad.add (i * 4)) = some (.int .i64 x.t.tick) ∧ w.cell? ⟨(ad.add (i * 4)).block, (ad.add (i * 4)).off + 1, none⟩ = some (.slice x.ca x.t.cells.length x.cc) ∧ w.cell? ⟨(ad.add (i * 4)).block, (ad.add (i * 4)).off + 2, none⟩ = some (.slice x.ra x.t.rules.length x.rc) ∧ w.cell? ⟨(ad.add (i * 4)).block, (ad.add (i * 4)).off + 3, none⟩ = some (.slice x.ha x.t.chans.length x.hc) := by
  obtain ⟨⟨A1, c1, e⟩, h2, _⟩ := h
  injection e with e1 e2 e3
  obtain ⟨ad, c', e', hb, h0, hc⟩ := RowN.atw f4_len (by decide) h2 hi
  injection e' with e4 e5 e6
  exact ⟨ad, e4, hb, h0 _ rfl, hc 1 _ (by decide) rfl, hc 2 _ (by decide) rfl, hc 3 _ (by decide) rfl⟩
theorem wf_in64 {z : Int} (h : (Lit.int .i64 z).wf = true) : in64 z := by
  have := bounds_i64 h
  unfold in64
  omega
section
variable {H : Type} {enc : TypeId × Value → H} {w : World} {rch : Reach} {b0 : Nat}
set_option maxRecDepth 100000 in
theorem cell_step (cs : List Value) (n : Nat) (y : DataW H × List MemPlace) (hl : cs.length = 3) (h3 : DataW.trod enc Tryd.prog w 0 (fun _ => true) true n 44 cs = some y) : ∃ x : Cl, cl64 x ∧ cs = f3 x := by
  obtain ⟨xs, n2, _, _, _, hlx, hg⟩ := DataW.trod_struct Tryd.underlying44 h3
  obtain ⟨u0, u1, u2, rfl⟩ := three_ hl
  obtain ⟨y0, y1, y2, rfl⟩ := three_ hlx
  have t0 : DataW.trod enc Tryd.prog w 0 (fun _ => true) true n2 3 [u0] = some y0 := hg 0 _ rfl
  have t1 : DataW.trod enc Tryd.prog w 0 (fun _ => true) true n2 3 [u1] = some y1 := hg 1 _ rfl
  have t2 : DataW.trod enc Tryd.prog w 0 (fun _ => true) true n2 3 [u2] = some y2 := hg 2 _ rfl
  obtain ⟨p0, q0, _, w0⟩ := DataW.trod_int Tryd.underlying3 t0
  obtain ⟨p1, q1, _, w1⟩ := DataW.trod_int Tryd.underlying3 t1
  obtain ⟨p2, q2, _, w2⟩ := DataW.trod_int Tryd.underlying3 t2
  simp at q0 q1 q2
  subst q0 q1 q2
  exact ⟨⟨p0, p1, p2⟩, ⟨wf_in64 w1, wf_in64 w2⟩, rfl⟩
set_option maxRecDepth 100000 in
theorem alarm_step (cs : List Value) (n : Nat) (y : DataW H × List MemPlace) (hl : cs.length = 2) (h3 : DataW.trod enc Tryd.prog w 0 (fun _ => true) true n 51 cs = some y) : ∃ x : Bool × Bool, True ∧ cs = f2 x := by
  obtain ⟨xs, n2, _, _, _, hlx, hg⟩ := DataW.trod_struct Tryd.underlying51 h3
  obtain ⟨u0, u1, rfl⟩ := two_ hl
  obtain ⟨y0, y1, rfl⟩ := two_ hlx
  have t0 : DataW.trod enc Tryd.prog w 0 (fun _ => true) true n2 4 [u0] = some y0 := hg 0 _ rfl
  have t1 : DataW.trod enc Tryd.prog w 0 (fun _ => true) true n2 4 [u1] = some y1 := hg 1 _ rfl
  obtain ⟨p0, q0, _⟩ := DataW.trod_bool Tryd.underlying4 t0
  obtain ⟨p1, q1, _⟩ := DataW.trod_bool Tryd.underlying4 t1
  simp at q0 q1
  subst q0 q1
  exact ⟨⟨p0, p1⟩, trivial, rfl⟩
set_option maxRecDepth 100000 in
theorem cells_trod {n : Nat} {u : Value} {y : DataW H × List MemPlace} (h : DataW.trod enc Tryd.prog w 0 (fun _ => true) true n 22 [u] = some y) : ∃ l, CRow w u l ∧ ∀ c ∈ l, cl64 c := by
  obtain ⟨l, hg, A, c, e, hr⟩ := tuples_of_trod1 f3_len (by decide) cl64 Tryd.underlying22 (by kernel_rfl) cell_step h
  rw [e]
  exact ⟨l, ⟨⟨A, c, rfl⟩, hr⟩, hg⟩
set_option maxRecDepth 100000 in
theorem alarms_trod {n : Nat} {u : Value} {y : DataW H × List MemPlace} (h : DataW.trod enc Tryd.prog w 0 (fun _ => true) true n 23 [u] = some y) : ∃ l, ARow w u l := by
  obtain ⟨l, _, A, c, e, hr⟩ := tuples_of_trod1 f2_len (by decide) (fun _ => True) Tryd.underlying23 (by kernel_rfl) alarm_step h
  rw [e]
  exact ⟨l, ⟨A, c, rfl⟩, hr⟩
set_option maxRecDepth 100000 in
theorem told_step (cs : List Value) (n : Nat) (y : DataW H × List MemPlace) (hl : cs.length = 4) (h3 : DataW.trod enc Tryd.prog w 0 (fun _ => true) true n 25 cs = some y) : ∃ x : TdV, x.ok w ∧ cs = f4 x := by
  obtain ⟨xs, n2, _, _, _, hlx, hg⟩ := DataW.trod_struct Tryd.underlying25 h3
  obtain ⟨u0, u1, u2, u3, rfl⟩ := four_ hl
  obtain ⟨y0, y1, y2, y3, rfl⟩ := four_ hlx
  have t0 : DataW.trod enc Tryd.prog w 0 (fun _ => true) true n2 3 [u0] = some y0 := hg 0 _ rfl
  have t1 : DataW.trod enc Tryd.prog w 0 (fun _ => true) true n2 22 [u1] = some y1 := hg 1 _ rfl
  have t2 : DataW.trod enc Tryd.prog w 0 (fun _ => true) true n2 23 [u2] = some y2 := hg 2 _ rfl
  have t3 : DataW.trod enc Tryd.prog w 0 (fun _ => true) true n2 23 [u3] = some y3 := hg 3 _ rfl
  obtain ⟨p0, q0, _, w0⟩ := DataW.trod_int Tryd.underlying3 t0
  obtain ⟨lc, hc, h6⟩ := cells_trod t1
  obtain ⟨lr, hr⟩ := alarms_trod t2
  obtain ⟨lh, hh⟩ := alarms_trod t3
  obtain ⟨A1, c1, rfl⟩ := hc.1
  obtain ⟨A2, c2, rfl⟩ := hr.1
  obtain ⟨A3, c3, rfl⟩ := hh.1
  simp at q0
  subst q0
  exact ⟨⟨⟨p0, lc, lr, lh⟩, A1, c1, A2, c2, A3, c3⟩, ⟨hc, hr, hh, wf_in64 w0, h6⟩, rfl⟩
set_option maxRecDepth 100000 in
/-- what is told, by value -/
theorem arg25_of_trod {v : Value} {d : DataW H} {p : List MemPlace} (hv : Value.okWide Tryd.prog w rch b0 25 v) (h : DataW.Trod enc Tryd.prog w 0 (fun _ => true) true 25 v d p) : ∃ t, ToldV w v t ∧ td64 t := by
  obtain ⟨cs, rfl, hsz⟩ := okWide_struct Tryd.underlying25 hv
  obtain ⟨fuel, hf⟩ := h
  have hl : cs.toList.length = 4 := by rw [Array.length_toList, hsz]; kernel_rfl
  obtain ⟨x, hx, e⟩ := told_step cs.toList fuel _ hl (by simpa [Value.cells] using hf)
  have : cs = (f4 x).toArray := by rw [← e]
  rw [this]
  exact ⟨x.t, hx.told, hx.2.2.2⟩
set_option maxRecDepth 100000 in
theorem arg26_of_trod {v : Value} {d : DataW H} {p : List MemPlace} (hv : Value.okWide Tryd.prog w rch b0 26 v) (h : DataW.Trod enc Tryd.prog w 0 (fun _ => true) true 26 v d p) : ∃ l, TRow w v l := by
  obtain ⟨a0, len0, cap0, rfl⟩ := okWide_slice Tryd.underlying26 hv
  obtain ⟨fuel, hf⟩ := h
  obtain ⟨l, hg, A, c, e, hr⟩ := tuples_of_trod1 f4_len (by decide) (fun x : TdV => x.ok w) Tryd.underlying26 (by kernel_rfl) told_step (by simpa [Value.cells] using hf)
  rw [e]
  exact ⟨l, ⟨A, c, rfl⟩, hr, hg⟩
end
end Go.Proofs.YtaelhgkodcgmnaaDoor
