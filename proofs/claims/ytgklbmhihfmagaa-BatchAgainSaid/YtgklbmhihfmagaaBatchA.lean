/- Layer 14: rows of packets and of tracks, as they come in. -/
import Derived.Test.YtgklbmhihfmagaaBatchM
import Derived.Test.YtgklbmhihfmagaaPackB
import Derived.Test.YtgklbmhihfmagaaRowK
namespace Go.Proofs.Ytgklbmhihfmagaa
open Go.ChangeShapes Go.WideShapes Go.ChangeAt Go.RowKit Go.Deep
set_option linter.unusedVariables false
set_option linter.unusedSimpArgs false

/-- a packet, and where its values lie -/
structure PV where
  p : Pk
  A : Option Addr
  c : Nat
instance : Inhabited PV := ⟨⟨Pk.zero, none, 0⟩⟩
def PV.vs (x : PV) : Value := .slice x.A x.p.vals.length x.c
def f6 (x : PV) : List Value := [.int .i64 x.p.dev, .int .i64 x.p.chan, .int .i64 x.p.boot, .int .i64 x.p.seq, .int .i64 x.p.stamp, x.vs]
def PV.agg (x : PV) : Value := .agg #[.int .i64 x.p.dev, .int .i64 x.p.chan, .int .i64 x.p.boot, .int .i64 x.p.seq, .int .i64 x.p.stamp, x.vs]
theorem f6_len (x : PV) : (f6 x).length = 6 := rfl
theorem f6_one (x : PV) : ∀ u ∈ f6 x, u.oneCell' = true := by
  intro u hu
  simp [f6, PV.vs] at hu
  rcases hu with rfl | rfl | rfl | rfl | rfl | rfl <;> rfl
structure TV where
  t : Tk
  A : Option Addr
  c : Nat
instance : Inhabited TV := ⟨⟨Tk.none, none, 0⟩⟩
def TV.vs (x : TV) : Value := .slice x.A x.t.some.length x.c
def f4 (x : TV) : List Value := [.bool x.t.on, .int .i64 x.t.boot, .int .i64 x.t.top, x.vs]
def TV.agg (x : TV) : Value := .agg #[.bool x.t.on, .int .i64 x.t.boot, .int .i64 x.t.top, x.vs]
theorem f4_len (x : TV) : (f4 x).length = 4 := rfl
theorem f4_one (x : TV) : ∀ u ∈ f4 x, u.oneCell' = true := by
  intro u hu
  simp [f4, TV.vs] at hu
  rcases hu with rfl | rfl | rfl | rfl <;> rfl
def PRow (w : World) (v : Value) (l : List PV) : Prop := (∃ A c, v = .slice A l.length c) ∧ RowN 6 w v l.length (tk f6 l) ∧ ∀ x ∈ l, Ints .i64 w x.vs x.p.vals
def TRow (w : World) (v : Value) (l : List TV) : Prop := (∃ A c, v = .slice A l.length c) ∧ RowN 4 w v l.length (tk f4 l) ∧ ∀ x ∈ l, Ints .i64 w x.vs x.t.some
section
variable {w w' : World} {v : Value}
theorem PRow.below {l : List PV} (h : PRow w v l) (hb : Below w.heap.size w w') : PRow w' v l := ⟨h.1, h.2.1.below hb, fun x hx => (h.2.2 x hx).below hb⟩
theorem TRow.below {l : List TV} (h : TRow w v l) (hb : Below w.heap.size w w') : TRow w' v l := ⟨h.1, h.2.1.below hb, fun x hx => (h.2.2 x hx).below hb⟩
theorem PRow.nil_ : PRow w (.slice none 0 0) [] := ⟨⟨none, 0, rfl⟩, RowN.nil_, by simp⟩
theorem TRow.nil_ : TRow w (.slice none 0 0) [] := ⟨⟨none, 0, rfl⟩, RowN.nil_, by simp⟩
theorem PRow.pk {l : List PV} (h : PRow w v l) {x : PV} (hx : x ∈ l) : PkV w x.agg x.p := ⟨x.vs, rfl, h.2.2 x hx⟩
/-- the cells of packet i -/
theorem PRow.at {l : List PV} {A : Option Addr} {n c : Nat} (h : PRow w (.slice A n c) l) {i : Nat} {x : PV} (hi : l[i]? = some x) :
    ∃ ad, A = some ad ∧ n = l.length ∧ ad.block < w.heap.size ∧ ∀ j u, (f6 x)[j]? = some u → w.cell? ((ad.add (i * 6)).add j) = some u := by
  obtain ⟨⟨A1, c1, e⟩, h2, _⟩ := h
  injection e with e1 e2 e3
  obtain ⟨ad, c', e', hb, hc⟩ := RowN.atk f6_len (by decide) h2 hi
  injection e' with e4 e5 e6
  exact ⟨ad, e4, e2, hb, hc⟩
theorem TRow.at {l : List TV} {A : Option Addr} {n c : Nat} (h : TRow w (.slice A n c) l) {i : Nat} {x : TV} (hi : l[i]? = some x) :
    ∃ ad, A = some ad ∧ n = l.length ∧ ad.block < w.heap.size ∧ ∀ j u, (f4 x)[j]? = some u → w.cell? ((ad.add (i * 4)).add j) = some u := by
  obtain ⟨⟨A1, c1, e⟩, h2, _⟩ := h
  injection e with e1 e2 e3
  obtain ⟨ad, c', e', hb, hc⟩ := RowN.atk f4_len (by decide) h2 hi
  injection e' with e4 e5 e6
  exact ⟨ad, e4, e2, hb, hc⟩
end
/-- .. in the walk's own spelling -/
theorem PRow.atw {w : World} {l : List PV} {A : Option Addr} {n c : Nat} (h : PRow w (.slice A n c) l) {i : Nat} {x : PV} (hi : l[i]? = some x) :
    ∃ ad, A = some ad ∧ n = l.length ∧ (ad.add (i * 6)).block < w.heap.size ∧ w.cell? (ad.add (i * 6)) = some (.int .i64 x.p.dev) ∧ w.cell? ⟨(ad.add (i * 6)).block, (ad.add (i * 6)).off + 1, none⟩ = some (.int .i64 x.p.chan) ∧ w.cell? ⟨(ad.add (i * 6)).block, (ad.add (i * 6)).off + 2, none⟩ = some (.int .i64 x.p.boot) ∧
      w.cell? ⟨(ad.add (i * 6)).block, (ad.add (i * 6)).off + 3, none⟩ = some (.int .i64 x.p.seq) ∧ w.cell? ⟨(ad.add (i * 6)).block, (ad.add (i * 6)).off + 4, none⟩ = some (.int .i64 x.p.stamp) ∧ w.cell? ⟨(ad.add (i * 6)).block, (ad.add (i * 6)).off + 5, none⟩ = some (.slice x.A x.p.vals.length x.c) := by
  obtain ⟨⟨A1, c1, e⟩, h2, _⟩ := h
  injection e with e1 e2 e3
  obtain ⟨ad, c', e', hb, h0, hc⟩ := RowN.atw f6_len (by decide) h2 hi
  injection e' with e4 e5 e6
  exact ⟨ad, e4, e2, hb, h0 _ rfl, hc 1 _ (by decide) rfl, hc 2 _ (by decide) rfl, hc 3 _ (by decide) rfl, hc 4 _ (by decide) rfl, hc 5 _ (by decide) rfl⟩
theorem TRow.atw {w : World} {l : List TV} {A : Option Addr} {n c : Nat} (h : TRow w (.slice A n c) l) {i : Nat} {x : TV} (hi : l[i]? = some x) :
    ∃ ad, A = some ad ∧ n = l.length ∧ (ad.add (i * 4)).block < w.heap.size ∧ w.cell? (ad.add (i * 4)) = some (.bool x.t.on) ∧ w.cell? ⟨(ad.add (i * 4)).block, (ad.add (i * 4)).off + 1, none⟩ = some (.int .i64 x.t.boot) ∧ w.cell? ⟨(ad.add (i * 4)).block, (ad.add (i * 4)).off + 2, none⟩ = some (.int .i64 x.t.top) ∧
      w.cell? ⟨(ad.add (i * 4)).block, (ad.add (i * 4)).off + 3, none⟩ = some (.slice x.A x.t.some.length x.c) := by
  obtain ⟨⟨A1, c1, e⟩, h2, _⟩ := h
  injection e with e1 e2 e3
  obtain ⟨ad, c', e', hb, h0, hc⟩ := RowN.atw f4_len (by decide) h2 hi
  injection e' with e4 e5 e6
  exact ⟨ad, e4, e2, hb, h0 _ rfl, hc 1 _ (by decide) rfl, hc 2 _ (by decide) rfl, hc 3 _ (by decide) rfl⟩
theorem six {α : Type} {l : List α} (h : l.length = 6) : ∃ a b c d e f, l = [a, b, c, d, e, f] := by
  match l, h with
  | [a, b, c, d, e, f], _ => exact ⟨a, b, c, d, e, f, rfl⟩
theorem four {α : Type} {l : List α} (h : l.length = 4) : ∃ a b c d, l = [a, b, c, d] := by
  match l, h with
  | [a, b, c, d], _ => exact ⟨a, b, c, d, rfl⟩
theorem three_ {α : Type} {l : List α} (h : l.length = 3) : ∃ a b c, l = [a, b, c] := by
  match l, h with
  | [a, b, c], _ => exact ⟨a, b, c, rfl⟩
theorem two_ {α : Type} {l : List α} (h : l.length = 2) : ∃ a b, l = [a, b] := by
  match l, h with
  | [a, b], _ => exact ⟨a, b, rfl⟩
theorem Ints.shapeI {w : World} {v : Value} {xs : List Int} (h : Ints .i64 w v xs) : ∃ A c, v = .slice A xs.length c := by
  obtain ⟨⟨A, c, e, _⟩, _⟩ := h
  exact ⟨A, c, by rw [e]; simp⟩
section
variable {H : Type} {enc : TypeId × Value → H} {w : World} {rch : Reach} {b0 : Nat}
set_option maxRecDepth 100000 in
theorem packet_step (cs : List Value) (n : Nat) (y : DataW H × List MemPlace) (hl : cs.length = 6) (h3 : DataW.trod enc Try.prog w 0 (fun _ => true) true n 31 cs = some y) : ∃ x : PV, Ints .i64 w x.vs x.p.vals ∧ cs = f6 x := by
  obtain ⟨xs, n2, _, _, _, hlx, hg⟩ := DataW.trod_struct Try.underlying31 h3
  obtain ⟨u0, u1, u2, u3, u4, u5, rfl⟩ := six hl
  obtain ⟨y0, y1, y2, y3, y4, y5, rfl⟩ := six hlx
  have t0 : DataW.trod enc Try.prog w 0 (fun _ => true) true n2 3 [u0] = some y0 := hg 0 _ rfl
  have t1 : DataW.trod enc Try.prog w 0 (fun _ => true) true n2 3 [u1] = some y1 := hg 1 _ rfl
  have t2 : DataW.trod enc Try.prog w 0 (fun _ => true) true n2 3 [u2] = some y2 := hg 2 _ rfl
  have t3 : DataW.trod enc Try.prog w 0 (fun _ => true) true n2 3 [u3] = some y3 := hg 3 _ rfl
  have t4 : DataW.trod enc Try.prog w 0 (fun _ => true) true n2 3 [u4] = some y4 := hg 4 _ rfl
  have t5 : DataW.trod enc Try.prog w 0 (fun _ => true) true n2 29 [u5] = some y5 := hg 5 _ rfl
  obtain ⟨p0, q0, _, _⟩ := DataW.trod_int Try.underlying3 t0
  obtain ⟨p1, q1, _, _⟩ := DataW.trod_int Try.underlying3 t1
  obtain ⟨p2, q2, _, _⟩ := DataW.trod_int Try.underlying3 t2
  obtain ⟨p3, q3, _, _⟩ := DataW.trod_int Try.underlying3 t3
  obtain ⟨p4, q4, _, _⟩ := DataW.trod_int Try.underlying3 t4
  obtain ⟨zs, hz⟩ := ints_of_trod1 Try.underlying29 Try.underlying3 (by kernel_rfl) t5
  obtain ⟨A, c, rfl⟩ := hz.shapeI
  simp at q0 q1 q2 q3 q4
  subst q0 q1 q2 q3 q4
  exact ⟨⟨⟨p0, p1, p2, p3, p4, zs⟩, A, c⟩, hz, rfl⟩
set_option maxRecDepth 100000 in
theorem track_step (cs : List Value) (n : Nat) (y : DataW H × List MemPlace) (hl : cs.length = 4) (h3 : DataW.trod enc Try.prog w 0 (fun _ => true) true n 40 cs = some y) : ∃ x : TV, Ints .i64 w x.vs x.t.some ∧ cs = f4 x := by
  obtain ⟨xs, n2, _, _, _, hlx, hg⟩ := DataW.trod_struct Try.underlying40 h3
  obtain ⟨u0, u1, u2, u3, rfl⟩ := four hl
  obtain ⟨y0, y1, y2, rfl⟩ := three_ hlx
  have t0 : DataW.trod enc Try.prog w 0 (fun _ => true) true n2 4 [u0] = some y0 := hg 0 _ rfl
  have t1 : DataW.trod enc Try.prog w 0 (fun _ => true) true n2 3 [u1] = some y1 := hg 1 _ rfl
  have t2 : DataW.trod enc Try.prog w 0 (fun _ => true) true n2 38 [u2, u3] = some y2 := hg 2 _ rfl
  obtain ⟨p0, q0, _⟩ := DataW.trod_bool Try.underlying4 t0
  obtain ⟨p1, q1, _, _⟩ := DataW.trod_int Try.underlying3 t1
  obtain ⟨xs2, n3, _, _, _, hlx2, hg2⟩ := DataW.trod_struct Try.underlying38 t2
  obtain ⟨z0, z1, rfl⟩ := two_ hlx2
  have t3 : DataW.trod enc Try.prog w 0 (fun _ => true) true n3 3 [u2] = some z0 := hg2 0 _ rfl
  have t4 : DataW.trod enc Try.prog w 0 (fun _ => true) true n3 29 [u3] = some z1 := hg2 1 _ rfl
  obtain ⟨p2, q2, _, _⟩ := DataW.trod_int Try.underlying3 t3
  obtain ⟨zs, hz⟩ := ints_of_trod1 Try.underlying29 Try.underlying3 (by kernel_rfl) t4
  obtain ⟨A, c, rfl⟩ := hz.shapeI
  simp at q0 q1 q2
  subst q0 q1 q2
  exact ⟨⟨⟨p0, p1, p2, zs⟩, A, c⟩, hz, rfl⟩
set_option maxRecDepth 100000 in
theorem arg23_of_trod {v : Value} {d : DataW H} {p : List MemPlace} (hv : Value.okWide Try.prog w rch b0 23 v) (h : DataW.Trod enc Try.prog w 0 (fun _ => true) true 23 v d p) : ∃ l, PRow w v l := by
  obtain ⟨a0, len0, cap0, rfl⟩ := okWide_slice Try.underlying23 hv
  obtain ⟨fuel, hf⟩ := h
  obtain ⟨l, hg, A, c, e, hr⟩ := tuples_of_trod1 f6_len (by decide) (fun x : PV => Ints .i64 w x.vs x.p.vals) Try.underlying23 (by kernel_rfl) packet_step (by simpa [Value.cells] using hf)
  rw [e]
  exact ⟨l, ⟨A, c, rfl⟩, hr, hg⟩
set_option maxRecDepth 100000 in
theorem arg22_of_trod {v : Value} {d : DataW H} {p : List MemPlace} (hv : Value.okWide Try.prog w rch b0 22 v) (h : DataW.Trod enc Try.prog w 0 (fun _ => true) true 22 v d p) : ∃ l, TRow w v l := by
  obtain ⟨a0, len0, cap0, rfl⟩ := okWide_slice Try.underlying22 hv
  obtain ⟨fuel, hf⟩ := h
  obtain ⟨l, hg, A, c, e, hr⟩ := tuples_of_trod1 f4_len (by decide) (fun x : TV => Ints .i64 w x.vs x.t.some) Try.underlying22 (by kernel_rfl) track_step (by simpa [Value.cells] using hf)
  rw [e]
  exact ⟨l, ⟨A, c, rfl⟩, hr, hg⟩
end
def wit23 : Value := .slice none 0 0
def wit22 : Value := .slice none 0 0
end Go.Proofs.Ytgklbmhihfmagaa
