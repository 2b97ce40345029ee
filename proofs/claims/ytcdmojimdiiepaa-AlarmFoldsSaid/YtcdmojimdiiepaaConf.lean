/- A setting in memory; what asks whether it is great, or right; the base setting. -/
import Derived.Test.YtcdmojimdiiepaaMem
import Derived.Deep.Fields
namespace Go.Proofs.Ytcdmojimdiiepaa
open Go.ChangeShapes Go.WideShapes Go.ChangeAt Go.RowKit Go.Deep
set_option linter.unusedVariables false
set_option linter.unusedSimpArgs false

/-- a setting's numbers -/
structure Cf where
  (P H C Mn Mx Rho Bd Win St : Int)
  rows : List (List Int)

/-- rows of rows -/
def Rows2 (w : World) (v : Value) (rows : List (List Int)) : Prop :=
  ∃ vs : List Value, Row w v vs ∧ vs.length = rows.length ∧ ∀ (i : Nat) r, rows[i]? = some r → ∃ u, vs[i]? = some u ∧ Row w u (r.map (Value.int .i64))
theorem Rows2.below {w w' : World} {v : Value} {rows : List (List Int)} (h : Rows2 w v rows) (hb : Below w.heap.size w w') : Rows2 w' v rows := by
  obtain ⟨vs, h1, h2, h3⟩ := h
  exact ⟨vs, h1.below hb, h2, fun i r hr => by obtain ⟨u, hu, hrow⟩ := h3 i r hr; exact ⟨u, hu, hrow.below hb⟩⟩

def IsConf (w : World) (v : Value) (c : Cf) : Prop :=
  ∃ s r, v = .agg #[.int .i64 c.P, .int .i64 c.H, .int .i64 c.C, .int .i64 c.Mn, .int .i64 c.Mx, .int .i64 c.Rho, .int .i64 c.Bd, .int .i64 c.Win, .int .i64 c.St, s, r] ∧ Rows2 w s c.rows
theorem IsConf.below {w w' : World} {v : Value} {c : Cf} (h : IsConf w v c) (hb : Below w.heap.size w w') : IsConf w' v c := by
  obtain ⟨s, r, e, h⟩ := h
  exact ⟨s, r, e, h.below hb⟩

theorem lt_of_get {α : Type} {l : List α} {k : Nat} {x : α} (h : l[k]? = some x) : k < l.length := by
  rcases Nat.lt_or_ge k l.length with h1 | h1
  · exact h1
  · rw [List.getElem?_eq_none h1] at h; cases h

/-- a place of a row, behind one new block -/
theorem Row.at_new {w : World} {v : Value} {xs : List Value} (h : Row w v xs) {k : Nat} {x : Value} (hx : xs[k]? = some x) :
    ∃ ad c, v = .slice (some ad) xs.length c ∧ w.cell? (ad.add k) = some x ∧ ∀ o, (w.alloc o).cell? (ad.add k) = some x := by
  obtain ⟨A, c, rfl, hc, hm, hA⟩ := h
  have hk := lt_of_get hx
  rcases hA with ⟨_, h0⟩ | ⟨ad, rfl, hb, hcell⟩
  · omega
  · refine ⟨ad, c, rfl, hcell k x hx, fun o => ?_⟩
    rw [World.cell?_alloc_lt w o _ (by rw [block_add]; exact hb (by omega))]
    exact hcell k x hx
theorem Row.shape {w : World} {v : Value} {xs : List Value} (h : Row w v xs) : ∃ A c, v = .slice A xs.length c ∧ xs.length ≤ c ∧ c ≤ maxLen := by
  obtain ⟨A, c, e, hc, hm, _⟩ := h
  exact ⟨A, c, e, hc, hm⟩

def greatB (rows : List (List Int)) : Bool := decide (50 < rows.length) || rows.any fun r => decide (50 < r.length)

set_option maxHeartbeats 1000000 in
theorem great_any (v : Value) (c : Cf) (w : World) (h : IsConf w v c) :
    Calls Try.prog 29 #[v] w fun e w' => e = .returned (.bool (greatB c.rows)) ∧ Below w.heap.size w w' := by
  obtain ⟨s, r, rfl, vs, hv, hlen, hrow⟩ := h
  obtain ⟨A, cp, rfl, hc, hm⟩ := hv.shape
  rw [hlen] at hc hv ⊢
  unfold maxLen at hm
  have hcell : ∀ k r, c.rows[k]? = some r → ∃ ad B d, A = some ad ∧ r.length ≤ maxLen ∧ ∀ o, (w.alloc o).cell? (ad.add k) = some (.slice B r.length d) := by
    intro k r hr
    obtain ⟨u, hu, hr2⟩ := hrow k r hr
    obtain ⟨ad, d, e1, _, e2⟩ := hv.at_new hu
    obtain ⟨B, d', e3, h5, h6⟩ := hr2.shape
    injection e1 with e1
    refine ⟨ad, B, d', e1, by rw [List.length_map] at h5; omega, fun o => ?_⟩
    rw [e2 o, e3, List.length_map]
  have HC := Lib.hid hcell
  have HB := Lib.hid (show greatB c.rows = (decide (50 < c.rows.length) || c.rows.any fun r => decide (50 < r.length)) from rfl)
  clear hcell hrow hv hlen
  by_cases hbig : 50 < c.rows.length
  · go_enter Try.func29, Try.ntmps29
    go_wp2
    go_ret
    exact ⟨by rw [HB.out]; simp [hbig], by go_grown⟩
  go_enter Try.func29, Try.ntmps29
  go_wp2
  go_loop [3] (fun i => ∃ k : Nat, k ≤ c.rows.length ∧ i = .int .i64 k ∧ ∀ r ∈ c.rows.take k, ¬ 50 < r.length) (fun i => c.rows.length - (intOf i).toNat)
  case atStart => exact ⟨0, Nat.zero_le _, rfl, by simp⟩
  case round =>
    obtain ⟨k, hk, rfl, hno⟩ := hrel
    have HNO := Lib.hid hno
    clear hno
    by_cases hlt : k < c.rows.length
    · obtain ⟨x, hx⟩ : ∃ x, c.rows[k]? = some x := ⟨_, List.getElem?_eq_getElem hlt⟩
      obtain ⟨ad, B, d, rfl, hml, hcx⟩ := HC.out k x hx
      unfold maxLen at hml
      have HX := Lib.hid hx
      clear hx
      by_cases hg : 50 < x.length
      · go_wp2
        go_ret
        refine ⟨?_, by go_grown⟩
        rw [HB.out]
        simp only [Bool.or_eq_true, List.any_eq_true, decide_eq_true_eq]
        refine ret_bool (Eq.symm ?_)
        simp only [Bool.or_eq_true, List.any_eq_true, decide_eq_true_eq]
        exact .inr ⟨x, List.mem_of_getElem? HX.out, hg⟩
      · go_wp2
        go_round
        case rel =>
          refine ⟨k + 1, by omega, by go_num, fun r hr => ?_⟩
          rw [List.take_add_one, HX.out, List.mem_append] at hr
          rcases hr with hr | hr
          · exact HNO.out r hr
          · simp at hr; rw [hr]; exact hg
        case measure => simp [intOf]; omega
    · go_wp2
      go_ret
      refine ⟨?_, by go_grown⟩
      have : k = c.rows.length := by omega
      subst this
      have hno := HNO.out
      rw [List.take_length] at hno
      rw [HB.out]
      refine ret_bool (Eq.symm ?_)
      rw [Bool.eq_false_iff]
      simp only [ne_eq, Bool.or_eq_true, List.any_eq_true, decide_eq_true_eq]
      rintro (h | ⟨r, hr, h⟩)
      · exact hbig h
      · exact hno r hr h

theorem base_any (w : World) :
    Calls Try.prog 51 #[] w fun e w' => ∃ v, e = .returned v ∧ IsConf w' v ⟨10, 3, 8, 0, 15, 100, 40, 16, 2, [[10, 5], [20]]⟩ ∧ Below w.heap.size w w' := by
  go_enter Try.func51, Try.ntmps51
  go_wp2
  go_returns
  refine ⟨_, rfl, ⟨_, _, rfl, [.slice (some ⟨w.heap.size + 1, 0, none⟩) 2 2, .slice (some ⟨w.heap.size + 1 + 1, 0, none⟩) 1 1], ?_, rfl, ?_⟩, by go_grown⟩
  · exact Row.of_block (heap_at _ _ _ (by simp)) rfl rfl (Nat.le_refl _) (by decide)
  · intro i r hr
    match i, hr with
    | 0, hr =>
      simp at hr
      subst hr
      refine ⟨_, rfl, Row.of_block (cur := #[.int .i64 10, .int .i64 5]) (t := 3) (by rw [Below.heap_alloc _ _ _ (by simp), Below.heap_alloc _ _ _ (by simp)]; exact heap_at _ _ _ (by simp)) rfl rfl (Nat.le_refl _) (by decide)⟩
    | 1, hr =>
      simp at hr
      subst hr
      refine ⟨_, rfl, Row.of_block (cur := #[.int .i64 20]) (t := 3) (by rw [Below.heap_alloc _ _ _ (by simp)]; exact heap_at _ _ _ (by simp)) rfl rfl (Nat.le_refl _) (by decide)⟩

section
variable {H : Type} {enc : TypeId × Value → H} {P : Program} {w : World} {rch : Reach} {b0 : Nat}
/-- a struct whose fields have one cell each, by value -/
theorem open_fields {fs : Array Field} {t : TypeId} {v : Value} {d : DataW H} {p : List MemPlace} (hs : P.underlying t = some (.struct fs)) (hone : oneCellFields P fs = true) (hC : P.cellsOf t = fs.size)
    (hv : Value.okWide P w rch b0 t v) (h : DataW.Trod enc P w 0 (fun _ => true) true t v d p) :
    ∃ (cs : Array Value) (n : Nat), v = .agg cs ∧ cs.size = fs.size ∧ ∀ (j : Nat) (f : Field), fs[j]? = some f → ∃ (u : Value) (y : DataW H × List MemPlace), cs[j]? = some u ∧ DataW.trod enc P w 0 (fun _ => true) true n f.type [u] = some y := by
  obtain ⟨cs, rfl, hsz⟩ := okWide_struct hs hv
  obtain ⟨fuel, hf⟩ := h
  obtain ⟨xs, n, _, _, _, hlen, hg⟩ := DataW.trod_struct hs hf
  refine ⟨cs, n, rfl, hsz.trans hC, fun j f hj => ?_⟩
  obtain ⟨ho, hk⟩ := hone_of hone j f hj
  have hjl : j < fs.size := (Array.getElem?_eq_some_iff.1 hj).1
  have hjc : j < cs.toList.length := by rw [Array.length_toList, hsz, hC]; exact hjl
  have h1 := hg j f hj
  rw [ho, hk] at h1
  have hd : ((Value.agg cs).cells.toList.drop j).take 1 = [cs.toList[j]] := by
    show (cs.toList.drop j).take 1 = _
    rw [List.drop_eq_getElem_cons hjc]
    rfl
  rw [hd] at h1
  have hys : xs[j]? = some (xs[j]'(by omega)) := List.getElem?_eq_getElem (by omega)
  refine ⟨cs.toList[j], _, ?_, h1.trans hys⟩
  rw [← Array.getElem?_toList, List.getElem?_eq_getElem hjc]

theorem ints_of_trod1 {k : IntKind} {t e : TypeId} {v : Value} {n : Nat} {x : DataW H × List MemPlace} (ht : P.underlying t = some (.slice e)) (he : P.underlying e = some (.int k)) (hc : P.cellsOf e = 1)
    (hf : DataW.trod enc P w 0 (fun _ => true) true n t [v] = some x) : ∃ zs, Ints k w v zs := by
  rcases open_ints ht he hc hf with ⟨hcs, _⟩ | ⟨x, l, c, zs, hcs, _, hl, hm, hz, _, hcell, hwz⟩
  · simp at hcs
    subst hcs
    exact ⟨[], Row.nil_, by simp⟩
  · simp at hcs
    subst hcs
    have hz' : zs.length = c := by simpa using hz
    have hlen : (List.map (Value.int k) (zs.take l)).length = l := by simp; omega
    have hget : ∀ i u, (List.map (Value.int k) (zs.take l))[i]? = some u → w.cell? (x.add i) = some u := by
      intro i u hu
      have hi : i < l := by have := lt_of_get hu; omega
      rw [hcell i (by omega), ← hu]
      rw [List.getElem?_map, List.getElem?_take, if_pos hi, List.getD_eq_getElem?_getD, List.getElem?_eq_getElem (by omega)]
      rfl
    refine ⟨zs.take l, ⟨some x, c, by rw [hlen], by omega, hm, .inr ⟨x, rfl, fun h0 => ?_, hget⟩⟩, fun z hzm => hwz z (List.mem_of_mem_take hzm)⟩
    have h1 := hget 0 _ (List.getElem?_eq_getElem h0)
    have h2 := lt_of_cell h1
    rwa [block_add] at h2

theorem rows2_of_trod {t e k : TypeId} {v : Value} {n : Nat} {x : DataW H × List MemPlace} (ht : P.underlying t = some (.slice e)) (he : P.underlying e = some (.slice k)) (hk : P.underlying k = some (.int .i64)) (hc : P.cellsOf e = 1) (hck : P.cellsOf k = 1)
    (hf : DataW.trod enc P w 0 (fun _ => true) true n t [v] = some x) : ∃ rows, Rows2 w v rows ∧ ∀ r ∈ rows, ∀ z ∈ r, (Lit.int .i64 z).wf = true := by
  rcases open_slice1 ht hc hf with ⟨hcs, _⟩ | ⟨a, len, cap, m, n', V, D, Pl, hcs, _, hl, hm, hmm, _, hi⟩
  · simp at hcs
    subst hcs
    exact ⟨[], ⟨[], Row.nil_, rfl, by simp⟩, by simp⟩
  · simp at hcs
    subst hcs
    have hlm : len ≤ m := by rw [hmm]; simp; omega
    have hX : ∀ i, i < len → ∃ zs, Ints .i64 w (V i) zs := fun i h => ints_of_trod1 he hk hck (hi i (by omega)).2
    have hch : ∃ F : Nat → List Int, ∀ i, i < len → Ints .i64 w (V i) (F i) := by
      refine ⟨fun i => if h : i < len then Classical.choose (hX i h) else [], fun i h => ?_⟩
      simp only [h, dite_true]
      exact Classical.choose_spec (hX i h)
    obtain ⟨F, hF⟩ := hch
    have hcell : ∀ i x, ((List.range len).map V)[i]? = some x → w.cell? (a.add i) = some x := by
      intro i x hx
      have hil := lt_of_get hx
      simp at hil
      rw [(hi i (by omega)).1]
      simp [hil] at hx
      rw [hx]
    refine ⟨(List.range len).map F, ⟨(List.range len).map V, ⟨some a, cap, by simp, by simpa using hl, hm, .inr ⟨a, rfl, fun h0 => ?_, hcell⟩⟩, by simp, fun i r hr => ?_⟩, ?_⟩
    · have h0' : 0 < len := by simpa using h0
      have h2 := lt_of_cell (hi 0 (by omega)).1
      rwa [block_add] at h2
    · have hil := lt_of_get hr
      simp at hil
      simp [hil] at hr
      subst hr
      exact ⟨V i, by simp [hil], (hF i hil).1⟩
    · intro r hr z hz
      obtain ⟨i, hi', rfl⟩ := List.mem_map.1 hr
      exact (hF i (List.mem_range.1 hi')).2 z hz

set_option maxRecDepth 100000 in
/-- a setting that came in -/
theorem conf_of_trod {v : Value} {d : DataW H} {p : List MemPlace} (hv : Value.okWide Try.prog w rch b0 25 v) (h : DataW.Trod enc Try.prog w 0 (fun _ => true) true 25 v d p) :
    ∃ c : Cf, IsConf w v c ∧ ((Lit.int .i64 c.P).wf = true ∧ (Lit.int .i64 c.H).wf = true ∧ (Lit.int .i64 c.C).wf = true ∧ (Lit.int .i64 c.Mn).wf = true ∧ (Lit.int .i64 c.Mx).wf = true ∧ (Lit.int .i64 c.Rho).wf = true ∧ (Lit.int .i64 c.Bd).wf = true ∧ (Lit.int .i64 c.Win).wf = true ∧ (Lit.int .i64 c.St).wf = true) ∧ ∀ r ∈ c.rows, ∀ z ∈ r, (Lit.int .i64 z).wf = true := by
  obtain ⟨cs, n, rfl, hsz, hf⟩ := open_fields Try.underlying25 (by kernel_rfl) (by kernel_rfl) hv h
  obtain ⟨u0, y0, g0, t0⟩ := hf 0 _ rfl
  obtain ⟨u1, y1, g1, t1⟩ := hf 1 _ rfl
  obtain ⟨u2, y2, g2, t2⟩ := hf 2 _ rfl
  obtain ⟨u3, y3, g3, t3⟩ := hf 3 _ rfl
  obtain ⟨u4, y4, g4, t4⟩ := hf 4 _ rfl
  obtain ⟨u5, y5, g5, t5⟩ := hf 5 _ rfl
  obtain ⟨u6, y6, g6, t6⟩ := hf 6 _ rfl
  obtain ⟨u7, y7, g7, t7⟩ := hf 7 _ rfl
  obtain ⟨u8, y8, g8, t8⟩ := hf 8 _ rfl
  obtain ⟨u9, y9, g9, t9⟩ := hf 9 _ rfl
  obtain ⟨u10, y10, g10, t10⟩ := hf 10 _ rfl
  obtain ⟨p0, e0, _, w0⟩ := DataW.trod_int Try.underlying3 t0
  obtain ⟨p1, e1, _, w1⟩ := DataW.trod_int Try.underlying3 t1
  obtain ⟨p2, e2, _, w2⟩ := DataW.trod_int Try.underlying3 t2
  obtain ⟨p3, e3, _, w3⟩ := DataW.trod_int Try.underlying3 t3
  obtain ⟨p4, e4, _, w4⟩ := DataW.trod_int Try.underlying3 t4
  obtain ⟨p5, e5, _, w5⟩ := DataW.trod_int Try.underlying3 t5
  obtain ⟨p6, e6, _, w6⟩ := DataW.trod_int Try.underlying3 t6
  obtain ⟨p7, e7, _, w7⟩ := DataW.trod_int Try.underlying3 t7
  obtain ⟨p8, e8, _, w8⟩ := DataW.trod_int Try.underlying3 t8
  simp at e0 e1 e2 e3 e4 e5 e6 e7 e8
  subst e0 e1 e2 e3 e4 e5 e6 e7 e8
  obtain ⟨rows, hrows, hwf⟩ := rows2_of_trod Try.underlying22 Try.underlying46 Try.underlying3 (by kernel_rfl) (by kernel_rfl) t9
  have hcs : cs = #[.int .i64 p0, .int .i64 p1, .int .i64 p2, .int .i64 p3, .int .i64 p4, .int .i64 p5, .int .i64 p6, .int .i64 p7, .int .i64 p8, u9, u10] := by
    obtain ⟨l⟩ := cs
    simp at hsz
    simp only [List.getElem?_toArray] at g0 g1 g2 g3 g4 g5 g6 g7 g8 g9 g10
    match l, hsz with
    | [a0, a1, a2, a3, a4, a5, a6, a7, a8, a9, a10], _ => simp at g0 g1 g2 g3 g4 g5 g6 g7 g8 g9 g10; simp [*]
  exact ⟨⟨p0, p1, p2, p3, p4, p5, p6, p7, p8, rows⟩, ⟨u9, u10, by rw [hcs], hrows⟩, ⟨w0, w1, w2, w3, w4, w5, w6, w7, w8⟩, hwf⟩
end
end Go.Proofs.Ytcdmojimdiiepaa
