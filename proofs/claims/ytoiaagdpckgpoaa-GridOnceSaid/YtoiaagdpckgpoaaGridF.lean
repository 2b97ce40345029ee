/- Layer 13: what a grid tells. -/
import Derived.Test.YtoiaagdpckgpoaaGridE
import Derived.Test.YtoiaagdpckgpoaaConf
import Derived.Laws.EntriesVeiled
namespace Go.Proofs.Ytoiaagdpckgpoaa
open Go.ChangeShapes Go.WideShapes Go.ChangeAt Go.RowKit
set_option linter.unusedVariables false
set_option linter.unusedSimpArgs false

def adv (r : Nat × List SB) : Nat × List SB := (r.1 + 1, r.2.tail ++ [((0, 0), false)])
def cellOf (y : Int) (r : Nat × List SB) : Int × Int × Int := match r.2 with | ((v, f), true) :: _ => (1, v, f) | _ => (y, 0, 0)
def c3 (l : List (Int × Int × Int)) : List Value := l.flatMap fun a => [.int .i64 a.1, .int .i64 a.2.1, .int .i64 a.2.2]
def tellC (why : List Int) (rs : List (Nat × List SB)) : List (Int × Int × Int) := List.zipWith cellOf why rs
def advs (i : Nat) (rs : List (Nat × List SB)) : List (Nat × List SB) := (rs.take i).map adv ++ rs.drop i
theorem set_mid {α : Type} (s t : List α) (x y : α) (i : Nat) (h : s.length = i) : (s ++ x :: t).set i y = s ++ y :: t := by
  subst h
  induction s with
  | nil => rfl
  | cons a s ih =>
    show a :: ((s ++ x :: t).set s.length y) = _
    rw [ih]
    rfl
theorem advs_zero (rs : List (Nat × List SB)) : advs 0 rs = rs := by simp [advs]
theorem advs_all (rs : List (Nat × List SB)) : advs rs.length rs = rs.map adv := by simp [advs]
theorem advs_len (i : Nat) (rs : List (Nat × List SB)) (h : i ≤ rs.length) : (advs i rs).length = rs.length := by simp [advs]; omega
theorem advs_at (i : Nat) (rs : List (Nat × List SB)) (r : Nat × List SB) (h : rs[i]? = some r) : (advs i rs)[i]? = some r := by
  have hi := (List.getElem?_eq_some_iff.1 h).1
  unfold advs
  rw [List.getElem?_append_right (by simp; omega)]
  simp
  rw [Nat.min_eq_left (by omega), Nat.sub_self, Nat.add_zero]
  exact h
theorem advs_set (i : Nat) (rs : List (Nat × List SB)) (r : Nat × List SB) (h : rs[i]? = some r) : (advs i rs).set i (adv r) = advs (i + 1) rs := by
  have hi := (List.getElem?_eq_some_iff.1 h).1
  unfold advs
  have hd : rs.drop i = r :: rs.drop (i + 1) := by
    rw [List.drop_eq_getElem_cons hi]
    congr 1
    exact (List.getElem?_eq_some_iff.1 h).2
  rw [List.take_add_one, h, hd, set_mid _ _ _ _ _ (by simp; omega)]
  simp
theorem c3_len (l : List (Int × Int × Int)) : (c3 l).length = l.length * 3 := by
  induction l with
  | nil => rfl
  | cons a l ih => simp [c3] at ih ⊢; omega
theorem c3_set (l : List (Int × Int × Int)) (i : Nat) (a : Int × Int × Int) : (((c3 l).set (i * 3) (.int .i64 a.1)).set (i * 3 + 1) (.int .i64 a.2.1)).set (i * 3 + 2) (.int .i64 a.2.2) = c3 (l.set i a) := by
  induction l generalizing i with
  | nil => rfl
  | cons b l ih =>
    cases i with
    | zero => rfl
    | succ i =>
      have e1 : (i + 1) * 3 = i * 3 + 1 + 1 + 1 := by omega
      have := ih i
      rw [e1]
      show (.int .i64 b.1 :: .int .i64 b.2.1 :: .int .i64 b.2.2 :: (((c3 l).set (i * 3) (.int .i64 a.1)).set (i * 3 + 1) (.int .i64 a.2.1)).set (i * 3 + 2) (.int .i64 a.2.2)) = _
      rw [this]
      rfl
theorem c3_rep (n : Nat) : madeCells (Value.agg #[.int .i64 0, .int .i64 0, .int .i64 0]).cells (n * 3) = (c3 (List.replicate n (0, 0, 0))).toArray := by
  rw [madeCells_rep _ (.int .i64 0) _ (fun i hi => by simp [Value.cells] at hi; rcases (by omega : i = 0 ∨ i = 1 ∨ i = 2) with rfl | rfl | rfl <;> rfl) (by decide)]
  congr 1
  induction n with
  | zero => rfl
  | succ n ih =>
    rw [show (n + 1) * 3 = n * 3 + 1 + 1 + 1 by omega, List.replicate_succ, List.replicate_succ, List.replicate_succ, ih]
    rfl
def part (i : Nat) (l : List (Int × Int × Int)) (n : Nat) : List (Int × Int × Int) := l.take i ++ List.replicate (n - i) (0, 0, 0)
theorem part_zero (l : List (Int × Int × Int)) (n : Nat) : part 0 l n = List.replicate n (0, 0, 0) := by simp [part]
theorem part_all (l : List (Int × Int × Int)) : part l.length l l.length = l := by simp [part]
theorem part_len (i n : Nat) (l : List (Int × Int × Int)) (hi : i ≤ n) (hl : l.length = n) : (part i l n).length = n := by simp [part]; omega
theorem part_set (i n : Nat) (l : List (Int × Int × Int)) (a : Int × Int × Int) (hl : l.length = n) (h : l[i]? = some a) : (part i l n).set i a = part (i + 1) l n := by
  have hi := (List.getElem?_eq_some_iff.1 h).1
  unfold part
  rw [List.take_add_one, h, show n - i = (n - (i + 1)) + 1 by omega, List.replicate_succ, set_mid _ _ _ _ _ (by simp; omega)]
  simp
theorem tellC_len (why : List Int) (rs : List (Nat × List SB)) (h : why.length = rs.length) : (tellC why rs).length = rs.length := by simp [tellC, h]
theorem tellC_at (why : List Int) (rs : List (Nat × List SB)) (i : Nat) (y : Int) (r : Nat × List SB) (hy : why[i]? = some y) (hr : rs[i]? = some r) : (tellC why rs)[i]? = some (cellOf y r) := by
  unfold tellC
  rw [List.getElem?_zipWith, hy, hr]
theorem Only.ownCell {s : List Nat} {a b : World} (h : Only s a b) {p : Addr} (hp : a.heap.size ≤ p.block) (u : Value) : Only s a (b.setCell p u) :=
  ⟨h.os, h.tape, h.output, by simpa [World.setCell] using h.size, fun c hc hn => by
    rw [Below.heap_setCell _ _ _ _ (show c ≠ p.block by omega)]
    exact h.block c hc hn⟩
theorem Only.alloc {s : List Nat} {a b : World} (h : Only s a b) (o : Obj) : Only s a (b.alloc o) := h.trans (Only.of_below s ((Below.refl _ _).alloc (Nat.le_refl _) o))
theorem Only.cell {s : List Nat} {a b : World} (h : Only s a b) {p : Addr} (hp : p.block < a.heap.size) (hn : p.block ∉ s) : b.cell? p = a.cell? p := by
  unfold World.cell?
  rw [h.block _ hp hn]
/-- the row v lies in none of the blocks s -/
def offRow (v : Value) (s : List Nat) : Prop := ∀ ad n c, v = .slice (some ad) n c → ad.block ∉ s
theorem Row.only {w w' : World} {v : Value} {xs : List Value} {s : List Nat} (h : Row w v xs) (hs : Only s w w') (ho : offRow v s) : Row w' v xs := by
  obtain ⟨A, c, rfl, h2, h3, h4⟩ := h
  refine ⟨A, c, rfl, h2, h3, ?_⟩
  rcases h4 with h4 | ⟨ad, rfl, h6, h7⟩
  · exact .inl h4
  · refine .inr ⟨ad, rfl, fun h => Nat.lt_of_lt_of_le (h6 h) hs.size, fun i x hx => ?_⟩
    have hl : 0 < xs.length := by
      rcases Nat.eq_zero_or_pos xs.length with h0 | h0
      · rw [List.eq_nil_of_length_eq_zero h0] at hx; simp at hx
      · exact h0
    rw [hs.cell (by rw [block_add]; exact h6 hl) (by rw [block_add]; exact ho ad _ _ rfl)]
    exact h7 i x hx
theorem offRow.sub {v : Value} {s t : List Nat} (h : offRow v t) (hs : ∀ x ∈ s, x ∈ t) : offRow v s := fun ad n c e hm => h ad n c e (hs _ hm)

set_option maxHeartbeats 2000000 in
theorem tcell_any (w : World) (g ab k i p1 p2 cw f0 : Nat) (bs : List (Nat × Nat)) (rs : List (Nat × List SB)) (Aw : Option Addr) (why : List Int) (b : Nat × Nat) (q : List SB) (y : Int) (h : GridS w g ab bs k rs) (ht : f0 < 4611686018427387904)
    (h1 : Blk w p1 29 #[.pointer (some ⟨g, 0, none⟩)]) (h2 : Blk w p2 42 #[.slice Aw why.length cw]) (hw : Row w (.slice Aw why.length cw) (why.map (.int .i64))) (hb : bs[i]? = some b) (hr : rs[i]? = some (f0, q)) (hy : why[i]? = some y)
    (o1 : p1 ∉ [b.1, b.2]) (o2 : p2 ∉ [b.1, b.2]) (o3 : offRow (.slice Aw why.length cw) [b.1, b.2]) :
    Calls Try.prog 27 #[.int .i64 i, .pointer (some ⟨p1, 0, none⟩), .pointer (some ⟨p2, 0, none⟩)] w fun e w' => e = .returned (.agg #[.int .i64 (cellOf y (f0, q)).1, .int .i64 (cellOf y (f0, q)).2.1, .int .i64 (cellOf y (f0, q)).2.2]) ∧ GridS w' g ab bs k (rs.set i (adv (f0, q))) ∧ Only [b.1, b.2] w w' := by
  have hlt := h.lt
  have hgb := gb_ring g ab (List.mem_of_getElem? hb)
  have hb1 : b.1 < w.heap.size := hlt _ hgb.1
  have hb2 : b.2 < w.heap.size := hlt _ hgb.2
  have hB := (Below.refl w.heap.size w).alloc (Nat.le_refl _) (.cells #[.int .i64 0, .int .i64 0, .int .i64 0] 51)
  have H := Lib.hid (h.below hB)
  have OB := Lib.hid (Only.of_below [b.1, b.2] hB)
  have HW := Lib.hid (hw.below hB)
  have P1 := Lib.hid (h1.below hB)
  have P2 := Lib.hid (h2.below hB)
  have R0 := Lib.hid (Blk.new w 51 #[.int .i64 0, .int .i64 0, .int .i64 0] w.heap.size rfl)
  have hRP := H.out.rings i b _ hb hr
  have hk := hRP.pos
  obtain ⟨a, rest, rfl⟩ : ∃ a rest, q = a :: rest := by
    cases q with
    | nil => exact absurd (hRP.rest.elim fun cs hh => hh.2.2.1) (by simp; omega)
    | cons a l => exact ⟨a, l, rfl⟩
  have HRP := Lib.hid hRP
  have hx := H.out.head.cells
  have hc := H.out.rowAt hb
  have hp1 := P1.out.cells
  have hib : i < bs.length := (List.getElem?_eq_some_iff.1 hb).1
  have hiw : i < why.length := (List.getElem?_eq_some_iff.1 hy).1
  have HG := Lib.hid (show w.heap.size ∉ gblocks g ab bs from fun hm => by have := hlt _ hm; omega)
  have HB := Lib.hid hb
  have HY := Lib.hid (show (why.map (Value.int .i64))[i]? = some (.int .i64 y) by rw [List.getElem?_map, hy]; rfl)
  clear h h1 h2 hw hB hRP hlt hgb hb hr hy
  go_enter Try.func27, Try.ntmps27
  go_wp2_with fail
  refine (takeP_any b.1 b.2 f0 k (a :: rest) _ HRP.out ht a rest rfl).mono ?_
  rintro e w1 ⟨rfl, hr1, ho1⟩
  have HO := Lib.hid (OB.out.trans ho1)
  have HG1 := Lib.hid (H.out.set (r := adv (f0, a :: rest)) HB.out ho1 hr1)
  have hR1 := R0.out.only ho1 (by simp; omega)
  have hP2 := P2.out.only ho1 o2
  have hW1 := HW.out.only ho1 o3
  have HR1 := Lib.hid hR1
  have hxr := hR1.cells
  have hfr := hR1.froz
  have hlr := hR1.lt
  have hxp := hP2.cells
  have hlp := hP2.lt
  obtain ⟨ad, cw2, e1, hcy, _⟩ := hW1.at_new HY.out
  obtain ⟨rfl, -⟩ : Aw = some ad ∧ True := by injection e1 with e1; exact ⟨e1, trivial⟩
  have hadl := lt_of_cell hcy
  rw [block_add] at hadl
  clear hr1 ho1 hR1 hP2 hW1 e1 hx hc hp1 H OB HW P1 P2 R0 HRP o1 o2 o3
  obtain ⟨⟨a1, a2⟩, a3⟩ := a
  cases a3 with
  | true =>
    go_wp2
    have hq := ((((HR1.out.set 0 (.int .i64 1)).set 1 (.int .i64 a1)).set 2 (.int .i64 a2)).al (.cells #[.int .i64 a1, .int .i64 a2] 39)).cells
    refine bodyPost_ret (v := .agg #[.int .i64 1, .int .i64 a1, .int .i64 a2]) (by simp [results, Try.results27, go_sem, hq]) rfl ⟨rfl, ?_, ?_⟩
    · refine HG1.out.only (s := [w.heap.size]) (((((Only.refl [w.heap.size] w1).setCell (p := ⟨w.heap.size, 0, none⟩) (by simp) _).setCell (p := ⟨w.heap.size, 1, none⟩) (by simp) _).setCell (p := ⟨w.heap.size, 2, none⟩) (by simp) _).alloc _) (fun x hx hm => ?_)
      simp only [List.mem_cons, List.not_mem_nil, or_false] at hm
      exact HG.out (hm ▸ hx)
    · exact ((((HO.out).ownCell (p := ⟨w.heap.size, 0, none⟩) (Nat.le_refl _) _).ownCell (p := ⟨w.heap.size, 1, none⟩) (Nat.le_refl _) _).ownCell (p := ⟨w.heap.size, 2, none⟩) (Nat.le_refl _) _).alloc _
  | false =>
    go_wp2
    have hq := ((((HR1.out.set 0 (.int .i64 y)).set 1 (.int .i64 0)).set 2 (.int .i64 0)).al (.cells #[.int .i64 a1, .int .i64 a2] 39)).cells
    refine bodyPost_ret (v := .agg #[.int .i64 y, .int .i64 0, .int .i64 0]) (by simp [results, Try.results27, go_sem, hq]) rfl ⟨rfl, ?_, ?_⟩
    · refine HG1.out.only (s := [w.heap.size]) (((((Only.refl [w.heap.size] w1).setCell (p := ⟨w.heap.size, 0, none⟩) (by simp) _).setCell (p := ⟨w.heap.size, 1, none⟩) (by simp) _).setCell (p := ⟨w.heap.size, 2, none⟩) (by simp) _).alloc _) (fun x hx hm => ?_)
      simp only [List.mem_cons, List.not_mem_nil, or_false] at hm
      exact HG.out (hm ▸ hx)
    · exact ((((HO.out).ownCell (p := ⟨w.heap.size, 0, none⟩) (Nat.le_refl _) _).ownCell (p := ⟨w.heap.size, 1, none⟩) (Nat.le_refl _) _).ownCell (p := ⟨w.heap.size, 2, none⟩) (Nat.le_refl _) _).alloc _
end Go.Proofs.Ytoiaagdpckgpoaa
