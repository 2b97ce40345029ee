/- Layer 13: contracts of rings of samples. -/
import Derived.Test.YtoiaagdpckgpoaaGridC
import Derived.StillTailTactics
namespace Go.Proofs.Ytoiaagdpckgpoaa
open Go.ChangeShapes Go.WideShapes Go.ChangeAt Go.RowKit
set_option linter.unusedVariables false
set_option linter.unusedSimpArgs false

set_option maxHeartbeats 1000000 in
theorem putP_any (rb gb from_ k : Nat) (at_ : Int) (x : Int × Int) (q : List ((Int × Int) × Bool)) (w : World) (h : RingP w rb gb from_ k q) (hb : -4611686018427387904 ≤ at_ ∧ at_ ≤ 4611686018427387904) :
    Calls Try.prog 30 #[.pointer (some ⟨rb, 0, none⟩), .int .i64 at_, .agg #[.int .i64 x.1, .int .i64 x.2]] w fun e w' => e = .returned (.int .i64 (putC from_ k q at_)) ∧ RingP w' rb gb from_ k (putQ from_ k q at_ x) ∧ Only [rb, gb] w w' := by
  have hB := (Below.refl w.heap.size w).alloc (Nat.le_refl _) (.cells #[.int .i64 x.1, .int .i64 x.2] 39)
  have H := Lib.hid (h.below hB)
  have hx := H.out.head.cells
  have OB := Lib.hid (Only.of_below [rb, gb] hB)
  have hb0 := (Blk.new w 39 #[.int .i64 x.1, .int .i64 x.2] w.heap.size rfl).cells
  have hgl : gb < w.heap.size := h.rest.elim fun cs hh => hh.1.lt
  clear hB
  by_cases hlt : at_ < (from_ : Int)
  · have e0 : putC from_ k q at_ = 6 := if_pos hlt
    have e1 : putQ from_ k q at_ x = q := by rw [putQ, e0]; rfl
    have g1 : decide (at_ < (from_ : Int)) = true := decide_eq_true hlt
    rw [e0, e1]
    clear h e0 e1
    go_enter Try.func30, Try.ntmps30
    go_wp2_with fail
    refine (spotP_out rb gb from_ k at_ q _ H.out hb (.inl hlt)).mono ?_
    rintro e w1 ⟨rfl, hw⟩
    have hx1 : ∀ i, w1.cell? ⟨rb, i, none⟩ = (#[.int .i64 from_, .slice (some ⟨gb, 0, none⟩) k k] : Array Value)[i]? := by rw [← hw]; exact hx
    have hb1 : ∀ i, w1.cell? ⟨w.heap.size, i, none⟩ = (#[.int .i64 x.1, .int .i64 x.2] : Array Value)[i]? := by rw [← hw]; exact hb0
    have HW := Lib.hid hw
    clear hw hx
    go_wp2
    go_ret
    exact ⟨rfl, by rw [← HW.out]; exact H.out.drw 1, by rw [← HW.out]; exact OB.out.drew 1⟩
  by_cases hge : at_ - (from_ : Int) ≥ (k : Int)
  · have e0 : putC from_ k q at_ = 7 := by rw [putC, if_neg hlt, if_pos hge]
    have e1 : putQ from_ k q at_ x = q := by rw [putQ, e0]; rfl
    have g1 : decide (at_ < (from_ : Int)) = false := decide_eq_false hlt
    rw [e0, e1]
    clear h e0 e1
    go_enter Try.func30, Try.ntmps30
    go_wp2_with fail
    refine (spotP_out rb gb from_ k at_ q _ H.out hb (.inr hge)).mono ?_
    rintro e w1 ⟨rfl, hw⟩
    have hx1 : ∀ i, w1.cell? ⟨rb, i, none⟩ = (#[.int .i64 from_, .slice (some ⟨gb, 0, none⟩) k k] : Array Value)[i]? := by rw [← hw]; exact hx
    have hb1 : ∀ i, w1.cell? ⟨w.heap.size, i, none⟩ = (#[.int .i64 x.1, .int .i64 x.2] : Array Value)[i]? := by rw [← hw]; exact hb0
    have HW := Lib.hid hw
    clear hw hx
    go_wp2
    go_ret
    exact ⟨rfl, by rw [← HW.out]; exact H.out.drw 1, by rw [← HW.out]; exact OB.out.drew 1⟩
  obtain ⟨n, hn⟩ : ∃ n : Nat, at_ = (n : Int) := ⟨at_.toNat, by omega⟩
  subst hn
  have hql := (h.rest.elim fun cs hh => hh.2.2.1)
  obtain ⟨a, ha⟩ : ∃ a, q[n - from_]? = some a := ⟨_, List.getElem?_eq_getElem (by omega)⟩
  have hat := H.out.at (n := n) (by omega) (by omega) ha
  have h1 : from_ ≤ n := by omega
  have h2 : n < from_ + k := by omega
  have hnn : ((n : Int) - (from_ : Int)).toNat = n - from_ := by omega
  have g1 : decide ((n : Int) < (from_ : Int)) = false := decide_eq_false hlt
  have g1' : ¬ n < from_ := by omega
  obtain ⟨a1, a2⟩ := a
  have hc0 : putC from_ k q (n : Int) = if a2 then 8 else 9 := by rw [putC, if_neg hlt, if_neg hge, hnn, ha]; rfl
  cases a2
  · have e0 : putC from_ k q (n : Int) = 9 := hc0
    have e1 : putQ from_ k q (n : Int) x = q.set (n - from_) (x, true) := by rw [putQ, e0, if_pos rfl, hnn]
    rw [e0, e1]
    clear h e0 e1 ha hql hge hlt hnn hc0
    go_enter Try.func30, Try.ntmps30
    go_wp2_with fail
    refine (spotP_in rb gb from_ k n q _ H.out h1 h2).mono ?_
    rintro e w1 ⟨rfl, hw⟩
    obtain ⟨c1, c2, c4, c3⟩ := hat
    have hx1 : ∀ i, w1.cell? ⟨rb, i, none⟩ = (#[.int .i64 from_, .slice (some ⟨gb, 0, none⟩) k k] : Array Value)[i]? := by rw [← hw]; exact hx
    have c1' : w1.cell? ⟨gb, n % k * 3, none⟩ = some (.int .i64 a1.1) := by rw [← hw]; exact c1
    have c2' : w1.cell? ⟨gb, n % k * 3 + 1, none⟩ = some (.int .i64 a1.2) := by rw [← hw]; exact c2
    have c4' : w1.cell? ⟨gb, n % k * 3 + 2, none⟩ = some (.bool false) := by rw [← hw]; exact c4
    have c3' : ∀ i, w1.frozen? ⟨gb, i, none⟩ = false := by rw [← hw]; exact c3
    have hb1 : ∀ i, w1.cell? ⟨w.heap.size, i, none⟩ = (#[.int .i64 x.1, .int .i64 x.2] : Array Value)[i]? := by rw [← hw]; exact hb0
    have HW := Lib.hid hw
    clear c1 c2 c3 c4 hw hx
    obtain ⟨i, hi⟩ : ∃ i, i = n % k := ⟨_, rfl⟩
    rw [← hi] at c1' c2' c4'
    rw [← hi]
    have HI := Lib.hid hi
    clear hi
    go_wp2
    go_ret
    have H1 : RingP w1 rb gb from_ k q := by rw [← HW.out]; exact H.out.drw 1
    have O1 : Only [rb, gb] w w1 := by rw [← HW.out]; exact OB.out.drew 1
    obtain ⟨cs, hbk, hr⟩ := H1.rest
    refine ⟨rfl, ⟨((H1.head.setO H1.ne _ _).setO H1.ne _ _).setO H1.ne _ _, ⟨cs.set i (x, true), ?_, by rw [HI.out]; exact hr.set h1 h2 _⟩, H1.ne, H1.pos, H1.small, H1.top⟩, ((O1.setCell (by simp) _).setCell (by simp) _).setCell (by simp) _⟩
    have hs := ((hbk.set (i * 3) (.int .i64 x.1)).set (i * 3 + 1) (.int .i64 x.2)).set (i * 3 + 2) (.bool true)
    rw [setArr, setArr, setArr, sflat_set] at hs
    exact hs
  · have e0 : putC from_ k q (n : Int) = 8 := hc0
    have e1 : putQ from_ k q (n : Int) x = q := by rw [putQ, e0]; rfl
    rw [e0, e1]
    clear h e0 e1 ha hql hge hlt hnn hc0
    go_enter Try.func30, Try.ntmps30
    go_wp2_with fail
    refine (spotP_in rb gb from_ k n q _ H.out h1 h2).mono ?_
    rintro e w1 ⟨rfl, hw⟩
    obtain ⟨c1, c2, c4, c3⟩ := hat
    have hx1 : ∀ i, w1.cell? ⟨rb, i, none⟩ = (#[.int .i64 from_, .slice (some ⟨gb, 0, none⟩) k k] : Array Value)[i]? := by rw [← hw]; exact hx
    have c1' : w1.cell? ⟨gb, n % k * 3, none⟩ = some (.int .i64 a1.1) := by rw [← hw]; exact c1
    have c2' : w1.cell? ⟨gb, n % k * 3 + 1, none⟩ = some (.int .i64 a1.2) := by rw [← hw]; exact c2
    have c4' : w1.cell? ⟨gb, n % k * 3 + 2, none⟩ = some (.bool true) := by rw [← hw]; exact c4
    have hb1 : ∀ i, w1.cell? ⟨w.heap.size, i, none⟩ = (#[.int .i64 x.1, .int .i64 x.2] : Array Value)[i]? := by rw [← hw]; exact hb0
    have HW := Lib.hid hw
    clear c1 c2 c3 c4 hw hx
    generalize n % k * 3 = i at *
    go_wp2
    go_ret
    exact ⟨rfl, by rw [← HW.out]; exact H.out.drw 1, by rw [← HW.out]; exact OB.out.drew 1⟩

theorem zvP_z (w : World) : (zeroValue 79).run Try.prog w = .ok (.agg #[.int .i64 0, .int .i64 0, .bool false]) w := by kernel_rfl
theorem infoP_z : (Try.prog.info? 79).map (fun i => (i.zero, i.size, i.bytes)) = some (some (.agg #[.int .i64 0, .int .i64 0, .bool false]), 3, 24) := by kernel_rfl

/-- stores into a block of the call's own -/
theorem Only.own2 {s : List Nat} {a b : World} (h : Only s a b) {i j : Nat} {u v : Value} : Only s a ((b.setCell ⟨a.heap.size, i, none⟩ u).setCell ⟨a.heap.size, j, none⟩ v) :=
  ⟨h.os, h.tape, h.output, by simpa [World.setCell] using h.size, fun c hc hn => by
    rw [Below.heap_setCell _ _ _ _ (show c ≠ a.heap.size by omega), Below.heap_setCell _ _ _ _ (show c ≠ a.heap.size by omega)]
    exact h.block c hc hn⟩

set_option maxHeartbeats 1000000 in
theorem takeP_any (rb gb from_ k : Nat) (q : List ((Int × Int) × Bool)) (w : World) (h : RingP w rb gb from_ k q) (ht : from_ < 4611686018427387904) (a : (Int × Int) × Bool) (r : List ((Int × Int) × Bool)) (hq : q = a :: r) :
    Calls Try.prog 28 #[.pointer (some ⟨rb, 0, none⟩)] w fun e w' => e = .returned (.tuple #[.agg #[.int .i64 a.1.1, .int .i64 a.1.2], .bool a.2]) ∧ RingP w' rb gb (from_ + 1) k (r ++ [((0, 0), false)]) ∧ Only [rb, gb] w w' := by
  have hrl : rb < w.heap.size := h.head.lt
  have hgl : gb < w.heap.size := h.rest.elim fun cs hh => hh.1.lt
  have hB := (Below.refl w.heap.size w).alloc (Nat.le_refl _) (.cells #[.int .i64 0, .int .i64 0] 39)
  have H := Lib.hid (h.below hB)
  have OB := Lib.hid (Only.of_below [rb, gb] hB)
  have HR := Lib.hid (Blk.new w 39 #[.int .i64 0, .int .i64 0] w.heap.size rfl)
  have hx := H.out.head.cells
  have hk := h.pos
  have e0 : atQ (0, 0) from_ k q (from_ : Int) = a := by
    rw [atQ, if_neg (by omega), hq, show ((from_ : Int) - (from_ : Int)).toNat = 0 by omega]
    rfl
  have HQ := Lib.hid hq
  clear h hq hB
  go_enter Try.func28, Try.ntmps28
  go_wp2_with fail
  refine (atP_any rb gb from_ k (from_ : Int) q _ H.out (by omega)).mono ?_
  rintro e w1 ⟨rfl, hk1⟩
  rw [e0]
  have hz1 := hk1.size
  rw [World.size_alloc] at hz1
  have HK1 := Lib.hid (H.out.below hk1)
  have HO1 := Lib.hid (OB.out.trans (Only.of_below [rb, gb] hk1))
  have HR1 := Lib.hid (HR.out.below hk1)
  have hB2 := (Below.refl w1.heap.size w1).alloc (Nat.le_refl _) (.cells #[.int .i64 a.1.1, .int .i64 a.1.2] 39)
  have HA := Lib.hid (HK1.out.below hB2)
  have HOA := Lib.hid (HO1.out.trans (Only.of_below [rb, gb] hB2))
  have HRA := Lib.hid (HR1.out.below hB2)
  have HXA := Lib.hid (Blk.new w1 39 #[.int .i64 a.1.1, .int .i64 a.1.2] w1.heap.size rfl)
  have hxa := HA.out.head.cells
  clear hx e0 hk1 H OB HR HK1 HO1 HR1 hB2
  go_wp2_with fail
  refine (spotP_in rb gb from_ k from_ q _ HA.out (Nat.le_refl _) (by omega)).mono ?_
  rintro e w2 ⟨rfl, hw⟩
  have H2 : RingP w2 rb gb from_ k q := by rw [← hw]; exact HA.out.drw 1
  have O2 : Only [rb, gb] w w2 := by rw [← hw]; exact HOA.out.drew 1
  have R2 : Blk w2 w.heap.size 39 #[.int .i64 0, .int .i64 0] := by rw [← hw]; exact HRA.out
  have X2 : Blk w2 w1.heap.size 39 #[.int .i64 a.1.1, .int .i64 a.1.2] := by rw [← hw]; exact HXA.out
  clear hw hxa HA HOA HRA HXA
  have ha2 : q[from_ - from_]? = some a := by rw [HQ.out, Nat.sub_self]; rfl
  have hat := H2.at (n := from_) (by omega) (by omega) ha2
  have hx2 := H2.head.cells
  have hf2 := H2.head.froz
  have hxr := R2.cells
  have hfr := R2.froz
  have hxx := X2.cells
  obtain ⟨c1, c2, c4, c3⟩ := hat
  obtain ⟨i, hi⟩ : ∃ i, i = from_ % k := ⟨_, rfl⟩
  rw [← hi] at c1 c2 c4
  rw [← hi]
  have hclr : ∀ ty, (Builtin.clear_ #[73] ty #[.slice (some ⟨gb, i * 3, none⟩) 1 1]).run Try.prog w2 = .ok (.tuple #[]) (((w2.setCell ⟨gb, i * 3, none⟩ (.int .i64 0)).setCell ⟨gb, i * 3 + 1, none⟩ (.int .i64 0)).setCell ⟨gb, i * 3 + 2, none⟩ (.bool false)) := fun ty =>
    run_clear_three (P := Try.prog) w2 73 79 ty _ (by kernel_rfl) _ _ _ zvP_z rfl rfl rfl rfl gb (i * 3) 1 (fun j hj => by rcases (by omega : j = 0 ∨ j = 1 ∨ j = 2) with rfl | rfl | rfl <;> simp [c1, c2, c4]) (fun j hj => c3 _)
  have hne := H2.ne
  have hne2 : gb ≠ rb := fun e => hne e.symm
  have n1 : w.heap.size ≠ gb := by omega
  have n2 : w.heap.size ≠ rb := by omega
  have n3 : w1.heap.size ≠ gb := by omega
  have n4 : w1.heap.size ≠ rb := by omega
  have n5 : gb ≠ w.heap.size := by omega
  have n6 : rb ≠ w.heap.size := by omega
  have n7 : w1.heap.size ≠ w.heap.size := by omega
  have HH2 := Lib.hid H2
  have HO2 := Lib.hid O2
  have HI := Lib.hid hi
  have hwr : IntKind.i64.wrap ((from_ : Int) + 1) = (from_ : Int) + 1 := IntWalk.i64_in _ (by omega)
  clear H2 O2 hi ha2 R2 X2
  go_wp2
  refine bodyPost_ret (v := .tuple #[.agg #[.int .i64 a.1.1, .int .i64 a.1.2], .bool a.2]) (by simp [results, Try.results28, go_sem, hxr]) rfl ⟨rfl, ?_⟩
  obtain ⟨cs, hbk, hr⟩ := HH2.out.rest
  have ecast : (((from_ + 1 : Nat)) : Int) = (from_ : Int) + 1 := by omega
  have hrt := hr.take hk ((0, 0), false)
  rw [HQ.out, List.tail_cons, ← HI.out] at hrt
  refine ⟨⟨?_, ⟨cs.set i ((0, 0), false), ?_, hrt⟩, hne, hk, HH2.out.small, by omega⟩, ?_⟩
  · rw [ecast]
    exact (((((HH2.out.head.setO hne _ _).setO hne _ _).setO hne _ _).set 0 _).setO n6 _ _).setO n6 _ _
  · have hs := (((((hbk.set (i * 3) (.int .i64 0)).set (i * 3 + 1) (.int .i64 0)).set (i * 3 + 2) (.bool false)).setO hne2 0 (.int .i64 ((from_ : Int) + 1))).setO n5 0 (.int .i64 a.1.1)).setO n5 1 (.int .i64 a.1.2)
    rw [setArr, setArr, setArr, sflat_set cs i 0 0 false] at hs
    exact hs
  · exact Only.own2 ((((HO2.out.setCell (p := ⟨gb, i * 3, none⟩) (by simp) _).setCell (p := ⟨gb, i * 3 + 1, none⟩) (by simp) _).setCell (p := ⟨gb, i * 3 + 2, none⟩) (by simp) _).setCell (p := ⟨rb, 0, none⟩) (by simp) _)

theorem sflat_rep (n : Nat) : madeCells (Value.agg #[.int .i64 0, .int .i64 0, .bool false]).cells (n * 3) = (sflat (List.replicate n ((0, 0), false))).toArray := by
  have key : ∀ n : Nat, ∀ i, i < n * 3 → (sflat (List.replicate n ((0, 0), false)))[i]? = some (#[.int .i64 0, .int .i64 0, Value.bool false][i % 3]!) := by
    intro n
    induction n with
    | zero => intro i hi; omega
    | succ n ih =>
      intro i hi
      match i, hi with
      | 0, _ => rfl
      | 1, _ => rfl
      | 2, _ => rfl
      | i + 3, hi =>
        have e : (i + 3) % 3 = i % 3 := by omega
        rw [e]
        exact ih i (by omega)
  have hl : (sflat (List.replicate n ((0, 0), false))).length = n * 3 := by rw [sflat_len, List.length_replicate]
  apply Array.ext
  · simp [madeCells, hl]
  · intro i h1 h2
    have hi : i < n * 3 := by simpa [madeCells] using h1
    have := key n i hi
    rw [List.getElem?_eq_getElem (by omega)] at this
    have h3 := Option.some.inj this
    simp [madeCells, Value.cells]
    rw [h3]
    rcases (by omega : i % 3 = 0 ∨ i % 3 = 1 ∨ i % 3 = 2) with h | h | h <;> rw [h] <;> rfl

set_option maxHeartbeats 1000000 in
theorem newP_any (k from_ : Nat) (w : World) (hk : 1 ≤ k ∧ k ≤ 1000) (hf : from_ ≤ 4611686018427387904) :
    Calls Try.prog 25 #[.int .i64 k, .int .i64 from_] w fun e w' => ∃ rb gb, e = .returned (.pointer (some ⟨rb, 0, none⟩)) ∧ RingP w' rb gb from_ k (List.replicate k ((0, 0), false)) ∧ Below w.heap.size w w' ∧ w.heap.size ≤ rb ∧ w.heap.size ≤ gb := by
  have hmk : ∀ w : World, (Instr.makeSlice 73 (.int .i64 (k : Int)) (.int .i64 (k : Int))).run Try.prog w = .ok (.slice (some ⟨w.heap.size, 0, none⟩) k k) (w.alloc (.cells (sflat (List.replicate k ((0, 0), false))).toArray 79)) := by
    intro w
    have h := run_make_rowN (P := Try.prog) 73 79 (.agg #[.int .i64 0, .int .i64 0, .bool false]) 24 (k := 3) (by kernel_rfl) infoP_z .i64 .i64 k (by omega) (by omega) w
    rw [sflat_rep] at h
    exact h
  have m1 := fun w => run_max_int2 (P := Try.prog) w #[3, 3] 3 .i64 .i64 (k : Int) 0
  have m2 := fun w => run_min_int2 (P := Try.prog) w #[3, 3] 3 .i64 .i64 (k : Int) 1000
  have m3 := fun w => run_max_int2 (P := Try.prog) w #[3, 3] 3 .i64 .i64 (from_ : Int) 0
  go_enter Try.func25, Try.ntmps25
  go_wp2
  go_ret
  exact ⟨w.heap.size + 1, w.heap.size, rfl, ⟨Blk.new _ _ _ _ (by simp), ⟨_, (Blk.new w _ _ _ rfl).al _, Rel.new from_ k _ (by omega)⟩, by omega, by omega, by omega, hf⟩, by go_grown, by omega, by omega⟩
end Go.Proofs.Ytoiaagdpckgpoaa
