/- Layer 12: contracts of rings. -/
import Derived.Test.YtpbhfhjnjmcgjaaRingF
import Derived.StillTailTactics
namespace Go.Proofs.Ytpbhfhjnjmcgjaa
open Go.ChangeShapes Go.WideShapes Go.ChangeAt Go.RowKit
set_option linter.unusedVariables false
set_option linter.unusedSimpArgs false

set_option maxHeartbeats 1000000 in
theorem putI_any (rb gb from_ k : Nat) (at_ : Int) (x : Int) (q : List (Int × Bool)) (w : World) (h : RingI w rb gb from_ k q) (hb : -4611686018427387904 ≤ at_ ∧ at_ ≤ 4611686018427387904) :
    Calls Try.prog 16 #[.pointer (some ⟨rb, 0, none⟩), .int .i64 at_, .int .i64 x] w fun e w' => e = .returned (.int .i64 (putC from_ k q at_)) ∧ RingI w' rb gb from_ k (putQ from_ k q at_ x) ∧ Only [rb, gb] w w' := by
  have H := Lib.hid h
  have hx := h.head.cells
  by_cases hlt : at_ < (from_ : Int)
  · have e0 : putC from_ k q at_ = 6 := if_pos hlt
    have e1 : putQ from_ k q at_ x = q := by rw [putQ, e0]; rfl
    have g1 : decide (at_ < (from_ : Int)) = true := decide_eq_true hlt
    rw [e0, e1]
    clear h e0 e1
    go_enter Try.func16, Try.ntmps16
    go_wp2_with fail
    refine (spotI_out rb gb from_ k at_ q w H.out hb (.inl hlt)).mono ?_
    rintro e w1 ⟨rfl, hw⟩
    have hx1 : ∀ i, w1.cell? ⟨rb, i, none⟩ = (#[.int .i64 from_, .slice (some ⟨gb, 0, none⟩) k k] : Array Value)[i]? := by rw [← hw]; exact hx
    have HW := Lib.hid hw
    clear hw hx
    go_wp2
    go_ret
    exact ⟨rfl, by rw [← HW.out]; exact H.out.drw 1, by rw [← HW.out]; exact (Only.refl _ _).drew 1⟩
  by_cases hge : at_ - (from_ : Int) ≥ (k : Int)
  · have e0 : putC from_ k q at_ = 7 := by rw [putC, if_neg hlt, if_pos hge]
    have e1 : putQ from_ k q at_ x = q := by rw [putQ, e0]; rfl
    have g1 : decide (at_ < (from_ : Int)) = false := decide_eq_false hlt
    rw [e0, e1]
    clear h e0 e1
    go_enter Try.func16, Try.ntmps16
    go_wp2_with fail
    refine (spotI_out rb gb from_ k at_ q w H.out hb (.inr hge)).mono ?_
    rintro e w1 ⟨rfl, hw⟩
    have hx1 : ∀ i, w1.cell? ⟨rb, i, none⟩ = (#[.int .i64 from_, .slice (some ⟨gb, 0, none⟩) k k] : Array Value)[i]? := by rw [← hw]; exact hx
    have HW := Lib.hid hw
    clear hw hx
    go_wp2
    go_ret
    exact ⟨rfl, by rw [← HW.out]; exact H.out.drw 1, by rw [← HW.out]; exact (Only.refl _ _).drew 1⟩
  obtain ⟨n, hn⟩ : ∃ n : Nat, at_ = (n : Int) := ⟨at_.toNat, by omega⟩
  subst hn
  have hql := (h.rest.elim fun cs hh => hh.2.2.1)
  obtain ⟨a, ha⟩ : ∃ a, q[n - from_]? = some a := ⟨_, List.getElem?_eq_getElem (by omega)⟩
  have hat := h.at (n := n) (by omega) (by omega) ha
  have h1 : from_ ≤ n := by omega
  have h2 : n < from_ + k := by omega
  have hnn : ((n : Int) - (from_ : Int)).toNat = n - from_ := by omega
  have g1 : decide ((n : Int) < (from_ : Int)) = false := decide_eq_false hlt
  have g1' : ¬ n < from_ := by omega
  obtain ⟨a1, a2⟩ := a
  have hc0 : putC from_ k q (n : Int) = if a2 then 8 else 9 := by rw [putC, if_neg hlt, if_neg hge, hnn, ha]; rfl
  cases a2
  · have e0 : putC from_ k q (n : Int) = 9 := hc0
    have e1 : putQ from_ k q (n : Int) x = q.set (n - from_) (x, true) := by rw [putQ, e0, if_pos rfl, hnn]
    rw [e0, e1]
    clear h e0 e1 ha hql hge hlt hnn hc0
    go_enter Try.func16, Try.ntmps16
    go_wp2_with fail
    refine (spotI_in rb gb from_ k n q w H.out h1 h2).mono ?_
    rintro e w1 ⟨rfl, hw⟩
    obtain ⟨c1, c2, c3⟩ := hat
    have hx1 : ∀ i, w1.cell? ⟨rb, i, none⟩ = (#[.int .i64 from_, .slice (some ⟨gb, 0, none⟩) k k] : Array Value)[i]? := by rw [← hw]; exact hx
    have c1' : w1.cell? ⟨gb, n % k * 2, none⟩ = some ((Value.int .i64) a1) := by rw [← hw]; exact c1
    have c2' : w1.cell? ⟨gb, n % k * 2 + 1, none⟩ = some (.bool false) := by rw [← hw]; exact c2
    have c3' : ∀ i, w1.frozen? ⟨gb, i, none⟩ = false := by rw [← hw]; exact c3
    have HW := Lib.hid hw
    clear c1 c2 c3 hw hx
    obtain ⟨i, hi⟩ : ∃ i, i = n % k := ⟨_, rfl⟩
    rw [← hi] at c1' c2'
    rw [← hi]
    have HI := Lib.hid hi
    clear hi
    go_wp2
    go_ret
    have H1 : RingI w1 rb gb from_ k q := by rw [← HW.out]; exact H.out.drw 1
    have O1 : Only [rb, gb] w w1 := by rw [← HW.out]; exact (Only.refl _ _).drew 1
    obtain ⟨cs, hbk, hr⟩ := H1.rest
    refine ⟨rfl, ⟨(H1.head.setO H1.ne _ _).setO H1.ne _ _, ⟨cs.set i (x, true), ?_, by rw [HI.out]; exact hr.set h1 h2 _⟩, H1.ne, H1.pos, H1.small, H1.top⟩, (O1.setCell (by simp) _).setCell (by simp) _⟩
    have hs := (hbk.set (i * 2) ((Value.int .i64) x)).set (i * 2 + 1) (.bool true)
    rw [setArr, setArr, flat_set] at hs
    exact hs
  · have e0 : putC from_ k q (n : Int) = 8 := hc0
    have e1 : putQ from_ k q (n : Int) x = q := by rw [putQ, e0]; rfl
    rw [e0, e1]
    clear h e0 e1 ha hql hge hlt hnn hc0
    go_enter Try.func16, Try.ntmps16
    go_wp2_with fail
    refine (spotI_in rb gb from_ k n q w H.out h1 h2).mono ?_
    rintro e w1 ⟨rfl, hw⟩
    obtain ⟨c1, c2, c3⟩ := hat
    have hx1 : ∀ i, w1.cell? ⟨rb, i, none⟩ = (#[.int .i64 from_, .slice (some ⟨gb, 0, none⟩) k k] : Array Value)[i]? := by rw [← hw]; exact hx
    have c1' : w1.cell? ⟨gb, n % k * 2, none⟩ = some ((Value.int .i64) a1) := by rw [← hw]; exact c1
    have c2' : w1.cell? ⟨gb, n % k * 2 + 1, none⟩ = some (.bool true) := by rw [← hw]; exact c2
    have HW := Lib.hid hw
    clear c1 c2 c3 hw hx
    generalize n % k * 2 = i at *
    go_wp2
    go_ret
    exact ⟨rfl, by rw [← HW.out]; exact H.out.drw 1, by rw [← HW.out]; exact (Only.refl _ _).drew 1⟩

theorem zvI_z (w : World) : (zeroValue 60).run Try.prog w = .ok (.agg #[(.int .i64 0), .bool false]) w := by kernel_rfl
theorem infoI_z : (Try.prog.info? 60).map (fun i => (i.zero, i.size, i.bytes)) = some (some (.agg #[(.int .i64 0), .bool false]), 2, 16) := by kernel_rfl

set_option maxHeartbeats 1000000 in
theorem takeI_any (rb gb from_ k : Nat) (q : List (Int × Bool)) (w : World) (h : RingI w rb gb from_ k q) (ht : from_ < 4611686018427387904) (a : Int × Bool) (r : List (Int × Bool)) (hq : q = a :: r) :
    Calls Try.prog 18 #[.pointer (some ⟨rb, 0, none⟩)] w fun e w' => e = .returned (.tuple #[(Value.int .i64) a.1, .bool a.2]) ∧ RingI w' rb gb (from_ + 1) k (r ++ [(0, false)]) ∧ Only [rb, gb] w w' := by
  have H := Lib.hid h
  have hx := h.head.cells
  have hxf := h.head.froz
  have hk := h.pos
  have ha : q[from_ - from_]? = some a := by rw [hq, Nat.sub_self]; rfl
  have hat := h.at (n := from_) (by omega) (by omega) ha
  have e0 : atQ 0 from_ k q (from_ : Int) = a := by
    rw [atQ, if_neg (by omega), hq, show ((from_ : Int) - (from_ : Int)).toNat = 0 by omega]
    rfl
  have HQ := Lib.hid hq
  clear h hq ha
  go_enter Try.func18, Try.ntmps18
  go_wp2_with fail
  refine (atI_any rb gb from_ k (from_ : Int) q w H.out (by omega)).mono ?_
  rintro e w1 ⟨rfl, m, hw⟩
  rw [e0]
  have H1 : RingI w1 rb gb from_ k q := by rw [← hw]; exact H.out.drw m
  have O1 : Only [rb, gb] w w1 := by rw [← hw]; exact (Only.refl _ _).drew m
  have hx1 := H1.head.cells
  clear hw hx hxf e0 hat
  have HH1 := Lib.hid H1
  have HO1 := Lib.hid O1
  clear H1 O1
  go_wp2_with fail
  refine (spotI_in rb gb from_ k from_ q w1 HH1.out (Nat.le_refl _) (by omega)).mono ?_
  rintro e w2 ⟨rfl, hw⟩
  have H2 : RingI w2 rb gb from_ k q := by rw [← hw]; exact HH1.out.drw 1
  have O2 : Only [rb, gb] w w2 := by rw [← hw]; exact HO1.out.drew 1
  clear hw hx1
  have ha2 : q[from_ - from_]? = some a := by rw [HQ.out, Nat.sub_self]; rfl
  have hat := H2.at (n := from_) (by omega) (by omega) ha2
  have hx2 := H2.head.cells
  have hf2 := H2.head.froz
  obtain ⟨c1, c2, c3⟩ := hat
  obtain ⟨i, hi⟩ : ∃ i, i = from_ % k := ⟨_, rfl⟩
  rw [← hi] at c1 c2
  rw [← hi]
  have hclr : ∀ ty, (Builtin.clear_ #[55] ty #[.slice (some ⟨gb, i * 2, none⟩) 1 1]).run Try.prog w2 = .ok (.tuple #[]) ((w2.setCell ⟨gb, i * 2, none⟩ (.int .i64 0)).setCell ⟨gb, i * 2 + 1, none⟩ (.bool false)) := fun ty =>
    run_clear_two (P := Try.prog) w2 55 60 ty _ (by kernel_rfl) _ _ zvI_z rfl rfl rfl gb (i * 2) 1 (fun j hj => by rcases (by omega : j = 0 ∨ j = 1) with rfl | rfl <;> simp [c1, c2]) (fun j hj => c3 _)
  have hne := H2.ne
  have hne2 : gb ≠ rb := fun e => hne e.symm
  have HH2 := Lib.hid H2
  have HO2 := Lib.hid O2
  have HI := Lib.hid hi
  have hwr : IntKind.i64.wrap ((from_ : Int) + 1) = (from_ : Int) + 1 := IntWalk.i64_in _ (by omega)
  clear H2 O2 hi HH1 HO1 ha2
  go_wp2
  go_ret2
  obtain ⟨cs, hbk, hr⟩ := HH2.out.rest
  have ecast : (((from_ + 1 : Nat)) : Int) = (from_ : Int) + 1 := by omega
  have hrt := hr.take hk (0, false)
  rw [HQ.out, List.tail_cons, ← HI.out] at hrt
  refine ⟨rfl, ⟨?_, ⟨cs.set i (0, false), ?_, hrt⟩, hne, hk, HH2.out.small, by omega⟩, ((HO2.out.setCell (by simp) _).setCell (by simp) _).setCell (by simp) _⟩
  · rw [ecast]
    exact ((HH2.out.head.setO hne _ _).setO hne _ _).set 0 _
  · have hs := ((hbk.set (i * 2) (.int .i64 0)).set (i * 2 + 1) (.bool false)).setO hne2 0 (.int .i64 ((from_ : Int) + 1))
    rw [setArr, setArr, flat_set (Value.int .i64) cs i 0 false] at hs
    exact hs

theorem flatI_rep (n : Nat) : madeCells (Value.agg #[(.int .i64 0), .bool false]).cells (n * 2) = (flat (Value.int .i64) (List.replicate n (0, false))).toArray := by
  have key : ∀ n : Nat, ∀ i, i < n * 2 → (flat (Value.int .i64) (List.replicate n (0, false)))[i]? = some (#[(.int .i64 0), Value.bool false][i % 2]!) := by
    intro n
    induction n with
    | zero => intro i hi; omega
    | succ n ih =>
      intro i hi
      match i, hi with
      | 0, _ => rfl
      | 1, _ => rfl
      | i + 2, hi =>
        have e : (i + 2) % 2 = i % 2 := by omega
        rw [e]
        exact ih i (by omega)
  have hl : (flat (Value.int .i64) (List.replicate n (0, false))).length = n * 2 := by rw [flat_len, List.length_replicate]
  apply Array.ext
  · simp [madeCells, hl]
  · intro i h1 h2
    have hi : i < n * 2 := by simpa [madeCells] using h1
    have := key n i hi
    rw [List.getElem?_eq_getElem (by omega)] at this
    have h3 := Option.some.inj this
    simp [madeCells, Value.cells]
    rw [h3]
    rcases (by omega : i % 2 = 0 ∨ i % 2 = 1) with h | h <;> rw [h] <;> rfl

set_option maxHeartbeats 1000000 in
theorem newI_any (k from_ : Nat) (w : World) (hk : 1 ≤ k ∧ k ≤ 1000) (hf : from_ ≤ 4611686018427387904) :
    Calls Try.prog 10 #[.int .i64 k, .int .i64 from_] w fun e w' => ∃ rb gb, e = .returned (.pointer (some ⟨rb, 0, none⟩)) ∧ RingI w' rb gb from_ k (List.replicate k (0, false)) ∧ Below w.heap.size w w' ∧ w.heap.size ≤ rb ∧ w.heap.size ≤ gb := by
  have hmk : ∀ w : World, (Instr.makeSlice 55 (.int .i64 (k : Int)) (.int .i64 (k : Int))).run Try.prog w = .ok (.slice (some ⟨w.heap.size, 0, none⟩) k k) (w.alloc (.cells (flat (Value.int .i64) (List.replicate k (0, false))).toArray 60)) := by
    intro w
    have h := run_make_rowN (P := Try.prog) 55 60 (.agg #[(.int .i64 0), .bool false]) 16 (k := 2) (by kernel_rfl) infoI_z .i64 .i64 k (by omega) (by omega) w
    rw [flatI_rep] at h
    exact h
  have m1 := fun w => run_max_int2 (P := Try.prog) w #[3, 3] 3 .i64 .i64 (k : Int) 0
  have m2 := fun w => run_min_int2 (P := Try.prog) w #[3, 3] 3 .i64 .i64 (k : Int) 1000
  have m3 := fun w => run_max_int2 (P := Try.prog) w #[3, 3] 3 .i64 .i64 (from_ : Int) 0
  go_enter Try.func10, Try.ntmps10
  go_wp2
  go_ret
  exact ⟨w.heap.size + 1, w.heap.size, rfl, ⟨Blk.new _ _ _ _ (by simp), ⟨_, (Blk.new w _ _ _ rfl).al _, Rel.new from_ k _ (by omega)⟩, by omega, by omega, by omega, hf⟩, by go_grown, by omega, by omega⟩
set_option maxHeartbeats 1000000 in
theorem putS_any (rb gb from_ k : Nat) (at_ : Int) (x : ByteArray) (q : List (ByteArray × Bool)) (w : World) (h : RingS w rb gb from_ k q) (hb : -4611686018427387904 ≤ at_ ∧ at_ ≤ 4611686018427387904) :
    Calls Try.prog 21 #[.pointer (some ⟨rb, 0, none⟩), .int .i64 at_, .string x] w fun e w' => e = .returned (.int .i64 (putC from_ k q at_)) ∧ RingS w' rb gb from_ k (putQ from_ k q at_ x) ∧ Only [rb, gb] w w' := by
  have H := Lib.hid h
  have hx := h.head.cells
  by_cases hlt : at_ < (from_ : Int)
  · have e0 : putC from_ k q at_ = 6 := if_pos hlt
    have e1 : putQ from_ k q at_ x = q := by rw [putQ, e0]; rfl
    have g1 : decide (at_ < (from_ : Int)) = true := decide_eq_true hlt
    rw [e0, e1]
    clear h e0 e1
    go_enter Try.func21, Try.ntmps21
    go_wp2_with fail
    refine (spotS_out rb gb from_ k at_ q w H.out hb (.inl hlt)).mono ?_
    rintro e w1 ⟨rfl, hw⟩
    have hx1 : ∀ i, w1.cell? ⟨rb, i, none⟩ = (#[.int .i64 from_, .slice (some ⟨gb, 0, none⟩) k k] : Array Value)[i]? := by rw [← hw]; exact hx
    have HW := Lib.hid hw
    clear hw hx
    go_wp2
    go_ret
    exact ⟨rfl, by rw [← HW.out]; exact H.out.drw 1, by rw [← HW.out]; exact (Only.refl _ _).drew 1⟩
  by_cases hge : at_ - (from_ : Int) ≥ (k : Int)
  · have e0 : putC from_ k q at_ = 7 := by rw [putC, if_neg hlt, if_pos hge]
    have e1 : putQ from_ k q at_ x = q := by rw [putQ, e0]; rfl
    have g1 : decide (at_ < (from_ : Int)) = false := decide_eq_false hlt
    rw [e0, e1]
    clear h e0 e1
    go_enter Try.func21, Try.ntmps21
    go_wp2_with fail
    refine (spotS_out rb gb from_ k at_ q w H.out hb (.inr hge)).mono ?_
    rintro e w1 ⟨rfl, hw⟩
    have hx1 : ∀ i, w1.cell? ⟨rb, i, none⟩ = (#[.int .i64 from_, .slice (some ⟨gb, 0, none⟩) k k] : Array Value)[i]? := by rw [← hw]; exact hx
    have HW := Lib.hid hw
    clear hw hx
    go_wp2
    go_ret
    exact ⟨rfl, by rw [← HW.out]; exact H.out.drw 1, by rw [← HW.out]; exact (Only.refl _ _).drew 1⟩
  obtain ⟨n, hn⟩ : ∃ n : Nat, at_ = (n : Int) := ⟨at_.toNat, by omega⟩
  subst hn
  have hql := (h.rest.elim fun cs hh => hh.2.2.1)
  obtain ⟨a, ha⟩ : ∃ a, q[n - from_]? = some a := ⟨_, List.getElem?_eq_getElem (by omega)⟩
  have hat := h.at (n := n) (by omega) (by omega) ha
  have h1 : from_ ≤ n := by omega
  have h2 : n < from_ + k := by omega
  have hnn : ((n : Int) - (from_ : Int)).toNat = n - from_ := by omega
  have g1 : decide ((n : Int) < (from_ : Int)) = false := decide_eq_false hlt
  have g1' : ¬ n < from_ := by omega
  obtain ⟨a1, a2⟩ := a
  have hc0 : putC from_ k q (n : Int) = if a2 then 8 else 9 := by rw [putC, if_neg hlt, if_neg hge, hnn, ha]; rfl
  cases a2
  · have e0 : putC from_ k q (n : Int) = 9 := hc0
    have e1 : putQ from_ k q (n : Int) x = q.set (n - from_) (x, true) := by rw [putQ, e0, if_pos rfl, hnn]
    rw [e0, e1]
    clear h e0 e1 ha hql hge hlt hnn hc0
    go_enter Try.func21, Try.ntmps21
    go_wp2_with fail
    refine (spotS_in rb gb from_ k n q w H.out h1 h2).mono ?_
    rintro e w1 ⟨rfl, hw⟩
    obtain ⟨c1, c2, c3⟩ := hat
    have hx1 : ∀ i, w1.cell? ⟨rb, i, none⟩ = (#[.int .i64 from_, .slice (some ⟨gb, 0, none⟩) k k] : Array Value)[i]? := by rw [← hw]; exact hx
    have c1' : w1.cell? ⟨gb, n % k * 2, none⟩ = some (Value.string a1) := by rw [← hw]; exact c1
    have c2' : w1.cell? ⟨gb, n % k * 2 + 1, none⟩ = some (.bool false) := by rw [← hw]; exact c2
    have c3' : ∀ i, w1.frozen? ⟨gb, i, none⟩ = false := by rw [← hw]; exact c3
    have HW := Lib.hid hw
    clear c1 c2 c3 hw hx
    obtain ⟨i, hi⟩ : ∃ i, i = n % k := ⟨_, rfl⟩
    rw [← hi] at c1' c2'
    rw [← hi]
    have HI := Lib.hid hi
    clear hi
    go_wp2
    go_ret
    have H1 : RingS w1 rb gb from_ k q := by rw [← HW.out]; exact H.out.drw 1
    have O1 : Only [rb, gb] w w1 := by rw [← HW.out]; exact (Only.refl _ _).drew 1
    obtain ⟨cs, hbk, hr⟩ := H1.rest
    refine ⟨rfl, ⟨(H1.head.setO H1.ne _ _).setO H1.ne _ _, ⟨cs.set i (x, true), ?_, by rw [HI.out]; exact hr.set h1 h2 _⟩, H1.ne, H1.pos, H1.small, H1.top⟩, (O1.setCell (by simp) _).setCell (by simp) _⟩
    have hs := (hbk.set (i * 2) (Value.string x)).set (i * 2 + 1) (.bool true)
    rw [setArr, setArr, flat_set] at hs
    exact hs
  · have e0 : putC from_ k q (n : Int) = 8 := hc0
    have e1 : putQ from_ k q (n : Int) x = q := by rw [putQ, e0]; rfl
    rw [e0, e1]
    clear h e0 e1 ha hql hge hlt hnn hc0
    go_enter Try.func21, Try.ntmps21
    go_wp2_with fail
    refine (spotS_in rb gb from_ k n q w H.out h1 h2).mono ?_
    rintro e w1 ⟨rfl, hw⟩
    obtain ⟨c1, c2, c3⟩ := hat
    have hx1 : ∀ i, w1.cell? ⟨rb, i, none⟩ = (#[.int .i64 from_, .slice (some ⟨gb, 0, none⟩) k k] : Array Value)[i]? := by rw [← hw]; exact hx
    have c1' : w1.cell? ⟨gb, n % k * 2, none⟩ = some (Value.string a1) := by rw [← hw]; exact c1
    have c2' : w1.cell? ⟨gb, n % k * 2 + 1, none⟩ = some (.bool true) := by rw [← hw]; exact c2
    have HW := Lib.hid hw
    clear c1 c2 c3 hw hx
    generalize n % k * 2 = i at *
    go_wp2
    go_ret
    exact ⟨rfl, by rw [← HW.out]; exact H.out.drw 1, by rw [← HW.out]; exact (Only.refl _ _).drew 1⟩

theorem zvS_z (w : World) : (zeroValue 66).run Try.prog w = .ok (.agg #[(.string ByteArray.empty), .bool false]) w := by kernel_rfl
theorem infoS_z : (Try.prog.info? 66).map (fun i => (i.zero, i.size, i.bytes)) = some (some (.agg #[(.string ByteArray.empty), .bool false]), 2, 24) := by kernel_rfl

set_option maxHeartbeats 1000000 in
theorem takeS_any (rb gb from_ k : Nat) (q : List (ByteArray × Bool)) (w : World) (h : RingS w rb gb from_ k q) (ht : from_ < 4611686018427387904) (a : ByteArray × Bool) (r : List (ByteArray × Bool)) (hq : q = a :: r) :
    Calls Try.prog 22 #[.pointer (some ⟨rb, 0, none⟩)] w fun e w' => e = .returned (.tuple #[Value.string a.1, .bool a.2]) ∧ RingS w' rb gb (from_ + 1) k (r ++ [(ByteArray.empty, false)]) ∧ Only [rb, gb] w w' := by
  have H := Lib.hid h
  have hx := h.head.cells
  have hxf := h.head.froz
  have hk := h.pos
  have ha : q[from_ - from_]? = some a := by rw [hq, Nat.sub_self]; rfl
  have hat := h.at (n := from_) (by omega) (by omega) ha
  have e0 : atQ ByteArray.empty from_ k q (from_ : Int) = a := by
    rw [atQ, if_neg (by omega), hq, show ((from_ : Int) - (from_ : Int)).toNat = 0 by omega]
    rfl
  have HQ := Lib.hid hq
  clear h hq ha
  go_enter Try.func22, Try.ntmps22
  go_wp2_with fail
  refine (atS_any rb gb from_ k (from_ : Int) q w H.out (by omega)).mono ?_
  rintro e w1 ⟨rfl, m, hw⟩
  rw [e0]
  have H1 : RingS w1 rb gb from_ k q := by rw [← hw]; exact H.out.drw m
  have O1 : Only [rb, gb] w w1 := by rw [← hw]; exact (Only.refl _ _).drew m
  have hx1 := H1.head.cells
  clear hw hx hxf e0 hat
  have HH1 := Lib.hid H1
  have HO1 := Lib.hid O1
  clear H1 O1
  go_wp2_with fail
  refine (spotS_in rb gb from_ k from_ q w1 HH1.out (Nat.le_refl _) (by omega)).mono ?_
  rintro e w2 ⟨rfl, hw⟩
  have H2 : RingS w2 rb gb from_ k q := by rw [← hw]; exact HH1.out.drw 1
  have O2 : Only [rb, gb] w w2 := by rw [← hw]; exact HO1.out.drew 1
  clear hw hx1
  have ha2 : q[from_ - from_]? = some a := by rw [HQ.out, Nat.sub_self]; rfl
  have hat := H2.at (n := from_) (by omega) (by omega) ha2
  have hx2 := H2.head.cells
  have hf2 := H2.head.froz
  obtain ⟨c1, c2, c3⟩ := hat
  obtain ⟨i, hi⟩ : ∃ i, i = from_ % k := ⟨_, rfl⟩
  rw [← hi] at c1 c2
  rw [← hi]
  have hclr : ∀ ty, (Builtin.clear_ #[61] ty #[.slice (some ⟨gb, i * 2, none⟩) 1 1]).run Try.prog w2 = .ok (.tuple #[]) ((w2.setCell ⟨gb, i * 2, none⟩ (.string ByteArray.empty)).setCell ⟨gb, i * 2 + 1, none⟩ (.bool false)) := fun ty =>
    run_clear_two (P := Try.prog) w2 61 66 ty _ (by kernel_rfl) _ _ zvS_z rfl rfl rfl gb (i * 2) 1 (fun j hj => by rcases (by omega : j = 0 ∨ j = 1) with rfl | rfl <;> simp [c1, c2]) (fun j hj => c3 _)
  have hne := H2.ne
  have hne2 : gb ≠ rb := fun e => hne e.symm
  have HH2 := Lib.hid H2
  have HO2 := Lib.hid O2
  have HI := Lib.hid hi
  have hwr : IntKind.i64.wrap ((from_ : Int) + 1) = (from_ : Int) + 1 := IntWalk.i64_in _ (by omega)
  clear H2 O2 hi HH1 HO1 ha2
  go_wp2
  go_ret2
  obtain ⟨cs, hbk, hr⟩ := HH2.out.rest
  have ecast : (((from_ + 1 : Nat)) : Int) = (from_ : Int) + 1 := by omega
  have hrt := hr.take hk (ByteArray.empty, false)
  rw [HQ.out, List.tail_cons, ← HI.out] at hrt
  refine ⟨rfl, ⟨?_, ⟨cs.set i (ByteArray.empty, false), ?_, hrt⟩, hne, hk, HH2.out.small, by omega⟩, ((HO2.out.setCell (by simp) _).setCell (by simp) _).setCell (by simp) _⟩
  · rw [ecast]
    exact ((HH2.out.head.setO hne _ _).setO hne _ _).set 0 _
  · have hs := ((hbk.set (i * 2) (.string ByteArray.empty)).set (i * 2 + 1) (.bool false)).setO hne2 0 (.int .i64 ((from_ : Int) + 1))
    rw [setArr, setArr, flat_set Value.string cs i ByteArray.empty false] at hs
    exact hs

theorem flatS_rep (n : Nat) : madeCells (Value.agg #[(.string ByteArray.empty), .bool false]).cells (n * 2) = (flat Value.string (List.replicate n (ByteArray.empty, false))).toArray := by
  have key : ∀ n : Nat, ∀ i, i < n * 2 → (flat Value.string (List.replicate n (ByteArray.empty, false)))[i]? = some (#[(.string ByteArray.empty), Value.bool false][i % 2]!) := by
    intro n
    induction n with
    | zero => intro i hi; omega
    | succ n ih =>
      intro i hi
      match i, hi with
      | 0, _ => rfl
      | 1, _ => rfl
      | i + 2, hi =>
        have e : (i + 2) % 2 = i % 2 := by omega
        rw [e]
        exact ih i (by omega)
  have hl : (flat Value.string (List.replicate n (ByteArray.empty, false))).length = n * 2 := by rw [flat_len, List.length_replicate]
  apply Array.ext
  · simp [madeCells, hl]
  · intro i h1 h2
    have hi : i < n * 2 := by simpa [madeCells] using h1
    have := key n i hi
    rw [List.getElem?_eq_getElem (by omega)] at this
    have h3 := Option.some.inj this
    simp [madeCells, Value.cells]
    rw [h3]
    rcases (by omega : i % 2 = 0 ∨ i % 2 = 1) with h | h <;> rw [h] <;> rfl

set_option maxHeartbeats 1000000 in
theorem newS_any (k from_ : Nat) (w : World) (hk : 1 ≤ k ∧ k ≤ 1000) (hf : from_ ≤ 4611686018427387904) :
    Calls Try.prog 20 #[.int .i64 k, .int .i64 from_] w fun e w' => ∃ rb gb, e = .returned (.pointer (some ⟨rb, 0, none⟩)) ∧ RingS w' rb gb from_ k (List.replicate k (ByteArray.empty, false)) ∧ Below w.heap.size w w' ∧ w.heap.size ≤ rb ∧ w.heap.size ≤ gb := by
  have hmk : ∀ w : World, (Instr.makeSlice 61 (.int .i64 (k : Int)) (.int .i64 (k : Int))).run Try.prog w = .ok (.slice (some ⟨w.heap.size, 0, none⟩) k k) (w.alloc (.cells (flat Value.string (List.replicate k (ByteArray.empty, false))).toArray 66)) := by
    intro w
    have h := run_make_rowN (P := Try.prog) 61 66 (.agg #[(.string ByteArray.empty), .bool false]) 24 (k := 2) (by kernel_rfl) infoS_z .i64 .i64 k (by omega) (by omega) w
    rw [flatS_rep] at h
    exact h
  have m1 := fun w => run_max_int2 (P := Try.prog) w #[3, 3] 3 .i64 .i64 (k : Int) 0
  have m2 := fun w => run_min_int2 (P := Try.prog) w #[3, 3] 3 .i64 .i64 (k : Int) 1000
  have m3 := fun w => run_max_int2 (P := Try.prog) w #[3, 3] 3 .i64 .i64 (from_ : Int) 0
  go_enter Try.func20, Try.ntmps20
  go_wp2
  go_ret
  exact ⟨w.heap.size + 1, w.heap.size, rfl, ⟨Blk.new _ _ _ _ (by simp), ⟨_, (Blk.new w _ _ _ rfl).al _, Rel.new from_ k _ (by omega)⟩, by omega, by omega, by omega, hf⟩, by go_grown, by omega, by omega⟩
end Go.Proofs.Ytpbhfhjnjmcgjaa
