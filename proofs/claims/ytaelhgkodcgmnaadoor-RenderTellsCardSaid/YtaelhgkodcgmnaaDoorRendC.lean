/- Layer 23: alike? -/
import Derived.Test.YtaelhgkodcgmnaaDoorRendB
import Derived.Test.YtaelhgkodcgmnaaDoorAlm
import Derived.Deep.QuietTactic
import Derived.BigQuiet
import Derived.Laws.StructEq
namespace Go.Proofs.YtaelhgkodcgmnaaDoor
open Go.ChangeShapes Go.WideShapes Go.ChangeAt Go.RowKit
set_option linter.unusedVariables false
set_option linter.unusedSimpArgs false

def c3 (l : List (Int × Int × Int)) : List Value := l.flatMap fun a => [.int .i64 a.1, .int .i64 a.2.1, .int .i64 a.2.2]
theorem c3_len (l : List (Int × Int × Int)) : (c3 l).length = l.length * 3 := by
  induction l with
  | nil => rfl
  | cons a l ih => simp [c3] at ih ⊢; omega
theorem c3_at (l : List (Int × Int × Int)) (i : Nat) (a : Int × Int × Int) (h : l[i]? = some a) : (c3 l)[i * 3]? = some (.int .i64 a.1) ∧ (c3 l)[i * 3 + 1]? = some (.int .i64 a.2.1) ∧ (c3 l)[i * 3 + 2]? = some (.int .i64 a.2.2) := by
  induction l generalizing i with
  | nil => simp at h
  | cons b l ih =>
    cases i with
    | zero =>
      simp at h
      subst h
      exact ⟨rfl, rfl, rfl⟩
    | succ i =>
      have h' : l[i]? = some a := by simpa using h
      have := ih i h'
      have e1 : (i + 1) * 3 = i * 3 + 3 := by omega
      rw [e1]
      exact this
theorem neqC (w : World) (a b c d e f : Int) : (binOp .neq 44 (.agg #[.int .i64 a, .int .i64 b, .int .i64 c]) (.agg #[.int .i64 d, .int .i64 e, .int .i64 f])).run Tryd.prog w = .ok (.bool (decide ((a, b, c) ≠ (d, e, f)))) w := by
  have hu : Tryd.prog.underlying 44 = some (.struct (Tryd.prog.fieldsOf 44)) := by kernel_rfl
  have hs : Tryd.prog.stoodInHeld 44 = false := by kernel_rfl
  have ui := Tryd.underlying3
  rw [run_neq_struct, run_equalIn_struct _ _ _ _ _ hu hs]
  by_cases h1 : a = d
  · subst h1
    by_cases h2 : b = e
    · subst h2
      by_cases h3 : c = f
      · subst h3
        simp [Program.fieldsOf, Tryd.underlying44, Op.eqFields, ui, part, go_sem]
      · have h3' : (c == f) = false := beq_false_of_ne h3
        simp [Program.fieldsOf, Tryd.underlying44, Op.eqFields, ui, part, go_sem, h3', h3]
    · have h2' : (b == e) = false := beq_false_of_ne h2
      simp [Program.fieldsOf, Tryd.underlying44, Op.eqFields, ui, part, go_sem, h2', h2]
  · have h1' : (a == d) = false := beq_false_of_ne h1
    simp [Program.fieldsOf, Tryd.underlying44, Op.eqFields, ui, part, go_sem, h1', h1]
theorem eqlC (w : World) (a b c d e f : Int) : (binOp .eql 44 (.agg #[.int .i64 a, .int .i64 b, .int .i64 c]) (.agg #[.int .i64 d, .int .i64 e, .int .i64 f])).run Tryd.prog w = .ok (.bool (decide ((a, b, c) = (d, e, f)))) w := by
  have hu : Tryd.prog.underlying 44 = some (.struct (Tryd.prog.fieldsOf 44)) := by kernel_rfl
  have hs : Tryd.prog.stoodInHeld 44 = false := by kernel_rfl
  have ui := Tryd.underlying3
  rw [run_eql_struct, run_equalIn_struct _ _ _ _ _ hu hs]
  by_cases h1 : a = d
  · subst h1
    by_cases h2 : b = e
    · subst h2
      by_cases h3 : c = f
      · subst h3
        simp [Program.fieldsOf, Tryd.underlying44, Op.eqFields, ui, part, go_sem]
      · have h3' : (c == f) = false := beq_false_of_ne h3
        simp [Program.fieldsOf, Tryd.underlying44, Op.eqFields, ui, part, go_sem, h3', h3]
    · have h2' : (b == e) = false := beq_false_of_ne h2
      simp [Program.fieldsOf, Tryd.underlying44, Op.eqFields, ui, part, go_sem, h2', h2]
  · have h1' : (a == d) = false := beq_false_of_ne h1
    simp [Program.fieldsOf, Tryd.underlying44, Op.eqFields, ui, part, go_sem, h1', h1]
theorem guardC : Tryd.prog.eqGuardType Tryd.prog.depth 44 = false := by kernel_rfl

set_option maxRecDepth 100000 in
set_option maxHeartbeats 4000000 in
theorem sameC_any (va vb : Value) (n m : Nat) (a b : List (Int × Int × Int)) (w : World) (ha : RowN 3 w va n (c3 a)) (hb : RowN 3 w vb m (c3 b)) :
    Calls Tryd.prog 33 #[va, vb] w fun e w' => e = .returned (.bool (decide (a = b))) ∧ Below w.heap.size w w' := by
  have hna : a.length = n := by have := ha.1; rw [c3_len] at this; omega
  have hnb : b.length = m := by have := hb.1; rw [c3_len] at this; omega
  subst hna hnb
  obtain ⟨_, A, c, rfl, hc, hcm, hA⟩ := ha
  obtain ⟨_, B, d, rfl, hd, hdm, hB⟩ := hb
  unfold maxLen at hcm hdm
  by_cases hab : a.length = b.length
  · have HA : Hid (∀ k x, a[k]? = some x → ∃ ad, A = some ad ∧ w.cell? (ad.add (k * 3)) = some (.int .i64 x.1) ∧ w.cell? (ad.add (k * 3 + 1)) = some (.int .i64 x.2.1) ∧ w.cell? (ad.add (k * 3 + 2)) = some (.int .i64 x.2.2)) := Lib.hid (by
      intro k x hx
      have hk : k < a.length := (List.getElem?_eq_some_iff.1 hx).1
      rcases hA with ⟨_, h0⟩ | ⟨ad, h1, h2, h3⟩
      · omega
      · exact ⟨ad, h1, h3 _ _ (c3_at a k x hx).1, h3 _ _ (c3_at a k x hx).2.1, h3 _ _ (c3_at a k x hx).2.2⟩)
    have HB : Hid (∀ k x, b[k]? = some x → ∃ ad, B = some ad ∧ w.cell? (ad.add (k * 3)) = some (.int .i64 x.1) ∧ w.cell? (ad.add (k * 3 + 1)) = some (.int .i64 x.2.1) ∧ w.cell? (ad.add (k * 3 + 2)) = some (.int .i64 x.2.2)) := Lib.hid (by
      intro k x hx
      have hk : k < b.length := (List.getElem?_eq_some_iff.1 hx).1
      rcases hB with ⟨_, h0⟩ | ⟨ad, h1, h2, h3⟩
      · omega
      · exact ⟨ad, h1, h3 _ _ (c3_at b k x hx).1, h3 _ _ (c3_at b k x hx).2.1, h3 _ _ (c3_at b k x hx).2.2⟩)
    clear hA hB
    have hbq : ((a.length : Int) != (b.length : Int)) = false := by simp; omega
    have HAB := Lib.hid hab
    have hle : b.length ≤ a.length := by omega
    have hle2 : a.length ≤ b.length := by omega
    clear hab
    go_enter Tryd.func33, Tryd.ntmps33
    go_wp2
    go_loopw [5] (fun i wr => ∃ k : Nat, k ≤ a.length ∧ i = .int .i64 k ∧ a.take k = b.take k ∧ Below w.heap.size w wr ∧ (∀ p, wr.cell? p = w.cell? p)) (fun i _ => a.length - (intOf i).toNat)
    case atStart => exact ⟨0, Nat.zero_le _, rfl, rfl, Below.refl _ _, fun _ => rfl⟩
    case round =>
      obtain ⟨k, hk, rfl, heq, hbw, hce⟩ := hrel
      by_cases hlt : k < a.length
      · obtain ⟨x, hx⟩ : ∃ x, a[k]? = some x := ⟨_, List.getElem?_eq_getElem hlt⟩
        obtain ⟨y, hy⟩ : ∃ y, b[k]? = some y := ⟨_, List.getElem?_eq_getElem (by omega)⟩
        obtain ⟨ad, rfl, hx1, hx2, hx4⟩ := HA.out k x hx
        obtain ⟨bd, rfl, hy1, hy2, hy4⟩ := HB.out k y hy
        rw [← hce] at hx1 hx2 hy1 hy2 hx4 hy4
        have hgd := guardC
        have HX := Lib.hid hx
        have HY := Lib.hid hy
        have HE := Lib.hid heq
        have HC := Lib.hid hce
        have hx3 : wr.cell? ⟨(ad.add (k * 3)).block, (ad.add (k * 3)).off + 1, none⟩ = some (.int .i64 x.2.1) := by have := hx2; rw [← Go.Deep.add_add] at this; exact this
        have hy3 : wr.cell? ⟨(bd.add (k * 3)).block, (bd.add (k * 3)).off + 1, none⟩ = some (.int .i64 y.2.1) := by have := hy2; rw [← Go.Deep.add_add] at this; exact this
        have hx5 : wr.cell? ⟨(ad.add (k * 3)).block, (ad.add (k * 3)).off + 2, none⟩ = some (.int .i64 x.2.2) := by have := hx4; rw [← Go.Deep.add_add] at this; exact this
        have hy5 : wr.cell? ⟨(bd.add (k * 3)).block, (bd.add (k * 3)).off + 2, none⟩ = some (.int .i64 y.2.2) := by have := hy4; rw [← Go.Deep.add_add] at this; exact this
        clear hx2 hy2 hx4 hy4
        clear hx hy heq hce
        have hkb : (k : Int) < (b.length : Int) := by omega
        have HT := Lib.hid (show a.take (k + 1) = a.take k ++ [x] by rw [List.take_add_one, HX.out]; rfl)
        have HU := Lib.hid (show b.take (k + 1) = b.take k ++ [y] by rw [List.take_add_one, HY.out]; rfl)
        by_cases hxy : x = y
        · have hnq : ∀ w : World, (binOp .neq 44 (.agg #[.int .i64 x.1, .int .i64 x.2.1, .int .i64 x.2.2]) (.agg #[.int .i64 y.1, .int .i64 y.2.1, .int .i64 y.2.2])).run Tryd.prog w = .ok (.bool false) w := fun w => by
            rw [neqC, hxy]; simp
          have HXY := Lib.hid hxy
          clear hxy
          go_wp2_with fail
          go_quiet (fail)
          clear hx1 hy1 hx3 hy3 hx5 hy5 hnq hgd
          go_wp2
          go_roundw
          case rel => exact ⟨k + 1, by omega, by go_num, by rw [HT.out, HU.out, HE.out, HXY.out], Bdrew hbw _, fun p => HC.out p⟩
          case measure => simp [intOf]; omega
        · have hnq : ∀ w : World, (binOp .neq 44 (.agg #[.int .i64 x.1, .int .i64 x.2.1, .int .i64 x.2.2]) (.agg #[.int .i64 y.1, .int .i64 y.2.1, .int .i64 y.2.2])).run Tryd.prog w = .ok (.bool true) w := fun w => by
            rw [neqC, decide_eq_true (show (x.1, x.2.1, x.2.2) ≠ (y.1, y.2.1, y.2.2) from hxy)]
          have HXY := Lib.hid hxy
          clear hxy
          go_wp2_with fail
          go_quiet (fail)
          clear hx1 hy1 hx3 hy3 hx5 hy5 hnq hgd
          go_wp2
          go_ret
          refine ⟨ret_bool (Eq.symm (decide_eq_false fun h => HXY.out ?_)), Bdrew hbw _⟩
          have e := HX.out
          rw [h, HY.out] at e
          exact (Option.some.inj e).symm
      · have : k = a.length := by omega
        subst this
        have HE := Lib.hid heq
        clear heq hce
        go_wp2
        go_ret
        refine ⟨ret_bool (Eq.symm (decide_eq_true ?_)), hbw⟩
        have e := HE.out
        rwa [List.take_length, HAB.out, List.take_length] at e
  · have hbq : ((a.length : Int) != (b.length : Int)) = true := by simp; omega
    have HAB := Lib.hid hab
    clear hab hA hB
    go_enter Tryd.func33, Tryd.ntmps33
    go_wp2
    go_ret
    exact ⟨ret_bool (Eq.symm (decide_eq_false fun h => HAB.out (by rw [h]))), Below.refl _ _⟩


def trip (c : Cl) : Int × Int × Int := (c.kind, c.v, c.fr)
theorem trip_inj {a b : List Cl} (h : a.map trip = b.map trip) : a = b := by
  refine (List.map_inj_right ?_).1 h
  intro x y e
  cases x; cases y
  simpa [trip] using e
theorem c3_tk (l : List Cl) : c3 (l.map trip) = tk f3 l := by
  unfold c3 tk
  rw [List.flatMap_map]
  rfl
theorem al2_tk (l : List (Bool × Bool)) : al2 l = tk f2 l := rfl
theorem sameCl_any (va vb : Value) (a b : List Cl) (w : World) (ha : CRow w va a) (hb : CRow w vb b) :
    Calls Tryd.prog 33 #[va, vb] w fun e w' => e = .returned (.bool (decide (a = b))) ∧ Below w.heap.size w w' := by
  have h1 := ha.2
  have h2 := hb.2
  rw [← c3_tk] at h1 h2
  refine (sameC_any va vb _ _ _ _ w h1 h2).mono ?_
  rintro e w' ⟨rfl, hk⟩
  refine ⟨?_, hk⟩
  by_cases h : a = b
  · subst h; simp
  · rw [decide_eq_false h, decide_eq_false (fun e => h (trip_inj e))]
theorem sameAl_any (va vb : Value) (a b : List (Bool × Bool)) (w : World) (ha : ARow w va a) (hb : ARow w vb b) :
    Calls Tryd.prog 34 #[va, vb] w fun e w' => e = .returned (.bool (decide (a = b))) ∧ Below w.heap.size w w' := same_any va vb _ _ a b w ha.2 hb.2
set_option maxRecDepth 100000 in
set_option maxHeartbeats 4000000 in
theorem sameT_any (va vb : Value) (a b : Td) (w : World) (ha : ToldV w va a) (hb : ToldV w vb b) :
    Calls Tryd.prog 17 #[va, vb] w fun e w' => e = .returned (.bool (decide (a = b))) ∧ Below w.heap.size w w' := by
  obtain ⟨ac, ar, ah, rfl, a1, a2, a3⟩ := ha
  obtain ⟨bc, br, bh, rfl, b1, b2, b3⟩ := hb
  have A1 := Lib.hid a1; have A2 := Lib.hid a2; have A3 := Lib.hid a3
  have B1 := Lib.hid b1; have B2 := Lib.hid b2; have B3 := Lib.hid b3
  clear a1 a2 a3 b1 b2 b3
  obtain ⟨r, hr⟩ : ∃ r, r = decide (a = b) := ⟨_, rfl⟩
  rw [← hr]
  have HR := Lib.hid hr
  clear hr
  have no : ∀ (h : a ≠ b), r = false := fun h => by rw [HR.out]; exact decide_eq_false h
  have NO := Lib.hid no
  clear no
  by_cases h1 : a.tick = b.tick
  · have g1 : (a.tick == b.tick) = true := by simpa using h1
    have H1 := Lib.hid h1
    clear h1
    go_enter Tryd.func17, Tryd.ntmps17
    go_wp2_with fail
    go_at_call 33
    refine calls_world (fun W => Below w.heap.size w W ∧ Blk W w.heap.size 25 #[.int .i64 a.tick, ac, ar, ah] ∧ Blk W (w.heap.size + 1) 25 #[.int .i64 b.tick, bc, br, bh]) ⟨by go_grown, (Blk.new _ _ _ _ rfl).al _, Blk.new _ _ _ _ (by simp)⟩ fun W0 ⟨hb, hq, hp⟩ => ?_
    have HB := Lib.hid hb
    have HQ := Lib.hid hq
    have HP := Lib.hid hp
    clear hb hq hp
    refine (sameCl_any ac bc _ _ _ (A1.out.below HB.out) (B1.out.below HB.out)).mono ?_
    rintro e W1 ⟨rfl, hk⟩
    have HB1 := Lib.hid (Btrans HB.out hk)
    have cQ := (HQ.out.below hk).cells
    have lQ := (HQ.out.below hk).lt
    have cP := (HP.out.below hk).cells
    have lP := (HP.out.below hk).lt
    have HQ1 := Lib.hid (HQ.out.below hk)
    have HP1 := Lib.hid (HP.out.below hk)
    clear hk HQ HP
    by_cases h2 : a.cells = b.cells
    · rw [decide_eq_true h2]
      have H2 := Lib.hid h2
      clear h2
      go_wp2_with fail
      go_at_call 34
      refine (sameAl_any ar br _ _ _ (A2.out.below HB1.out) (B2.out.below HB1.out)).mono ?_
      rintro e W2 ⟨rfl, hk⟩
      clear cQ lQ cP lP
      have HB2 := Lib.hid (Btrans HB1.out hk)
      have cQ := (HQ1.out.below hk).cells
      have lQ := (HQ1.out.below hk).lt
      have cP := (HP1.out.below hk).cells
      have lP := (HP1.out.below hk).lt
      clear hk
      by_cases h3 : a.rules = b.rules
      · rw [decide_eq_true h3]
        have H3 := Lib.hid h3
        clear h3
        go_wp2_with fail
        go_at_call 34
        refine (sameAl_any ah bh _ _ _ (A3.out.below HB2.out) (B3.out.below HB2.out)).mono ?_
        rintro e W3 ⟨rfl, hk⟩
        have HB3 := Lib.hid (Btrans HB2.out hk)
        clear hk cQ lQ cP lP
        have HE := Lib.hid (show r = decide (a.chans = b.chans) by
          rw [HR.out]
          have e1 := H1.out; have e2 := H2.out; have e3 := H3.out
          cases a; cases b
          dsimp only at e1 e2 e3 ⊢
          subst e1 e2 e3
          simp)
        go_wp2
        go_ret
        exact ⟨by simp [HE.out], HB3.out⟩
      · rw [decide_eq_false h3]
        have HF := Lib.hid (NO.out (fun e => h3 (by rw [e])))
        clear h3
        go_wp2
        go_ret
        exact ⟨by simp [HF.out], HB2.out⟩
    · rw [decide_eq_false h2]
      have HF := Lib.hid (NO.out (fun e => h2 (by rw [e])))
      clear h2
      go_wp2
      go_ret
      exact ⟨by simp [HF.out], HB1.out⟩
  · have g1 : (a.tick == b.tick) = false := beq_eq_false_iff_ne.2 h1
    have HF := Lib.hid (NO.out (fun e => h1 (by rw [e])))
    clear h1
    go_enter Tryd.func17, Tryd.ntmps17
    go_wp2
    go_ret
    exact ⟨by simp [HF.out], by go_grown⟩
end Go.Proofs.YtaelhgkodcgmnaaDoor
