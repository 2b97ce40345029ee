/- Layer 13: rows of cells held against one another; reasons; what is right. -/
import Derived.Test.YtoiaagdpckgpoaaGridH
import Derived.Deep.QuietTactic
import Derived.BigQuiet
import Derived.Laws.StructEq
namespace Go.Proofs.Ytoiaagdpckgpoaa
open Go.ChangeShapes Go.WideShapes Go.ChangeAt Go.RowKit
set_option linter.unusedVariables false
set_option linter.unusedSimpArgs false

theorem neqC (w : World) (a b c d e f : Int) : (binOp .neq 51 (.agg #[.int .i64 a, .int .i64 b, .int .i64 c]) (.agg #[.int .i64 d, .int .i64 e, .int .i64 f])).run Try.prog w = .ok (.bool (decide ((a, b, c) ≠ (d, e, f)))) w := by
  have hu : Try.prog.underlying 51 = some (.struct (Try.prog.fieldsOf 51)) := by kernel_rfl
  have hs : Try.prog.stoodInHeld 51 = false := by kernel_rfl
  have ui := Try.underlying3
  rw [run_neq_struct, run_equalIn_struct _ _ _ _ _ hu hs]
  by_cases h1 : a = d
  · subst h1
    by_cases h2 : b = e
    · subst h2
      by_cases h3 : c = f
      · subst h3
        simp [Program.fieldsOf, Try.underlying51, Op.eqFields, ui, part, go_sem]
      · have h3' : (c == f) = false := beq_false_of_ne h3
        simp [Program.fieldsOf, Try.underlying51, Op.eqFields, ui, part, go_sem, h3', h3]
    · have h2' : (b == e) = false := beq_false_of_ne h2
      simp [Program.fieldsOf, Try.underlying51, Op.eqFields, ui, part, go_sem, h2', h2]
  · have h1' : (a == d) = false := beq_false_of_ne h1
    simp [Program.fieldsOf, Try.underlying51, Op.eqFields, ui, part, go_sem, h1', h1]
theorem eqlC (w : World) (a b c d e f : Int) : (binOp .eql 51 (.agg #[.int .i64 a, .int .i64 b, .int .i64 c]) (.agg #[.int .i64 d, .int .i64 e, .int .i64 f])).run Try.prog w = .ok (.bool (decide ((a, b, c) = (d, e, f)))) w := by
  have hu : Try.prog.underlying 51 = some (.struct (Try.prog.fieldsOf 51)) := by kernel_rfl
  have hs : Try.prog.stoodInHeld 51 = false := by kernel_rfl
  have ui := Try.underlying3
  rw [run_eql_struct, run_equalIn_struct _ _ _ _ _ hu hs]
  by_cases h1 : a = d
  · subst h1
    by_cases h2 : b = e
    · subst h2
      by_cases h3 : c = f
      · subst h3
        simp [Program.fieldsOf, Try.underlying51, Op.eqFields, ui, part, go_sem]
      · have h3' : (c == f) = false := beq_false_of_ne h3
        simp [Program.fieldsOf, Try.underlying51, Op.eqFields, ui, part, go_sem, h3', h3]
    · have h2' : (b == e) = false := beq_false_of_ne h2
      simp [Program.fieldsOf, Try.underlying51, Op.eqFields, ui, part, go_sem, h2', h2]
  · have h1' : (a == d) = false := beq_false_of_ne h1
    simp [Program.fieldsOf, Try.underlying51, Op.eqFields, ui, part, go_sem, h1', h1]
theorem guardC : Try.prog.eqGuardType Try.prog.depth 51 = false := by kernel_rfl

set_option maxRecDepth 100000 in
set_option maxHeartbeats 4000000 in
theorem sameC_any (va vb : Value) (n m : Nat) (a b : List (Int × Int × Int)) (w : World) (ha : RowN 3 w va n (c3 a)) (hb : RowN 3 w vb m (c3 b)) :
    Calls Try.prog 15 #[va, vb] w fun e w' => e = .returned (.bool (decide (a = b))) ∧ Below w.heap.size w w' := by
  have hna : a.length = n := by have := ha.1; rw [c3_len] at this; omega
  have hnb : b.length = m := by have := hb.1; rw [c3_len] at this; omega
  subst hna hnb
  obtain ⟨_, A, c, rfl, hc, hcm, hA⟩ := ha
  obtain ⟨_, B, d, rfl, hd, hdm, hB⟩ := hb
  unfold maxLen at hcm hdm
  by_cases hab : a.length = b.length
  · have HA : Hid (∀ k x, a[k]? = some x → ∃ ad, A = some ad ∧ w.cell? (ad.add (k * 3)) = some (.int .i64 x.1) ∧ w.cell? (ad.add (k * 3 + 1)) = some (.int .i64 x.2.1) ∧ w.cell? (ad.add (k * 3 + 2)) = some (.int .i64 x.2.2)) := Lib.hid (by
      intro k x hx
      have hk : k < a.length := (List.getElem?_eq_some_iff.1 hx).1
      rcases hA with ⟨_, h0⟩ | ⟨ad, h1, h2, h3⟩
      · omega
      · exact ⟨ad, h1, h3 _ _ (c3_at a k x hx).1, h3 _ _ (c3_at a k x hx).2.1, h3 _ _ (c3_at a k x hx).2.2⟩)
    have HB : Hid (∀ k x, b[k]? = some x → ∃ ad, B = some ad ∧ w.cell? (ad.add (k * 3)) = some (.int .i64 x.1) ∧ w.cell? (ad.add (k * 3 + 1)) = some (.int .i64 x.2.1) ∧ w.cell? (ad.add (k * 3 + 2)) = some (.int .i64 x.2.2)) := Lib.hid (by
      intro k x hx
      have hk : k < b.length := (List.getElem?_eq_some_iff.1 hx).1
      rcases hB with ⟨_, h0⟩ | ⟨ad, h1, h2, h3⟩
      · omega
      · exact ⟨ad, h1, h3 _ _ (c3_at b k x hx).1, h3 _ _ (c3_at b k x hx).2.1, h3 _ _ (c3_at b k x hx).2.2⟩)
    clear hA hB
    have hbq : ((a.length : Int) != (b.length : Int)) = false := by simp; omega
    have HAB := Lib.hid hab
    have hle : b.length ≤ a.length := by omega
    have hle2 : a.length ≤ b.length := by omega
    clear hab
    go_enter Try.func15, Try.ntmps15
    go_wp2
    go_loopw [5] (fun i wr => ∃ k : Nat, k ≤ a.length ∧ i = .int .i64 k ∧ a.take k = b.take k ∧ Below w.heap.size w wr ∧ (∀ p, wr.cell? p = w.cell? p)) (fun i _ => a.length - (intOf i).toNat)
    case atStart => exact ⟨0, Nat.zero_le _, rfl, rfl, Below.refl _ _, fun _ => rfl⟩
    case round =>
      obtain ⟨k, hk, rfl, heq, hbw, hce⟩ := hrel
      by_cases hlt : k < a.length
      · obtain ⟨x, hx⟩ : ∃ x, a[k]? = some x := ⟨_, List.getElem?_eq_getElem hlt⟩
        obtain ⟨y, hy⟩ : ∃ y, b[k]? = some y := ⟨_, List.getElem?_eq_getElem (by omega)⟩
        obtain ⟨ad, rfl, hx1, hx2, hx4⟩ := HA.out k x hx
        obtain ⟨bd, rfl, hy1, hy2, hy4⟩ := HB.out k y hy
        rw [← hce] at hx1 hx2 hy1 hy2 hx4 hy4
        have hgd := guardC
        have HX := Lib.hid hx
        have HY := Lib.hid hy
        have HE := Lib.hid heq
        have HC := Lib.hid hce
        have hx3 : wr.cell? ⟨(ad.add (k * 3)).block, (ad.add (k * 3)).off + 1, none⟩ = some (.int .i64 x.2.1) := by have := hx2; rw [← Go.Deep.add_add] at this; exact this
        have hy3 : wr.cell? ⟨(bd.add (k * 3)).block, (bd.add (k * 3)).off + 1, none⟩ = some (.int .i64 y.2.1) := by have := hy2; rw [← Go.Deep.add_add] at this; exact this
        have hx5 : wr.cell? ⟨(ad.add (k * 3)).block, (ad.add (k * 3)).off + 2, none⟩ = some (.int .i64 x.2.2) := by have := hx4; rw [← Go.Deep.add_add] at this; exact this
        have hy5 : wr.cell? ⟨(bd.add (k * 3)).block, (bd.add (k * 3)).off + 2, none⟩ = some (.int .i64 y.2.2) := by have := hy4; rw [← Go.Deep.add_add] at this; exact this
        clear hx2 hy2 hx4 hy4
        clear hx hy heq hce
        have hkb : (k : Int) < (b.length : Int) := by omega
        have HT := Lib.hid (show a.take (k + 1) = a.take k ++ [x] by rw [List.take_add_one, HX.out]; rfl)
        have HU := Lib.hid (show b.take (k + 1) = b.take k ++ [y] by rw [List.take_add_one, HY.out]; rfl)
        by_cases hxy : x = y
        · have hnq : ∀ w : World, (binOp .neq 51 (.agg #[.int .i64 x.1, .int .i64 x.2.1, .int .i64 x.2.2]) (.agg #[.int .i64 y.1, .int .i64 y.2.1, .int .i64 y.2.2])).run Try.prog w = .ok (.bool false) w := fun w => by
            rw [neqC, hxy]; simp
          have HXY := Lib.hid hxy
          clear hxy
          go_wp2_with fail
          go_quiet (fail)
          clear hx1 hy1 hx3 hy3 hx5 hy5 hnq hgd
          go_wp2
          go_roundw
          case rel => exact ⟨k + 1, by omega, by go_num, by rw [HT.out, HU.out, HE.out, HXY.out], Bdrew hbw _, fun p => HC.out p⟩
          case measure => simp [intOf]; omega
        · have hnq : ∀ w : World, (binOp .neq 51 (.agg #[.int .i64 x.1, .int .i64 x.2.1, .int .i64 x.2.2]) (.agg #[.int .i64 y.1, .int .i64 y.2.1, .int .i64 y.2.2])).run Try.prog w = .ok (.bool true) w := fun w => by
            rw [neqC, decide_eq_true (show (x.1, x.2.1, x.2.2) ≠ (y.1, y.2.1, y.2.2) from hxy)]
          have HXY := Lib.hid hxy
          clear hxy
          go_wp2_with fail
          go_quiet (fail)
          clear hx1 hy1 hx3 hy3 hx5 hy5 hnq hgd
          go_wp2
          go_ret
          refine ⟨ret_bool (Eq.symm (decide_eq_false fun h => HXY.out ?_)), Bdrew hbw _⟩
          have e := HX.out
          rw [h, HY.out] at e
          exact (Option.some.inj e).symm
      · have : k = a.length := by omega
        subst this
        have HE := Lib.hid heq
        clear heq hce
        go_wp2
        go_ret
        refine ⟨ret_bool (Eq.symm (decide_eq_true ?_)), hbw⟩
        have e := HE.out
        rwa [List.take_length, HAB.out, List.take_length] at e
  · have hbq : ((a.length : Int) != (b.length : Int)) = true := by simp; omega
    have HAB := Lib.hid hab
    clear hab hA hB
    go_enter Try.func15, Try.ntmps15
    go_wp2
    go_ret
    exact ⟨ret_bool (Eq.symm (decide_eq_false fun h => HAB.out (by rw [h]))), Below.refl _ _⟩

def CA_ (c : Cf) (A : Option Addr) (cp : Nat) (r : Value) : Array Value := #[.int .i64 c.P, .int .i64 c.H, .int .i64 c.C, .int .i64 c.Mn, .int .i64 c.Mx, .int .i64 c.Rho, .int .i64 c.Bd, .int .i64 c.Win, .int .i64 c.St, .slice A c.rows.length cp, r]
theorem right_c (v : Value) (c : Cf) (w : World) (h : IsConf w v c) :
    Calls Try.prog 10 #[v] w fun e w' => e = .returned (.bool (!greatB c.rows && confO c)) ∧ Below w.heap.size w w' := by
  obtain ⟨s, r, rfl, hs⟩ := h
  have HS0 := Lib.hid hs
  obtain ⟨A, cp, rfl, _, _, q⟩ := hs.src
  clear hs q
  go_enter Try.func10, Try.ntmps10
  go_wp2_with fail
  refine (great_any _ c _ ⟨_, _, rfl, HS0.out.below (by go_grown)⟩).mono ?_
  rintro e w1 ⟨rfl, hk⟩
  have hb1 : Below w.heap.size w w1 := (show Below w.heap.size w _ by go_grown).trans (hk.mono (by simp))
  have HB1 := Lib.hid ((Blk.new w 25 #[.int .i64 c.P, .int .i64 c.H, .int .i64 c.C, .int .i64 c.Mn, .int .i64 c.Mx, .int .i64 c.Rho, .int .i64 c.Bd, .int .i64 c.Win, .int .i64 c.St, .slice A c.rows.length cp, r] _ rfl).below hk)
  have HS1 := Lib.hid (HS0.out.below hb1)
  have hx := HB1.out.cells
  clear hk HS0
  cases hg : greatB c.rows with
  | true =>
    have HG := Lib.hid hg
    clear hx hg
    go_wp2
    go_ret
    exact ⟨by rw [HG.out]; rfl, hb1⟩
  | false =>
    have HG := Lib.hid hg
    clear hg
    go_wp2_with fail
    refine (rright_any _ c _ ⟨_, _, rfl, HS1.out⟩).mono ?_
    rintro e w2 ⟨rfl, hk⟩
    have hb2 := Btrans hb1 hk
    clear hx hk
    go_wp2
    go_ret
    exact ⟨by rw [HG.out]; cases confO c <;> rfl, hb2⟩

theorem own_shape {w : World} {base k n : Nat} {e : TypeId} {v : Value} {xs : List Value} (h : w.ownsRow base e k v n xs) : ∃ A c, v = .slice A n c := by
  obtain ⟨h1, h2⟩ := h
  rcases h2 with ⟨rfl, rfl⟩ | ⟨g, cap, cur, hv, hrest⟩
  · exact ⟨_, _, rfl⟩
  · exact ⟨_, _, hv⟩
theorem own_off {w : World} {base k n : Nat} {e : TypeId} {v : Value} {xs : List Value} (h : w.ownsRow base e k v n xs) : ∀ s : List Nat, (∀ x ∈ s, x < base) → offRow v s := by
  intro s hs ad m c hv hm
  obtain ⟨h1, h2⟩ := h
  rcases h2 with ⟨rfl, rfl⟩ | ⟨g, cap, cur, rfl, hb, hrest⟩
  · cases hv
  · injection hv with e1 e2 e3
    injection e1 with e1
    subst e1
    have := hs _ hm
    simp at this
    omega
def reasonsL (N n : Nat) : List Int := (List.range N).map fun (i : Nat) => 2 + ((n : Int) + (i : Int)) % 3
theorem reasonsL_len (N n : Nat) : (reasonsL N n).length = N := by simp [reasonsL]
theorem reasonsL_step (N n : Nat) : reasonsL (N + 1) n = reasonsL N n ++ [2 + ((n : Int) + (N : Int)) % 3] := by simp [reasonsL, List.range_succ]
theorem elI : Elem Try.prog 42 3 1 8 := Elem.mk' (z := .int .i64 0) (by kernel_rfl) (by kernel_rfl) rfl (by decide)

set_option maxRecDepth 100000 in
set_option maxHeartbeats 4000000 in
theorem reasons_any (v : Value) (c : Cf) (n : Nat) (w : World) (h : IsConf w v c) (hn : n ≤ 1000) (hN : (chansOf c.rows).length ≤ 2500) :
    Calls Try.prog 14 #[v, .int .i64 n] w fun e w' => ∃ Aw cw, e = .returned (.slice Aw (reasonsL (chansOf c.rows).length n).length cw) ∧ Row w' (.slice Aw (reasonsL (chansOf c.rows).length n).length cw) ((reasonsL (chansOf c.rows).length n).map (.int .i64)) ∧ (∀ s : List Nat, (∀ x ∈ s, x < w.heap.size) → offRow (.slice Aw (reasonsL (chansOf c.rows).length n).length cw) s) ∧ Below w.heap.size w w' := by
  obtain ⟨s, r, rfl, hs⟩ := h
  have HS0 := Lib.hid (hs.below (show Below w.heap.size w (w.alloc (.cells #[.int .i64 c.P, .int .i64 c.H, .int .i64 c.C, .int .i64 c.Mn, .int .i64 c.Mx, .int .i64 c.Rho, .int .i64 c.Bd, .int .i64 c.Win, .int .i64 c.St, s, r] 25)) from (Below.refl _ _).alloc (Nat.le_refl _) _))
  have HS1 := Lib.hid hs
  obtain ⟨A, cp, rfl, _, _, q⟩ := hs.src
  clear hs q
  obtain ⟨N, hNN⟩ : ∃ N, N = (chansOf c.rows).length := ⟨_, rfl⟩
  rw [← hNN] at hN ⊢
  have HN := Lib.hid hNN
  clear hNN
  go_enter Try.func14, Try.ntmps14
  go_wp2_with fail
  go_loopw [5, 6] (fun va i wr => ∃ k : Nat, k ≤ N ∧ i = .int .i64 k ∧ Blk wr w.heap.size 25 #[.int .i64 c.P, .int .i64 c.H, .int .i64 c.C, .int .i64 c.Mn, .int .i64 c.Mx, .int .i64 c.Rho, .int .i64 c.Bd, .int .i64 c.Win, .int .i64 c.St, .slice A c.rows.length cp, r] ∧ Below w.heap.size w wr ∧ wr.ownsRow (w.heap.size + 1) 3 1 va k ((reasonsL k n).map (.int .i64))) (fun _ i _ => N - (intOf i).toNat)
  case atStart => exact ⟨0, Nat.zero_le _, rfl, Blk.new _ _ _ _ rfl, by go_grown, own_nil _ _⟩
  case round =>
    obtain ⟨k, hk, rfl, hcf, hbr, hown⟩ := hrel
    have HCF := Lib.hid hcf
    have HBR := Lib.hid hbr
    have HOW := Lib.hid hown
    have hx := hcf.cells
    have hlc := hcf.lt
    clear hcf hbr hown
    go_wp2_with fail
    refine (rmany_any _ c _ ⟨_, _, rfl, HS1.out.below HBR.out⟩ (by rw [← HN.out]; omega)).mono ?_
    rintro e w5 ⟨rfl, hk5⟩
    rw [← HN.out]
    have HC5 := Lib.hid (HCF.out.below hk5)
    have HB5 := Lib.hid (Btrans HBR.out hk5)
    have HO5 := Lib.hid (own_below HOW.out hk5)
    have hz5 := hk5.size
    clear hx hk5
    by_cases hlt : k < N
    · have g1 : decide ((k : Int) < (N : Int)) = true := decide_eq_true (by omega)
      have w1 : IntKind.i64.wrap ((n : Int) + (k : Int)) = (n : Int) + (k : Int) := IntWalk.i64_in _ (by omega)
      have w2 : IntKind.i64.wrap (2 + ((n : Int) + (k : Int)) % 3) = 2 + ((n : Int) + (k : Int)) % 3 := IntWalk.i64_in _ (by omega)
      go_wp2_with (at_builtin; refine wpList_app elI rfl (.tmp 13) (.tmp 19) rfl (w.heap.size + 1) _ k _ rfl (own_below HO5.out (by go_grown)) _ [.int .i64 (2 + ((n : Int) + (k : Int)) % 3)] rfl (Row.new [.int .i64 (2 + ((n : Int) + (k : Int)) % 3)] 3 1 (by simp) (by decide) _ _ rfl) (by simp [Value.oneCell']) ?_ ?_ ?_ ?_)
      case refine_1 => simp; unfold maxLen; omega
      case refine_2 => simp; omega
      case refine_3 => simp; omega
      intro v7 w7 own7 hg7 _
      have hb7 : Below (w.heap.size + 1) w5 w7 := below_app ((Below.refl _ w5).alloc (by omega) _) (by simp; omega) (own_below HO5.out ((Below.refl _ _).alloc (Nat.le_refl _) _)) hg7 (Nat.le_refl _)
      have HB7 := Lib.hid (HB5.out.trans (hb7.mono (by omega)))
      have HC7 := Lib.hid (HC5.out.keep hb7 (by omega))
      have own8 : w7.ownsRow (w.heap.size + 1) 3 1 v7 (k + 1) ((reasonsL (k + 1) n).map (.int .i64)) := by rw [reasonsL_step, List.map_append]; exact own7
      have HO8 := Lib.hid own8
      clear own7 own8 hg7 hb7
      go_wp2
      go_roundw
      case rel => exact ⟨k + 1, by omega, by go_num, HC7.out, HB7.out, HO8.out⟩
      case measure => simp [intOf]; omega
    · have he : k = N := by omega
      subst he
      have g1 : decide ((k : Int) < (k : Int)) = false := decide_eq_false (by omega)
      have hrl := reasonsL_len k n
      obtain ⟨A9, c9, hv9⟩ := own_shape HO5.out
      have hown9 := HO5.out
      subst hv9
      have HR9 := Lib.hid (Row.of_own hown9)
      have HV9 := Lib.hid (own_off hown9)
      clear hown9
      go_wp2
      go_ret
      rw [hrl]
      exact ⟨A9, c9, rfl, HR9.out, fun s hs => HV9.out s (fun x hx => by have := hs x hx; omega), HB5.out⟩
end Go.Proofs.Ytoiaagdpckgpoaa
