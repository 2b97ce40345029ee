/- Layer 19: rows of alarms: the document's, and whether two are alike. -/
import Derived.Test.YtmcjndnecohboaaPhysD
namespace Go.Proofs.Ytmcjndnecohboaa
open Go.ChangeShapes Go.WideShapes Go.ChangeAt Go.RowKit
set_option linter.unusedVariables false
set_option linter.unusedSimpArgs false

theorem elA : Elem Try.prog 34 39 2 2 := Elem.mk' Try.underlying34 info39 rfl (by decide)

theorem neqA (w : World) (a b c d : Bool) : (binOp .neq 39 (.agg #[.bool a, .bool b]) (.agg #[.bool c, .bool d])).run Try.prog w = .ok (.bool (decide ((a, b) ≠ (c, d)))) w := by
  cases a <;> cases b <;> cases c <;> cases d <;> kernel_rfl
theorem guardA : Try.prog.eqGuardType Try.prog.depth 39 = false := by kernel_rfl

set_option maxRecDepth 100000 in
set_option maxHeartbeats 4000000 in
theorem same_any (va vb : Value) (n m : Nat) (a b : List (Bool × Bool)) (w : World) (ha : RowN 2 w va n (al2 a)) (hb : RowN 2 w vb m (al2 b)) :
    Calls Try.prog 15 #[va, vb] w fun e w' => e = .returned (.bool (decide (a = b))) ∧ Below w.heap.size w w' := by
  have hna : a.length = n := by have := ha.1; rw [al2_len] at this; omega
  have hnb : b.length = m := by have := hb.1; rw [al2_len] at this; omega
  subst hna hnb
  obtain ⟨_, A, c, rfl, hc, hcm, hA⟩ := ha
  obtain ⟨_, B, d, rfl, hd, hdm, hB⟩ := hb
  unfold maxLen at hcm hdm
  by_cases hab : a.length = b.length
  · have HA : Hid (∀ k x, a[k]? = some x → ∃ ad, A = some ad ∧ w.cell? (ad.add (k * 2)) = some (.bool x.1) ∧ w.cell? (ad.add (k * 2 + 1)) = some (.bool x.2)) := Lib.hid (by
      intro k x hx
      have hk : k < a.length := (List.getElem?_eq_some_iff.1 hx).1
      rcases hA with ⟨_, h0⟩ | ⟨ad, h1, h2, h3⟩
      · omega
      · exact ⟨ad, h1, h3 _ _ (al2_at a k x hx).1, h3 _ _ (al2_at a k x hx).2⟩)
    have HB : Hid (∀ k x, b[k]? = some x → ∃ ad, B = some ad ∧ w.cell? (ad.add (k * 2)) = some (.bool x.1) ∧ w.cell? (ad.add (k * 2 + 1)) = some (.bool x.2)) := Lib.hid (by
      intro k x hx
      have hk : k < b.length := (List.getElem?_eq_some_iff.1 hx).1
      rcases hB with ⟨_, h0⟩ | ⟨ad, h1, h2, h3⟩
      · omega
      · exact ⟨ad, h1, h3 _ _ (al2_at b k x hx).1, h3 _ _ (al2_at b k x hx).2⟩)
    clear hA hB
    have hbq : ((a.length : Int) != (b.length : Int)) = false := by simp; omega
    have HAB := Lib.hid hab
    have hle : b.length ≤ a.length := by omega
    have hle2 : a.length ≤ b.length := by omega
    clear hab
    go_enter Try.func15, Try.ntmps15
    go_wp2
    go_loopw [5] (fun i wr => ∃ k : Nat, k ≤ a.length ∧ i = .int .i64 k ∧ a.take k = b.take k ∧ Below w.heap.size w wr ∧ (∀ p, wr.cell? p = w.cell? p)) (fun i _ => a.length - (intOf i).toNat)
    case atStart => exact ⟨0, Nat.zero_le _, rfl, rfl, Below.refl _ _, fun _ => rfl⟩
    case round =>
      obtain ⟨k, hk, rfl, heq, hbw, hce⟩ := hrel
      by_cases hlt : k < a.length
      · obtain ⟨x, hx⟩ : ∃ x, a[k]? = some x := ⟨_, List.getElem?_eq_getElem hlt⟩
        obtain ⟨y, hy⟩ : ∃ y, b[k]? = some y := ⟨_, List.getElem?_eq_getElem (by omega)⟩
        obtain ⟨ad, rfl, hx1, hx2⟩ := HA.out k x hx
        obtain ⟨bd, rfl, hy1, hy2⟩ := HB.out k y hy
        rw [← hce] at hx1 hx2 hy1 hy2
        have hgd := guardA
        have HX := Lib.hid hx
        have HY := Lib.hid hy
        have HE := Lib.hid heq
        have HC := Lib.hid hce
        have hx3 : wr.cell? ⟨(ad.add (k * 2)).block, (ad.add (k * 2)).off + 1, none⟩ = some (.bool x.2) := by have := hx2; rw [← Go.Deep.add_add] at this; exact this
        have hy3 : wr.cell? ⟨(bd.add (k * 2)).block, (bd.add (k * 2)).off + 1, none⟩ = some (.bool y.2) := by have := hy2; rw [← Go.Deep.add_add] at this; exact this
        clear hx2 hy2
        clear hx hy heq hce
        have hkb : (k : Int) < (b.length : Int) := by omega
        have HT := Lib.hid (show a.take (k + 1) = a.take k ++ [x] by rw [List.take_add_one, HX.out]; rfl)
        have HU := Lib.hid (show b.take (k + 1) = b.take k ++ [y] by rw [List.take_add_one, HY.out]; rfl)
        by_cases hxy : x = y
        · have hnq : ∀ w : World, (binOp .neq 39 (.agg #[.bool x.1, .bool x.2]) (.agg #[.bool y.1, .bool y.2])).run Try.prog w = .ok (.bool false) w := fun w => by
            rw [neqA, hxy]; simp
          have HXY := Lib.hid hxy
          clear hxy
          go_wp2_with fail
          go_quiet (fail)
          clear hx1 hy1 hx3 hy3 hnq hgd
          go_wp2
          go_roundw
          case rel => exact ⟨k + 1, by omega, by go_num, by rw [HT.out, HU.out, HE.out, HXY.out], Bdrew hbw _, fun p => HC.out p⟩
          case measure => simp [intOf]; omega
        · have hnq : ∀ w : World, (binOp .neq 39 (.agg #[.bool x.1, .bool x.2]) (.agg #[.bool y.1, .bool y.2])).run Try.prog w = .ok (.bool true) w := fun w => by
            rw [neqA, decide_eq_true (show (x.1, x.2) ≠ (y.1, y.2) from hxy)]
          have HXY := Lib.hid hxy
          clear hxy
          go_wp2_with fail
          go_quiet (fail)
          clear hx1 hy1 hx3 hy3 hnq hgd
          go_wp2
          go_ret
          refine ⟨ret_bool (Eq.symm (decide_eq_false fun h => HXY.out ?_)), Bdrew hbw _⟩
          have e := HX.out
          rw [h, HY.out] at e
          exact (Option.some.inj e).symm
      · have : k = a.length := by omega
        subst this
        have HE := Lib.hid heq
        clear heq hce
        go_wp2
        go_ret
        refine ⟨ret_bool (Eq.symm (decide_eq_true ?_)), hbw⟩
        have e := HE.out
        rw [List.take_length, List.take_of_length_le (by omega)] at e
        exact e
  · have hbq : ((a.length : Int) != (b.length : Int)) = true := by simp; omega
    have hne : a ≠ b := fun h => hab (by rw [h])
    have HN := Lib.hid hne
    clear hA hB hab hne
    go_enter Try.func15, Try.ntmps15
    go_wp2
    go_ret
    exact ⟨ret_bool (Eq.symm (decide_eq_false HN.out)), Below.refl _ _⟩

set_option maxRecDepth 100000 in
set_option maxHeartbeats 4000000 in
theorem rsteps_any (sl : Value) (h : Int) (la : Bool) (vl vm : Value) (l : List Int) (m : List Bool) (w : World) (hh : 1 ≤ h) (hh2 : h ≤ 4611686018427387904)
    (hl : Row w vl (l.map (.int .i64))) (hm : Row w vm (m.map .bool)) (hsz : l.length ≤ 1000) :
    Calls Try.prog 17 #[.agg #[sl, .int .i64 h, .bool la], vl, vm] w fun e w' => ∃ v, e = .returned v ∧ RowN 2 w' v l.length (al2 (alarms h la l m)) ∧ Below w.heap.size w w' := by
  obtain ⟨A, c, rfl, hc, hcm, hA⟩ := hl
  obtain ⟨B, d, rfl, hd, hdm, hB⟩ := hm
  rw [List.length_map] at hc hA hd hB ⊢
  rw [List.length_map]
  unfold maxLen at hcm hdm
  have HCL : Hid (∀ k x, l[k]? = some x → ∃ ad, A = some ad ∧ ad.block < w.heap.size ∧ w.cell? (ad.add k) = some (.int .i64 x)) := Lib.hid (by
    intro k x hx
    have hk : k < l.length := (List.getElem?_eq_some_iff.1 hx).1
    rcases hA with ⟨_, h0⟩ | ⟨ad, h1, h2, h3⟩
    · omega
    · exact ⟨ad, h1, h2 (by omega), h3 k _ (by rw [List.getElem?_map, hx]; rfl)⟩)
  have HCM : Hid (∀ k x, m[k]? = some x → ∃ ad, B = some ad ∧ ad.block < w.heap.size ∧ w.cell? (ad.add k) = some (.bool x)) := Lib.hid (by
    intro k x hx
    have hk : k < m.length := (List.getElem?_eq_some_iff.1 hx).1
    rcases hB with ⟨_, h0⟩ | ⟨ad, h1, h2, h3⟩
    · omega
    · exact ⟨ad, h1, h2 (by omega), h3 k _ (by rw [List.getElem?_map, hx]; rfl)⟩)
  clear hA hB
  go_enter Try.func17, Try.ntmps17
  go_wp2_with fail
  go_loopw [7, 9] (fun v i wr => ∃ k : Nat, k ≤ l.length ∧ i = .int .i64 k ∧ Below w.heap.size w wr ∧ Blk wr w.heap.size 29 #[sl, .int .i64 h, .bool la] ∧
      Blk wr (w.heap.size + 1) 23 #[.int .i64 (prun h la l m k).run, .bool (prun h la l m k).on, .bool (prun h la l m k).now] ∧
      wr.ownsRow (w.heap.size + 1 + 1) 39 2 v k (al2 (alarmsTo h la l m k))) (fun _ i _ => l.length - (intOf i).toNat)
  case atStart =>
    exact ⟨0, Nat.zero_le _, rfl, by go_grown, (Blk.new _ _ _ _ rfl).al _, Blk.new _ _ _ _ (by simp), own_nilN _ _⟩
  case round =>
    obtain ⟨k, hk, rfl, hb, hbr, hbs, ho⟩ := hrel
    by_cases hlt : k < l.length
    · obtain ⟨x, hx⟩ : ∃ x, l[k]? = some x := ⟨_, List.getElem?_eq_getElem hlt⟩
      obtain ⟨ad, rfl, had, hcx⟩ := HCL.out k x hx
      have hcx' : wr.cell? (ad.add k) = some (.int .i64 x) := by rw [hb.cell (by rw [block_add]; exact had)]; exact hcx
      have HX := Lib.hid (getD_lt l k 0 x hx)
      clear hx hcx
      by_cases hkm : k < m.length
      · obtain ⟨y, hy⟩ : ∃ y, m[k]? = some y := ⟨_, List.getElem?_eq_getElem hkm⟩
        obtain ⟨bd, rfl, hbd, hcy⟩ := HCM.out k y hy
        have hcy' : wr.cell? (bd.add k) = some (.bool y) := by rw [hb.cell (by rw [block_add]; exact hbd)]; exact hcy
        have HY := Lib.hid (getD_lt m k false y hy)
        clear hy hcy
        have HBS := Lib.hid hbs
        have HBR := Lib.hid hbr
        have HO := Lib.hid ho
        clear hbs hbr ho
        have hs := HBS.out.cells
        have hsr := HBR.out.cells
        have hsf := HBS.out.froz
        have r0 := prun_bd h la l m k hh
        go_wp2_with fail
        go_still_tail 16, (by kernel_rfl)
        go_wp2_with fail
        refine (rstep_any sl h la (prun h la l m k) x y _ r0.1 (by omega)).mono ?_
        rintro e w2 ⟨rfl, hbw⟩
        have HBS2 := Lib.hid (HBS.out.drw.below hbw)
        have HBR2 := Lib.hid (HBR.out.drw.below hbw)
        have HO2 := Lib.hid (own_below HO.out.drew hbw)
        have hb2 : Below w.heap.size w w2 := hb.drew.trans (hbw.mono hb.size)
        have l1 := HBS2.out.lt
        have HE := Lib.hid (show prun h la l m (k + 1) = pstep h la (prun h la l m k) x y by show pstep h la (prun h la l m k) (l.getD k 0) (m.getD k false) = _; rw [HX.out, HY.out])
        clear hs hsr hsf HBS HBR HO hbw hcx' hcy' hb
        have hs := HBS2.out.cells
        have hsf := HBS2.out.froz
        go_wp2_with (at_builtin; refine wpList_appN elA rfl (.tmp 33) (.tmp 39) rfl (w.heap.size + 1 + 1) _ k (al2 (alarmsTo h la l m k)) rfl ?_ _ 1 (al2 [((pstep h la (prun h la l m k) x y).on, (pstep h la (prun h la l m k) x y).now)]) rfl ?_ (al2_one _) ?_ ?_ ?_ ?_)
        case refine_1 => exact (ownsRow_setCell_below (ownsRow_setCell_below (ownsRow_setCell_below HO2.out (Nat.lt_succ_self (w.heap.size + 1)) _) (Nat.lt_succ_self (w.heap.size + 1)) _) (Nat.lt_succ_self (w.heap.size + 1)) _).alloc _
        case refine_2 => exact RowN.of_blk (Blk.new _ _ _ _ (by simp)) rfl rfl (Nat.le_refl _) (by decide)
        case refine_3 => unfold maxLen; omega
        case refine_4 => omega
        case refine_5 => simp; omega
        intro v2 w3 hown2 hgrow hat
        have hb2s : Below w.heap.size w ((((w2.setCell ⟨w.heap.size + 1, 0, none⟩ (.int .i64 (pstep h la (prun h la l m k) x y).run)).setCell ⟨w.heap.size + 1, 1, none⟩ (.bool (pstep h la (prun h la l m k) x y).on)).setCell ⟨w.heap.size + 1, 2, none⟩ (.bool (pstep h la (prun h la l m k) x y).now)).alloc (.cells #[.bool (pstep h la (prun h la l m k) x y).on, .bool (pstep h la (prun h la l m k) x y).now] 39)) := by
          clear hs hsf; go_grown
        have hown0 := (ownsRow_setCell_below (ownsRow_setCell_below (ownsRow_setCell_below HO2.out (a := ⟨w.heap.size + 1, 0, none⟩) (Nat.lt_succ_self (w.heap.size + 1)) (.int .i64 (pstep h la (prun h la l m k) x y).run)) (a := ⟨w.heap.size + 1, 1, none⟩) (Nat.lt_succ_self (w.heap.size + 1)) (.bool (pstep h la (prun h la l m k) x y).on)) (a := ⟨w.heap.size + 1, 2, none⟩) (Nat.lt_succ_self (w.heap.size + 1)) (.bool (pstep h la (prun h la l m k) x y).now)).alloc (.cells #[.bool (pstep h la (prun h la l m k) x y).on, .bool (pstep h la (prun h la l m k) x y).now] 39)
        have hb3 : Below w.heap.size w w3 := below_app hb2s (by simp; omega) hown0 hgrow (by omega)
        have hk3 := (Below.refl (w.heap.size + 1 + 1) _).grown hgrow (by simp; omega) (fun g hg => by
          rcases hown0.2 with ⟨e, _⟩ | ⟨g1, cap, cur, e, hg1, _⟩
          · rw [e] at hg; simp [Value.ownBlock] at hg
          · rw [e] at hg; simp [Value.ownBlock] at hg; omega)
        have HBR3 := Lib.hid ((((HBR2.out.setO (by omega) 0 (.int .i64 (pstep h la (prun h la l m k) x y).run)).setO (by omega) 1 (.bool (pstep h la (prun h la l m k) x y).on)).setO (by omega) 2 (.bool (pstep h la (prun h la l m k) x y).now)).al (.cells #[.bool (pstep h la (prun h la l m k) x y).on, .bool (pstep h la (prun h la l m k) x y).now] 39) |>.keep hk3 (by omega))
        have HBS3 := Lib.hid ((((HBS2.out.set 0 (.int .i64 (pstep h la (prun h la l m k) x y).run)).set 1 (.bool (pstep h la (prun h la l m k) x y).on)).set 2 (.bool (pstep h la (prun h la l m k) x y).now)).al (.cells #[.bool (pstep h la (prun h la l m k) x y).on, .bool (pstep h la (prun h la l m k) x y).now] 39) |>.keep hk3 (by omega))
        have HO3 := Lib.hid hown2
        clear hs hsf hown2 hown0 hgrow hat hk3 hb2s HBS2 HBR2 HO2 hb2
        go_wp2
        go_roundw
        case rel =>
          refine ⟨k + 1, by omega, by go_num, hb3, HBR3.out, ?_, ?_⟩
          · rw [HE.out]; exact HBS3.out
          · rw [alarmsTo_succ, al2_app, HE.out]; exact HO3.out
        case measure => simp [intOf]; omega
      · have HY := Lib.hid (getD_ge m k (by omega))
        have hdk : decide ((k : Int) < (m.length : Int)) = false := by simpa using hkm
        have HBS := Lib.hid hbs
        have HBR := Lib.hid hbr
        have HO := Lib.hid ho
        clear hbs hbr ho
        have hs := HBS.out.cells
        have hsr := HBR.out.cells
        have hsf := HBS.out.froz
        have r0 := prun_bd h la l m k hh
        go_wp2_with fail
        go_still_tail 16, (by kernel_rfl)
        go_wp2_with fail
        refine (rstep_any sl h la (prun h la l m k) x false _ r0.1 (by omega)).mono ?_
        rintro e w2 ⟨rfl, hbw⟩
        have HBS2 := Lib.hid (HBS.out.drw.below hbw)
        have HBR2 := Lib.hid (HBR.out.drw.below hbw)
        have HO2 := Lib.hid (own_below HO.out.drew hbw)
        have hb2 : Below w.heap.size w w2 := hb.drew.trans (hbw.mono hb.size)
        have l1 := HBS2.out.lt
        have HE := Lib.hid (show prun h la l m (k + 1) = pstep h la (prun h la l m k) x false by show pstep h la (prun h la l m k) (l.getD k 0) (m.getD k false) = _; rw [HX.out, HY.out])
        clear hs hsr hsf HBS HBR HO hbw hcx' hb
        have hs := HBS2.out.cells
        have hsf := HBS2.out.froz
        go_wp2_with (at_builtin; refine wpList_appN elA rfl (.tmp 33) (.tmp 39) rfl (w.heap.size + 1 + 1) _ k (al2 (alarmsTo h la l m k)) rfl ?_ _ 1 (al2 [((pstep h la (prun h la l m k) x false).on, (pstep h la (prun h la l m k) x false).now)]) rfl ?_ (al2_one _) ?_ ?_ ?_ ?_)
        case refine_1 => exact (ownsRow_setCell_below (ownsRow_setCell_below (ownsRow_setCell_below HO2.out (Nat.lt_succ_self (w.heap.size + 1)) _) (Nat.lt_succ_self (w.heap.size + 1)) _) (Nat.lt_succ_self (w.heap.size + 1)) _).alloc _
        case refine_2 => exact RowN.of_blk (Blk.new _ _ _ _ (by simp)) rfl rfl (Nat.le_refl _) (by decide)
        case refine_3 => unfold maxLen; omega
        case refine_4 => omega
        case refine_5 => simp; omega
        intro v2 w3 hown2 hgrow hat
        have hb2s : Below w.heap.size w ((((w2.setCell ⟨w.heap.size + 1, 0, none⟩ (.int .i64 (pstep h la (prun h la l m k) x false).run)).setCell ⟨w.heap.size + 1, 1, none⟩ (.bool (pstep h la (prun h la l m k) x false).on)).setCell ⟨w.heap.size + 1, 2, none⟩ (.bool (pstep h la (prun h la l m k) x false).now)).alloc (.cells #[.bool (pstep h la (prun h la l m k) x false).on, .bool (pstep h la (prun h la l m k) x false).now] 39)) := by
          clear hs hsf; go_grown
        have hown0 := (ownsRow_setCell_below (ownsRow_setCell_below (ownsRow_setCell_below HO2.out (a := ⟨w.heap.size + 1, 0, none⟩) (Nat.lt_succ_self (w.heap.size + 1)) (.int .i64 (pstep h la (prun h la l m k) x false).run)) (a := ⟨w.heap.size + 1, 1, none⟩) (Nat.lt_succ_self (w.heap.size + 1)) (.bool (pstep h la (prun h la l m k) x false).on)) (a := ⟨w.heap.size + 1, 2, none⟩) (Nat.lt_succ_self (w.heap.size + 1)) (.bool (pstep h la (prun h la l m k) x false).now)).alloc (.cells #[.bool (pstep h la (prun h la l m k) x false).on, .bool (pstep h la (prun h la l m k) x false).now] 39)
        have hb3 : Below w.heap.size w w3 := below_app hb2s (by simp; omega) hown0 hgrow (by omega)
        have hk3 := (Below.refl (w.heap.size + 1 + 1) _).grown hgrow (by simp; omega) (fun g hg => by
          rcases hown0.2 with ⟨e, _⟩ | ⟨g1, cap, cur, e, hg1, _⟩
          · rw [e] at hg; simp [Value.ownBlock] at hg
          · rw [e] at hg; simp [Value.ownBlock] at hg; omega)
        have HBR3 := Lib.hid ((((HBR2.out.setO (by omega) 0 (.int .i64 (pstep h la (prun h la l m k) x false).run)).setO (by omega) 1 (.bool (pstep h la (prun h la l m k) x false).on)).setO (by omega) 2 (.bool (pstep h la (prun h la l m k) x false).now)).al (.cells #[.bool (pstep h la (prun h la l m k) x false).on, .bool (pstep h la (prun h la l m k) x false).now] 39) |>.keep hk3 (by omega))
        have HBS3 := Lib.hid ((((HBS2.out.set 0 (.int .i64 (pstep h la (prun h la l m k) x false).run)).set 1 (.bool (pstep h la (prun h la l m k) x false).on)).set 2 (.bool (pstep h la (prun h la l m k) x false).now)).al (.cells #[.bool (pstep h la (prun h la l m k) x false).on, .bool (pstep h la (prun h la l m k) x false).now] 39) |>.keep hk3 (by omega))
        have HO3 := Lib.hid hown2
        clear hs hsf hown2 hown0 hgrow hat hk3 hb2s HBS2 HBR2 HO2 hb2
        go_wp2
        go_roundw
        case rel =>
          refine ⟨k + 1, by omega, by go_num, hb3, HBR3.out, ?_, ?_⟩
          · rw [HE.out]; exact HBS3.out
          · rw [alarmsTo_succ, al2_app, HE.out]; exact HO3.out
        case measure => simp [intOf]; omega
    · have : k = l.length := by omega
      subst this
      have HO := Lib.hid (RowN.of_own ho)
      clear ho hbr hbs
      go_wp2
      go_ret
      exact ⟨_, rfl, HO.out, hb⟩
end Go.Proofs.Ytmcjndnecohboaa
