/- Layer 18: what a rule says, by the document. -/
import Derived.Test.YtkipocfdgekkfaaRuleN
import Derived.StillTailTactics
namespace Go.Proofs.Ytkipocfdgekkfaa
open Go.ChangeShapes Go.WideShapes Go.ChangeAt Go.RowKit
set_option linter.unusedVariables false
set_option linter.unusedSimpArgs false

theorem own_lowerS {w : World} {base b2 : Nat} {e : TypeId} {k n : Nat} {v : Value} {xs : List Value} (h : w.ownsRow base e k v n xs) (hl : b2 ≤ base) : w.ownsRow b2 e k v n xs := by
  obtain ⟨h1, h2⟩ := h
  rcases h2 with h2 | ⟨g, cap, cur, hv, hbg, hrest⟩
  · exact ⟨h1, .inl h2⟩
  · exact ⟨h1, .inr ⟨g, cap, cur, hv, by omega, hrest⟩⟩
theorem evalP_take {g : T → Int} {l : List T} {j : Nat} {t : T} {p : List Int} (h : evalP g (l.take j) [] = some p) (ht : l[j]? = some t) : evalP g (l.take (j + 1)) [] = stepP g t p := by
  rw [List.take_add_one, ht]
  show evalP g (l.take j ++ [t]) [] = _
  rw [evalP_app, h]
  show (stepP g t p).bind (evalP g []) = _
  cases stepP g t p <;> rfl
theorem need_n {g : T → Int} {l : List T} {j : Nat} {t : T} {q : List Int} (hev : evalN l 0 = some 1) (h : evalP g (l.take j) [] = some q.reverse) (ht : l[j]? = some t) (hl : isLim t = false) : (t.1 = 5 → 1 ≤ q.length) ∧ (t.1 ≠ 5 → 2 ≤ q.length) := by
  have e := eval_len g (l.take j) []
  rw [h] at e
  have e' : evalN (l.take j) 0 = some q.length := by rw [← List.length_reverse]; exact e.symm
  have hn := (evalN_take e' ht).2
  constructor
  · intro h5
    by_cases h0 : q.length = 0
    · rw [hn (by unfold stepN; rw [hl, if_neg (by decide), if_pos h5, if_pos h0])] at hev
      cases hev
    · omega
  · intro h5
    by_cases h0 : q.length < 2
    · rw [hn (by unfold stepN; rw [hl, if_neg (by decide), if_neg h5, if_pos h0])] at hev
      cases hev
    · omega
theorem rev1 {q : List Int} {m : Nat} {a : Int} (hm : q.length = m + 1) (ha : q[m]? = some a) : q.reverse = a :: (q.take m).reverse := by
  have hl : q = q.take m ++ [a] := by
    conv => lhs; rw [← List.take_append_drop m q]
    congr 1
    obtain ⟨hlt, hg⟩ := List.getElem?_eq_some_iff.1 ha
    rw [List.drop_eq_getElem_cons hlt, hg, List.drop_of_length_le (by omega)]
  conv => lhs; rw [hl]
  simp
theorem rev2 {q : List Int} {m : Nat} {a b : Int} (hm : q.length = m + 1 + 1) (hb : q[m]? = some b) (ha : q[m + 1]? = some a) : q.reverse = a :: b :: (q.take m).reverse := by
  rw [rev1 hm ha, List.take_add_one, hb]
  simp
theorem step_not {g : T → Int} {t : T} {q : List Int} {m : Nat} {a : Int} (hl : isLim t = false) (h5 : t.1 = 5) (hm : q.length = m + 1) (ha : q[m]? = some a) : stepP g t q.reverse = some (q.take m ++ [not3 a]).reverse := by
  rw [rev1 hm ha]
  unfold stepP
  rw [hl, if_neg (by decide), if_pos h5]
  simp
theorem step_and {g : T → Int} {t : T} {q : List Int} {m : Nat} {a b : Int} (hl : isLim t = false) (h3 : t.1 = 3) (hm : q.length = m + 1 + 1) (hb : q[m]? = some b) (ha : q[m + 1]? = some a) : stepP g t q.reverse = some (q.take m ++ [and3 b a]).reverse := by
  rw [rev2 hm hb ha]
  unfold stepP
  rw [hl, if_neg (by decide), if_neg (by omega)]
  show some ((if t.1 = 3 then and3 a b else or3 a b) :: (q.take m).reverse) = _
  rw [if_pos h3, show and3 a b = and3 b a by unfold and3; (repeat' split) <;> omega]
  simp
theorem step_or {g : T → Int} {t : T} {q : List Int} {m : Nat} {a b : Int} (hl : isLim t = false) (h5 : t.1 ≠ 5) (h3 : t.1 ≠ 3) (hm : q.length = m + 1 + 1) (hb : q[m]? = some b) (ha : q[m + 1]? = some a) : stepP g t q.reverse = some (q.take m ++ [or3 b a]).reverse := by
  rw [rev2 hm hb ha]
  unfold stepP
  rw [hl, if_neg (by decide), if_neg h5]
  show some ((if t.1 = 3 then and3 a b else or3 a b) :: (q.take m).reverse) = _
  rw [if_neg h3, show or3 a b = or3 b a by unfold or3; (repeat' split) <;> omega]
  simp
theorem step_lim {g : T → Int} {t : T} {q : List Int} {x : Int} (hl : isLim t = true) (hx : g t = x) : stepP g t q.reverse = some (q ++ [x]).reverse := by
  unfold stepP
  rw [hl, if_pos rfl, hx]
  simp
theorem Below.trans' {a b c : World} {B : Nat} (h : Below b.heap.size b c) (k : Below B a b) (hz : B ≤ b.heap.size) : Below B a c := k.trans (h.mono hz)
set_option maxRecDepth 100000 in
set_option maxHeartbeats 64000000 in
theorem rsays_any (v : Value) (hold : Int) (latch : Bool) (l : List T) (CA : Option Addr) (cc : Nat) (cs : List Cl) (w : World) (h : IsRule w v hold latch l) (hc : RowN 3 w (.slice CA cs.length cc) cs.length (c3c cs)) (hr : ∀ t ∈ l, tRight t (cs.length : Int) = true) (hev : evalN l 0 = some 1) (hl : l.length ≤ 100) :
    Calls Try.prog 17 #[v, .slice CA cs.length cc] w fun e w' => e = .returned (.int .i64 (saysR l cs)) ∧ Below w.heap.size w w' := by
  obtain ⟨RA, rc, rfl, hrow⟩ := h.ex
  have HROW0 := Lib.hid hrow
  have HC0 := Lib.hid hc
  have HTR := Lib.hid hr
  have HVN := Lib.hid hev
  clear h hrow hc hr hev
  go_enter Try.func17, Try.ntmps17
  go_wp2_with fail
  refine wp_world (fun W => Below w.heap.size w W ∧ Blk W w.heap.size 24 #[.slice RA l.length rc, .int .i64 hold, .bool latch]) ⟨by go_grown, Blk.new _ _ _ _ rfl⟩ fun W ⟨hbW, hBW⟩ => ?_
  have HBW0 := Lib.hid hBW
  have HW := Lib.hid hbW
  have HROWW := Lib.hid (HROW0.out.below hbW)
  have HCW := Lib.hid (HC0.out.below hbW)
  clear hbW hBW HROW0 HC0
  go_loopw [5, 6, 7, 8, 9, 10] (fun out i _ _ _ _ wr => ∃ (j : Nat) (q : List Int), j ≤ l.length ∧ q.length ≤ j ∧ i = .int .i64 j ∧ Below W.heap.size W wr ∧ evalP (gOf cs) (l.take j) [] = some q.reverse ∧ ∃ A c, out = .slice A q.length c ∧ World.ownsRow wr W.heap.size 3 1 (.slice A q.length c) q.length (q.map (.int .i64))) (fun _ i _ _ _ _ _ => l.length - (intOf i).toNat)
  case atStart => exact ⟨0, [], by omega, by simp, rfl, Below.refl _ _, rfl, none, 0, rfl, own_nil _ _⟩
  case round =>
    obtain ⟨j, q, hj, hqj, rfl, hbj, hevj, OA, oc, rfl, hro⟩ := hrel
    by_cases hlt : j < l.length
    · obtain ⟨⟨op, ch, nv⟩, ht⟩ : ∃ t, l[j]? = some t := ⟨_, List.getElem?_eq_getElem hlt⟩
      obtain ⟨ad, rfl, had, _, _, _⟩ := row3_at HROWW.out ht
      have HBW := Lib.hid HBW0.out
      obtain ⟨e0, e1, e2⟩ := row3_c (HROWW.out.below hbj) ht
      dsimp only at e0 e1 e2
      have cB := (HBW.out.below hbj).cells
      have lB := (HBW.out.below hbj).lt
      have hjl : (j : Int) < (l.length : Int) := by omega
      have HT := Lib.hid ht
      have HEV := Lib.hid (evalP_take hevj ht)
      have HEQ := Lib.hid hevj
      have HRT := Lib.hid (HTR.out _ (List.mem_of_getElem? ht))
      have HO := Lib.hid hro
      have HBU := Lib.hid hbj
      clear ht had hro hbj hevj
      go_wp2_with fail
      refine calls_world (fun V => Below W.heap.size W V ∧ World.ownsRow V W.heap.size 3 1 (.slice OA q.length oc) q.length (q.map (.int .i64)) ∧ Blk V wr.heap.size 43 #[.int .i64 op, .int .i64 ch, .int .i64 nv]) ⟨HBU.out.alloc HBU.out.size _, own_below HO.out ((Below.refl _ _).alloc (Nat.le_refl _) _), Blk.new _ _ _ _ rfl⟩ fun U0 ⟨hb0, ho0, hT0⟩ => ?_
      have HBT0 := Lib.hid hT0
      clear HBU HO e0 e1 e2 cB lB
      have HBU0 := Lib.hid hb0
      have HO0 := Lib.hid ho0
      clear hb0 ho0 hT0
      refine (rlimit_any (op, ch, nv) _).mono ?_
      rintro e U1 ⟨rfl, hk⟩
      have HBU := Lib.hid (Btrans HBU0.out hk)
      have HO := Lib.hid (own_below HO0.out hk)
      have HBT := Lib.hid (HBT0.out.below hk)
      clear HBU0 HO0 HBT0 hk
      have cT := HBT.out.cells
      have lT := HBT.out.lt
      have hz1 := HBU.out.size
      cases hlm : isLim (op, ch, nv) with
      | true =>
        have HLM := Lib.hid hlm
        obtain ⟨hc0, hcn⟩ := tright_ch HRT.out hlm
        dsimp only at hc0 hcn
        obtain ⟨k, rfl⟩ : ∃ k : Nat, ch = (k : Int) := ⟨ch.toNat, by omega⟩
        obtain ⟨⟨ck, cv, cf⟩, ha⟩ : ∃ a, cs[k]? = some a := ⟨_, List.getElem?_eq_getElem (by omega)⟩
        obtain ⟨cad, rfl, _, _, _, _⟩ := row3_at HCW.out ha
        obtain ⟨c0, c1, c2⟩ := row3_c (HCW.out.below HBU.out) ha
        dsimp only at c0 c1 c2
        have lT1 : wr.heap.size < U1.heap.size + 1 := by omega
        have HG := Lib.hid (show gOf cs (op, (k : Int), nv) = limO (op, (k : Int), nv) (ck, cv, cf) by unfold gOf; simp only [Int.toNat_natCast]; rw [List.getD_eq_getElem?_getD, ha]; rfl)
        have HLO := Lib.hid (show limO (op, (k : Int), nv) (ck, cv, cf) = if ck = 1 then (if (if op = 1 then decide (cv > nv) else decide (cv < nv)) = true then 2 else 1) else 3 from rfl)
        have hkn : (k : Int) < (cs.length : Int) := by omega
        have cB := cT
        have lB := lT
        clear hlm hc0 hcn ha
        by_cases hck : ck = 1
        · have qk : (ck == 1) = true := by rw [beq_iff_eq]; exact hck
          have HCK := Lib.hid hck
          clear hck
          rcases lim_op HLM.out with hop | hop
          · dsimp only at hop
            subst hop
            by_cases hc : nv < cv
            · have qc : decide (cv > nv) = true := decide_eq_true (by omega)
              have HQC := Lib.hid hc
              clear hc
              go_wp2_with fail
              refine (rof_any _ _).mono ?_
              rintro e u ⟨rfl, rfl⟩
              go_wp2_with (at_builtin; refine wpList_app el64 rfl (.tmp 58) (.tmp 60) rfl W.heap.size _ q.length (q.map (Value.int .i64)) rfl (own_below HO.out (by go_grown)) _ [Value.int .i64 2] rfl (Row.of_block (Blk.new _ _ _ _ (by first | rfl | simp)) rfl rfl (Nat.le_refl _) (by decide)) (one_ints _ [2]) ?_ ?_ ?_ ?_)
              case refine_1 => simp; unfold maxLen; omega
              case refine_2 => simp; omega
              case refine_3 => simp; omega
              intro v7 w7 own7 hg7 _
              have HB7 := Lib.hid (below_app (Btrans HBU.out (((Below.refl U1.heap.size U1).alloc (Nat.le_refl _) _).alloc (by simp) _)) (by simp; omega) (own_below HO.out (by go_grown)) hg7 (Nat.le_refl _))
              have HO7 := Lib.hid (show ∃ A c, v7 = .slice A (q ++ [2]).length c ∧ World.ownsRow w7 W.heap.size 3 1 (.slice A (q ++ [2]).length c) (q ++ [2]).length ((q ++ [2]).map (.int .i64)) from by
                obtain ⟨A7, c7, rfl⟩ := own_shape own7
                have e : (q ++ [2]).length = q.length + [Value.int IntKind.i64 2].length := by simp
                rw [e]
                exact ⟨A7, c7, rfl, by rw [List.map_append]; exact own7⟩)
              have HE7 := Lib.hid (HEV.out.trans (step_lim HLM.out (HG.out.trans (show _ = 2 by have hq := HQC.out; rw [HLO.out, if_pos HCK.out]; simp; omega))))
              clear own7 hg7 c0 c1 c2 cB lB
              go_wp2
              go_roundw
              case rel => exact ⟨j + 1, q ++ [2], by omega, by simp; omega, by go_num, HB7.out, HE7.out, HO7.out⟩
              case measure => simp [intOf]; omega
            · have qc : decide (cv > nv) = false := decide_eq_false (by omega)
              have HQC := Lib.hid hc
              clear hc
              go_wp2_with fail
              refine (rof_any _ _).mono ?_
              rintro e u ⟨rfl, rfl⟩
              go_wp2_with (at_builtin; refine wpList_app el64 rfl (.tmp 58) (.tmp 60) rfl W.heap.size _ q.length (q.map (Value.int .i64)) rfl (own_below HO.out (by go_grown)) _ [Value.int .i64 1] rfl (Row.of_block (Blk.new _ _ _ _ (by first | rfl | simp)) rfl rfl (Nat.le_refl _) (by decide)) (one_ints _ [1]) ?_ ?_ ?_ ?_)
              case refine_1 => simp; unfold maxLen; omega
              case refine_2 => simp; omega
              case refine_3 => simp; omega
              intro v7 w7 own7 hg7 _
              have HB7 := Lib.hid (below_app (Btrans HBU.out (((Below.refl U1.heap.size U1).alloc (Nat.le_refl _) _).alloc (by simp) _)) (by simp; omega) (own_below HO.out (by go_grown)) hg7 (Nat.le_refl _))
              have HO7 := Lib.hid (show ∃ A c, v7 = .slice A (q ++ [1]).length c ∧ World.ownsRow w7 W.heap.size 3 1 (.slice A (q ++ [1]).length c) (q ++ [1]).length ((q ++ [1]).map (.int .i64)) from by
                obtain ⟨A7, c7, rfl⟩ := own_shape own7
                have e : (q ++ [1]).length = q.length + [Value.int IntKind.i64 1].length := by simp
                rw [e]
                exact ⟨A7, c7, rfl, by rw [List.map_append]; exact own7⟩)
              have HE7 := Lib.hid (HEV.out.trans (step_lim HLM.out (HG.out.trans (show _ = 1 by have hq := HQC.out; rw [HLO.out, if_pos HCK.out]; simp; omega))))
              clear own7 hg7 c0 c1 c2 cB lB
              go_wp2
              go_roundw
              case rel => exact ⟨j + 1, q ++ [1], by omega, by simp; omega, by go_num, HB7.out, HE7.out, HO7.out⟩
              case measure => simp [intOf]; omega
          · dsimp only at hop
            subst hop
            by_cases hc : cv < nv
            · have qc : decide (cv < nv) = true := decide_eq_true (by omega)
              have HQC := Lib.hid hc
              clear hc
              go_wp2_with fail
              refine (rof_any _ _).mono ?_
              rintro e u ⟨rfl, rfl⟩
              go_wp2_with (at_builtin; refine wpList_app el64 rfl (.tmp 58) (.tmp 60) rfl W.heap.size _ q.length (q.map (Value.int .i64)) rfl (own_below HO.out (by go_grown)) _ [Value.int .i64 2] rfl (Row.of_block (Blk.new _ _ _ _ (by first | rfl | simp)) rfl rfl (Nat.le_refl _) (by decide)) (one_ints _ [2]) ?_ ?_ ?_ ?_)
              case refine_1 => simp; unfold maxLen; omega
              case refine_2 => simp; omega
              case refine_3 => simp; omega
              intro v7 w7 own7 hg7 _
              have HB7 := Lib.hid (below_app (Btrans HBU.out (((Below.refl U1.heap.size U1).alloc (Nat.le_refl _) _).alloc (by simp) _)) (by simp; omega) (own_below HO.out (by go_grown)) hg7 (Nat.le_refl _))
              have HO7 := Lib.hid (show ∃ A c, v7 = .slice A (q ++ [2]).length c ∧ World.ownsRow w7 W.heap.size 3 1 (.slice A (q ++ [2]).length c) (q ++ [2]).length ((q ++ [2]).map (.int .i64)) from by
                obtain ⟨A7, c7, rfl⟩ := own_shape own7
                have e : (q ++ [2]).length = q.length + [Value.int IntKind.i64 2].length := by simp
                rw [e]
                exact ⟨A7, c7, rfl, by rw [List.map_append]; exact own7⟩)
              have HE7 := Lib.hid (HEV.out.trans (step_lim HLM.out (HG.out.trans (show _ = 2 by have hq := HQC.out; rw [HLO.out, if_pos HCK.out]; simp; omega))))
              clear own7 hg7 c0 c1 c2 cB lB
              go_wp2
              go_roundw
              case rel => exact ⟨j + 1, q ++ [2], by omega, by simp; omega, by go_num, HB7.out, HE7.out, HO7.out⟩
              case measure => simp [intOf]; omega
            · have qc : decide (cv < nv) = false := decide_eq_false (by omega)
              have HQC := Lib.hid hc
              clear hc
              go_wp2_with fail
              refine (rof_any _ _).mono ?_
              rintro e u ⟨rfl, rfl⟩
              go_wp2_with (at_builtin; refine wpList_app el64 rfl (.tmp 58) (.tmp 60) rfl W.heap.size _ q.length (q.map (Value.int .i64)) rfl (own_below HO.out (by go_grown)) _ [Value.int .i64 1] rfl (Row.of_block (Blk.new _ _ _ _ (by first | rfl | simp)) rfl rfl (Nat.le_refl _) (by decide)) (one_ints _ [1]) ?_ ?_ ?_ ?_)
              case refine_1 => simp; unfold maxLen; omega
              case refine_2 => simp; omega
              case refine_3 => simp; omega
              intro v7 w7 own7 hg7 _
              have HB7 := Lib.hid (below_app (Btrans HBU.out (((Below.refl U1.heap.size U1).alloc (Nat.le_refl _) _).alloc (by simp) _)) (by simp; omega) (own_below HO.out (by go_grown)) hg7 (Nat.le_refl _))
              have HO7 := Lib.hid (show ∃ A c, v7 = .slice A (q ++ [1]).length c ∧ World.ownsRow w7 W.heap.size 3 1 (.slice A (q ++ [1]).length c) (q ++ [1]).length ((q ++ [1]).map (.int .i64)) from by
                obtain ⟨A7, c7, rfl⟩ := own_shape own7
                have e : (q ++ [1]).length = q.length + [Value.int IntKind.i64 1].length := by simp
                rw [e]
                exact ⟨A7, c7, rfl, by rw [List.map_append]; exact own7⟩)
              have HE7 := Lib.hid (HEV.out.trans (step_lim HLM.out (HG.out.trans (show _ = 1 by have hq := HQC.out; rw [HLO.out, if_pos HCK.out]; simp; omega))))
              clear own7 hg7 c0 c1 c2 cB lB
              go_wp2
              go_roundw
              case rel => exact ⟨j + 1, q ++ [1], by omega, by simp; omega, by go_num, HB7.out, HE7.out, HO7.out⟩
              case measure => simp [intOf]; omega
        · have qk : (ck == 1) = false := beq_false_of_ne hck
          have HCK := Lib.hid hck
          clear hck
          go_wp2_with (at_builtin; refine wpList_app el64 rfl (.tmp 58) (.tmp 60) rfl W.heap.size _ q.length (q.map (Value.int .i64)) rfl (own_below HO.out (by go_grown)) _ [Value.int .i64 3] rfl (Row.of_block (Blk.new _ _ _ _ (by first | rfl | simp)) rfl rfl (Nat.le_refl _) (by decide)) (one_ints _ [3]) ?_ ?_ ?_ ?_)
          case refine_1 => simp; unfold maxLen; omega
          case refine_2 => simp; omega
          case refine_3 => simp; omega
          intro v7 w7 own7 hg7 _
          have HB7 := Lib.hid (below_app (Btrans HBU.out (((Below.refl U1.heap.size U1).alloc (Nat.le_refl _) _).alloc (by simp) _)) (by simp; omega) (own_below HO.out (by go_grown)) hg7 (Nat.le_refl _))
          have HO7 := Lib.hid (show ∃ A c, v7 = .slice A (q ++ [3]).length c ∧ World.ownsRow w7 W.heap.size 3 1 (.slice A (q ++ [3]).length c) (q ++ [3]).length ((q ++ [3]).map (.int .i64)) from by
            obtain ⟨A7, c7, rfl⟩ := own_shape own7
            have e : (q ++ [3]).length = q.length + [Value.int IntKind.i64 3].length := by simp
            rw [e]
            exact ⟨A7, c7, rfl, by rw [List.map_append]; exact own7⟩)
          have HE7 := Lib.hid (HEV.out.trans (step_lim HLM.out (HG.out.trans (show _ = 3 by rw [HLO.out, if_neg HCK.out]))))
          clear own7 hg7 c0 c1 c2 cB lB
          go_wp2
          go_roundw
          case rel => exact ⟨j + 1, q ++ [3], by omega, by simp; omega, by go_num, HB7.out, HE7.out, HO7.out⟩
          case measure => simp [intOf]; omega
      | false =>
        have HLM := Lib.hid hlm
        have hnd := need_n HVN.out HEQ.out HT.out hlm
        dsimp only at hnd
        have HND := Lib.hid hnd
        clear hlm hnd
        have cB := cT
        have lB := lT
        by_cases h5 : op = 5
        · subst h5
          obtain ⟨m, hm⟩ : ∃ m, q.length = m + 1 := ⟨q.length - 1, by have := HND.out.1 rfl; omega⟩
          obtain ⟨a, ha⟩ : ∃ a, q[m]? = some a := ⟨_, List.getElem?_eq_getElem (by omega)⟩
          obtain ⟨od, rfl⟩ : ∃ od, OA = some od := by
            obtain ⟨_, hh⟩ := HO.out
            rcases hh with ⟨_, h0⟩ | ⟨g, cap, cur, e, _⟩
            · omega
            · injection e with e; exact ⟨_, e⟩
          obtain ⟨_, hoc, hocm⟩ := row_len (Row.of_own HO.out)
          have HA := Lib.hid ha
          have HM := Lib.hid hm
          have hw1 : IntKind.i64.wrap (((q.length : Nat) : Int) - 1) = (m : Int) := by rw [IntWalk.i64_in _ (by omega)]; omega
          have hmc : (m : Int) ≤ (oc : Int) := by omega
          have hmq : (m : Int) < (q.length : Int) := by omega
          have hmq2 : m ≤ q.length := by omega
          have hmq3 : m ≤ 100 := by omega
          clear ha hm
          go_wp2_with fail
          refine wp_world (fun V => Below W.heap.size W V ∧ World.ownsRow V W.heap.size 3 1 (.slice (some od) q.length oc) q.length (q.map (.int .i64))) ⟨HBU.out, HO.out⟩ fun U ⟨hbU, hoU⟩ => ?_
          clear HBU HO cB lB cT lT
          have HBU := Lib.hid hbU
          have HRU := Lib.hid (Row.of_own hoU)
          clear hbU hoU
          have HPRE := Lib.hid (row_pre HRU.out (k := m) (by omega))
          have HLP := Lib.hid (show ((q.take m).map (Value.int .i64)).length = m by simp; omega)
          have hbX := Below.refl U.heap.size U
          have dO : ∀ w', Below U.heap.size U w' → w'.cell? (od.add m) = some (.int .i64 a) := fun w' hb => row_c (HRU.out.below hb) HA.out
          refine wp_region_held_drew (S := fun w' => Below U.heap.size U w') (by kernel_rfl) ((Below.refl _ _).drew) (fun hHeld => ?_)
          refine takeD 1 (some 66) (v := ?_) rfl rfl (by kernel_rfl) (by kernel_rfl) (by kernel_rfl) (fun _ _ _ h => h) (by rfl) ?_ (by assumption) ?_
          rotate_left
          · intro w hSw
            (try dsimp only at hSw)
            go_simp
            try with_reducible rfl
          try simp only [Act.put, List.setIfInBounds_toArray, List.set_cons_zero, List.set_cons_succ]
          refine takeD 2 (some 67) (v := ?_) rfl rfl (by kernel_rfl) (by kernel_rfl) (by kernel_rfl) (fun _ _ _ h => h) (by rfl) ?_ (by assumption) ?_
          rotate_left
          · intro w hSw
            (try dsimp only at hSw)
            go_simp
            try with_reducible rfl
          try simp only [Act.put, List.setIfInBounds_toArray, List.set_cons_zero, List.set_cons_succ]
          refine takeD 3 (some 68) (v := ?_) rfl rfl (by kernel_rfl) (by kernel_rfl) (by kernel_rfl) (fun _ _ _ h => h) (by rfl) ?_ (by assumption) ?_
          rotate_left
          · intro w hSw
            (try dsimp only at hSw)
            go_simp
            try with_reducible rfl
          try simp only [Act.put, List.setIfInBounds_toArray, List.set_cons_zero, List.set_cons_succ]
          refine takeD 4 (some 69) (v := ?_) rfl rfl (by kernel_rfl) (by kernel_rfl) (by kernel_rfl) (fun _ _ _ h => h) (by rfl) ?_ (by assumption) ?_
          rotate_left
          · intro w hSw
            (try dsimp only at hSw)
            go_simp
            try with_reducible rfl
          try simp only [Act.put, List.setIfInBounds_toArray, List.set_cons_zero, List.set_cons_succ]
          refine takeD 6 (some 71) (v := ?_) rfl rfl (by kernel_rfl) (by kernel_rfl) (by kernel_rfl) (fun _ _ _ h => h) (by rfl) ?_ (by assumption) ?_
          rotate_left
          · intro w hSw
            (try dsimp only at hSw)
            go_simp
            try with_reducible rfl
          try simp only [Act.put, List.setIfInBounds_toArray, List.set_cons_zero, List.set_cons_succ]
          refine takeD 7 (some 72) (v := ?_) rfl rfl (by kernel_rfl) (by kernel_rfl) (by kernel_rfl) (fun _ _ _ h => h) (by rfl) ?_ (by assumption) ?_
          rotate_left
          · intro w hSw
            (try dsimp only at hSw)
            go_simp
            try with_reducible rfl
          try simp only [Act.put, List.setIfInBounds_toArray, List.set_cons_zero, List.set_cons_succ]
          refine takeD 8 (some 73) (v := ?_) rfl rfl (by kernel_rfl) (by kernel_rfl) (by kernel_rfl) (fun _ _ _ h => h) (by rfl) ?_ (by assumption) ?_
          rotate_left
          · intro w hSw
            (try dsimp only at hSw)
            go_simp
            try with_reducible rfl
          try simp only [Act.put, List.setIfInBounds_toArray, List.set_cons_zero, List.set_cons_succ]
          refine takeD 9 (some 74) (v := ?_) rfl rfl (by kernel_rfl) (by kernel_rfl) (by kernel_rfl) (fun _ _ _ h => h) (by rfl) ?_ (by assumption) ?_
          rotate_left
          · intro w hSw
            (try dsimp only at hSw)
            go_simp
            try with_reducible rfl
          try simp only [Act.put, List.setIfInBounds_toArray, List.set_cons_zero, List.set_cons_succ]
          refine takeD 10 (some 75) (v := ?_) rfl rfl (by kernel_rfl) (by kernel_rfl) (by kernel_rfl) (fun _ _ _ h => h) (by rfl) ?_ (by assumption) ?_
          rotate_left
          · intro w hSw
            (try dsimp only at hSw)
            go_simp
            try with_reducible rfl
          try simp only [Act.put, List.setIfInBounds_toArray, List.set_cons_zero, List.set_cons_succ]
          refine wpAnyH_ready (rs := [0]) (by kernel_rfl) (by simp) ?_
          refine AllReadyH.cons rfl (fun K hK => ?_) AllReadyH.nil
          rw [if_pos (by rfl)]
          go_simp
          refine nmW (fun V => Below U.heap.size U V ∧ World.ownsRow V U.heap.size 3 1 (.slice (some ⟨U.heap.size, 0, none⟩) 0 0) 0 []) ⟨(hbX.alloc hbX.size _).drew, World.ownsRow.drew (own_empty _ _ _ _ hbX.size rfl)⟩ fun V1 ⟨hbX2, qHC⟩ => ?_
          have hbX := hbX2
          clear hbX2
          have HC := Lib.hid qHC
          clear qHC
          have hS := hbX
          refine hK.out _ _ ?_ (fun hHeld2 => ?_)
          · clear hK; exact hS
          clear hK K hHeld hS
          have hHeld := hHeld2
          clear hHeld2
          try simp only [Act.put, List.setIfInBounds_toArray, List.set_cons_zero, List.set_cons_succ]
          refine wpAnyH_ready (rs := [5]) (by kernel_rfl) (by simp) ?_
          refine AllReadyH.cons rfl (fun K hK => ?_) AllReadyH.nil
          rw [if_pos (by rfl)]
          refine wp_app el64 (.tmp 65) (.tmp 69) rfl U.heap.size (.slice (some ⟨U.heap.size, 0, none⟩) 0 0) 0 [] rfl HC.out _ ((q.take m).map (Value.int .i64)) rfl (HPRE.out.below hbX) (one_ints _ _) (by rw [HLP.out]; unfold maxLen; omega) (by rw [HLP.out]; omega) hbX.size ?_
          intro v2 V2 hO hg hor
          rw [HLP.out] at hO
          have hbX2 := below_app hbX hbX.size HC.out hg (Nat.le_refl _)
          rw [Nat.zero_add, List.nil_append] at hO
          clear HC
          have HC := Lib.hid hO
          clear hO hg hor hbX
          have hbX := hbX2
          clear hbX2
          have hS := hbX
          refine hK.out _ _ ?_ (fun hHeld2 => ?_)
          · clear hK; exact hS
          clear hK K hHeld hS
          have hHeld := hHeld2
          clear hHeld2
          try simp only [Act.put, List.setIfInBounds_toArray, List.set_cons_zero, List.set_cons_succ]
          refine wpAnyH_ready (rs := [11]) (by kernel_rfl) (by simp) ?_
          refine AllReadyH.cons rfl (fun K hK => ?_) AllReadyH.nil
          rw [if_pos (by rfl)]
          go_simp
          go_at_call 19
          refine (rnot_any a _).mono ?_
          rintro e u ⟨rfl, rfl⟩
          have hS := hbX
          go_wp2_with fail
          refine hK.out _ _ ?_ (fun hHeld2 => ?_)
          · clear hK; exact hS
          clear hK K hHeld hS
          have hHeld := hHeld2
          clear hHeld2
          try simp only [Act.put, List.setIfInBounds_toArray, List.set_cons_zero, List.set_cons_succ]
          refine wpAnyH_ready (rs := [12]) (by kernel_rfl) (by simp) ?_
          refine AllReadyH.cons rfl (fun K hK => ?_) AllReadyH.nil
          rw [if_pos (by rfl)]
          go_simp
          refine nmW (fun V => Below U.heap.size U V ∧ World.ownsRow V U.heap.size 3 1 v2 m ((q.take m).map (.int .i64)) ∧ Blk V V2.heap.size 3 #[.int .i64 (not3 a)]) ⟨hbX.alloc hbX.size _, own_below HC.out ((Below.refl _ _).alloc (Nat.le_refl _) _), Blk.new _ _ _ _ rfl⟩ fun V3 ⟨hbX2, qHC, qHN⟩ => ?_
          clear HC hbX
          have hbX := hbX2
          clear hbX2
          have HC := Lib.hid qHC
          have HN := Lib.hid qHN
          clear qHC qHN
          have hS := hbX
          refine hK.out _ _ ?_ (fun hHeld2 => ?_)
          · clear hK; exact hS
          clear hK K hHeld hS
          have hHeld := hHeld2
          clear hHeld2
          try simp only [Act.put, List.setIfInBounds_toArray, List.set_cons_zero, List.set_cons_succ]
          refine wpAnyH_ready (rs := [13]) (by kernel_rfl) (by simp) ?_
          refine AllReadyH.cons rfl (fun K hK => ?_) AllReadyH.nil
          rw [if_pos (by rfl)]
          refine wp_app el64 (.tmp 70) (.tmp 77) rfl U.heap.size v2 m ((q.take m).map (Value.int .i64)) rfl HC.out _ [Value.int .i64 (not3 a)] rfl (Row.of_block HN.out rfl rfl (Nat.le_refl _) (by decide)) (one_ints _ [not3 a]) (by rw [show ([Value.int IntKind.i64 (not3 a)] : List Value).length = 1 from rfl]; unfold maxLen; omega) (by rw [show ([Value.int IntKind.i64 (not3 a)] : List Value).length = 1 from rfl]; omega) hbX.size ?_
          intro v3 V4 hO hg hor
          rw [show ([Value.int IntKind.i64 (not3 a)] : List Value).length = 1 from rfl] at hO
          have hbX2 := below_app hbX hbX.size HC.out hg (Nat.le_refl _)
          obtain ⟨A4, c4, rfl⟩ := own_shape hO
          clear HC HN
          have HC := Lib.hid hO
          clear hO hg hor hbX
          have hbX := hbX2
          clear hbX2
          have hS := hbX
          refine hK.out _ _ ?_ (fun hHeld2 => ?_)
          · clear hK; exact hS
          clear hK K hHeld hS
          have hHeld := hHeld2
          clear hHeld2
          try simp only [Act.put, List.setIfInBounds_toArray, List.set_cons_zero, List.set_cons_succ]
          refine takeD 14 (some 5) (v := ?_) rfl rfl (by kernel_rfl) (by kernel_rfl) (by kernel_rfl) (fun _ _ _ h => h) (by rfl) ?_ (by assumption) ?_
          rotate_left
          · intro w hSw
            (try dsimp only at hSw)
            go_simp
            try with_reducible rfl
          try simp only [Act.put, List.setIfInBounds_toArray, List.set_cons_zero, List.set_cons_succ]
          refine wpAnyH_done (by kernel_rfl) ?_ _
          have HO7 := Lib.hid (show ∃ A c, Value.slice A4 (m + 1) c4 = .slice A (q.take m ++ [not3 a]).length c ∧ World.ownsRow V4 W.heap.size 3 1 (.slice A (q.take m ++ [not3 a]).length c) (q.take m ++ [not3 a]).length ((q.take m ++ [not3 a]).map (.int .i64)) from by
            have e : (q.take m ++ [not3 a]).length = m + 1 := by simp; omega
            rw [e]
            exact ⟨A4, c4, rfl, by rw [List.map_append]; exact own_lowerS HC.out HBU.out.size⟩)
          have HB7 := Lib.hid (Btrans HBU.out hbX)
          have HE7 := Lib.hid (HEV.out.trans (step_not HLM.out rfl HM.out HA.out))
          clear hHeld dO
          try clear dO2
          go_wp2
          go_roundw
          case rel => exact ⟨j + 1, q.take m ++ [not3 a], by omega, by simp; omega, by go_num, HB7.out, HE7.out, HO7.out⟩
          case measure => simp [intOf]; omega
        · have q5 : (op == 5) = false := beq_false_of_ne h5
          have H5 := Lib.hid h5
          obtain ⟨m, hm⟩ : ∃ m, q.length = m + 1 + 1 := ⟨q.length - 2, by have := HND.out.2 h5; omega⟩
          obtain ⟨m1, hm1⟩ : ∃ m1, m1 = m + 1 := ⟨_, rfl⟩
          obtain ⟨b, hb⟩ : ∃ a, q[m]? = some a := ⟨_, List.getElem?_eq_getElem (by omega)⟩
          obtain ⟨a, ha⟩ : ∃ a, q[m1]? = some a := ⟨_, List.getElem?_eq_getElem (by omega)⟩
          obtain ⟨od, rfl⟩ : ∃ od, OA = some od := by
            obtain ⟨_, hh⟩ := HO.out
            rcases hh with ⟨_, h0⟩ | ⟨g, cap, cur, e, _⟩
            · omega
            · injection e with e; exact ⟨_, e⟩
          obtain ⟨_, hoc, hocm⟩ := row_len (Row.of_own HO.out)
          have HA := Lib.hid ha
          have HBB := Lib.hid hb
          have HA2 := Lib.hid (show q[m + 1]? = some a by rw [← hm1]; exact ha)
          have HM := Lib.hid hm
          have hw1 : IntKind.i64.wrap (((q.length : Nat) : Int) - 1) = (m1 : Int) := by rw [IntWalk.i64_in _ (by omega)]; omega
          have hw2 : IntKind.i64.wrap (((q.length : Nat) : Int) - 2) = (m : Int) := by rw [IntWalk.i64_in _ (by omega)]; omega
          have hmc : (m : Int) ≤ (oc : Int) := by omega
          have hmq : (m : Int) < (q.length : Int) := by omega
          have hmq1 : (m1 : Int) < (q.length : Int) := by omega
          have hmq2 : m ≤ q.length := by omega
          have hmq3 : m ≤ 100 := by omega
          clear ha hb hm hm1 h5
          by_cases h3 : op = 3
          · subst h3
            clear q5
            go_wp2_with fail
            refine wp_world (fun V => Below W.heap.size W V ∧ World.ownsRow V W.heap.size 3 1 (.slice (some od) q.length oc) q.length (q.map (.int .i64))) ⟨HBU.out, HO.out⟩ fun U ⟨hbU, hoU⟩ => ?_
            clear HBU HO cB lB cT lT
            have HBU := Lib.hid hbU
            have HRU := Lib.hid (Row.of_own hoU)
            clear hbU hoU
            have HPRE := Lib.hid (row_pre HRU.out (k := m) (by omega))
            have HLP := Lib.hid (show ((q.take m).map (Value.int .i64)).length = m by simp; omega)
            have hbX := Below.refl U.heap.size U
            have dO : ∀ w', Below U.heap.size U w' → w'.cell? (od.add m) = some (.int .i64 b) := fun w' hb => row_c (HRU.out.below hb) HBB.out
            have dO2 : ∀ w', Below U.heap.size U w' → w'.cell? (od.add m1) = some (.int .i64 a) := fun w' hb => row_c (HRU.out.below hb) HA.out
            refine wp_region_held_drew (S := fun w' => Below U.heap.size U w') (by kernel_rfl) ((Below.refl _ _).drew) (fun hHeld => ?_)
            refine takeD 1 (some 83) (v := ?_) rfl rfl (by kernel_rfl) (by kernel_rfl) (by kernel_rfl) (fun _ _ _ h => h) (by rfl) ?_ (by assumption) ?_
            rotate_left
            · intro w hSw
              (try dsimp only at hSw)
              go_simp
              try with_reducible rfl
            try simp only [Act.put, List.setIfInBounds_toArray, List.set_cons_zero, List.set_cons_succ]
            refine takeD 2 (some 84) (v := ?_) rfl rfl (by kernel_rfl) (by kernel_rfl) (by kernel_rfl) (fun _ _ _ h => h) (by rfl) ?_ (by assumption) ?_
            rotate_left
            · intro w hSw
              (try dsimp only at hSw)
              go_simp
              try with_reducible rfl
            try simp only [Act.put, List.setIfInBounds_toArray, List.set_cons_zero, List.set_cons_succ]
            refine takeD 3 (some 85) (v := ?_) rfl rfl (by kernel_rfl) (by kernel_rfl) (by kernel_rfl) (fun _ _ _ h => h) (by rfl) ?_ (by assumption) ?_
            rotate_left
            · intro w hSw
              (try dsimp only at hSw)
              go_simp
              try with_reducible rfl
            try simp only [Act.put, List.setIfInBounds_toArray, List.set_cons_zero, List.set_cons_succ]
            refine takeD 4 (some 86) (v := ?_) rfl rfl (by kernel_rfl) (by kernel_rfl) (by kernel_rfl) (fun _ _ _ h => h) (by rfl) ?_ (by assumption) ?_
            rotate_left
            · intro w hSw
              (try dsimp only at hSw)
              go_simp
              try with_reducible rfl
            try simp only [Act.put, List.setIfInBounds_toArray, List.set_cons_zero, List.set_cons_succ]
            refine takeD 6 (some 88) (v := ?_) rfl rfl (by kernel_rfl) (by kernel_rfl) (by kernel_rfl) (fun _ _ _ h => h) (by rfl) ?_ (by assumption) ?_
            rotate_left
            · intro w hSw
              (try dsimp only at hSw)
              go_simp
              try with_reducible rfl
            try simp only [Act.put, List.setIfInBounds_toArray, List.set_cons_zero, List.set_cons_succ]
            refine takeD 7 (some 89) (v := ?_) rfl rfl (by kernel_rfl) (by kernel_rfl) (by kernel_rfl) (fun _ _ _ h => h) (by rfl) ?_ (by assumption) ?_
            rotate_left
            · intro w hSw
              (try dsimp only at hSw)
              go_simp
              try with_reducible rfl
            try simp only [Act.put, List.setIfInBounds_toArray, List.set_cons_zero, List.set_cons_succ]
            refine takeD 8 (some 90) (v := ?_) rfl rfl (by kernel_rfl) (by kernel_rfl) (by kernel_rfl) (fun _ _ _ h => h) (by rfl) ?_ (by assumption) ?_
            rotate_left
            · intro w hSw
              (try dsimp only at hSw)
              go_simp
              try with_reducible rfl
            try simp only [Act.put, List.setIfInBounds_toArray, List.set_cons_zero, List.set_cons_succ]
            refine takeD 9 (some 91) (v := ?_) rfl rfl (by kernel_rfl) (by kernel_rfl) (by kernel_rfl) (fun _ _ _ h => h) (by rfl) ?_ (by assumption) ?_
            rotate_left
            · intro w hSw
              (try dsimp only at hSw)
              go_simp
              try with_reducible rfl
            try simp only [Act.put, List.setIfInBounds_toArray, List.set_cons_zero, List.set_cons_succ]
            refine takeD 10 (some 92) (v := ?_) rfl rfl (by kernel_rfl) (by kernel_rfl) (by kernel_rfl) (fun _ _ _ h => h) (by rfl) ?_ (by assumption) ?_
            rotate_left
            · intro w hSw
              (try dsimp only at hSw)
              go_simp
              try with_reducible rfl
            try simp only [Act.put, List.setIfInBounds_toArray, List.set_cons_zero, List.set_cons_succ]
            refine takeD 11 (some 93) (v := ?_) rfl rfl (by kernel_rfl) (by kernel_rfl) (by kernel_rfl) (fun _ _ _ h => h) (by rfl) ?_ (by assumption) ?_
            rotate_left
            · intro w hSw
              (try dsimp only at hSw)
              go_simp
              try with_reducible rfl
            try simp only [Act.put, List.setIfInBounds_toArray, List.set_cons_zero, List.set_cons_succ]
            refine takeD 12 (some 94) (v := ?_) rfl rfl (by kernel_rfl) (by kernel_rfl) (by kernel_rfl) (fun _ _ _ h => h) (by rfl) ?_ (by assumption) ?_
            rotate_left
            · intro w hSw
              (try dsimp only at hSw)
              go_simp
              try with_reducible rfl
            try simp only [Act.put, List.setIfInBounds_toArray, List.set_cons_zero, List.set_cons_succ]
            refine takeD 13 (some 95) (v := ?_) rfl rfl (by kernel_rfl) (by kernel_rfl) (by kernel_rfl) (fun _ _ _ h => h) (by rfl) ?_ (by assumption) ?_
            rotate_left
            · intro w hSw
              (try dsimp only at hSw)
              go_simp
              try with_reducible rfl
            try simp only [Act.put, List.setIfInBounds_toArray, List.set_cons_zero, List.set_cons_succ]
            refine takeD 14 (some 96) (v := ?_) rfl rfl (by kernel_rfl) (by kernel_rfl) (by kernel_rfl) (fun _ _ _ h => h) (by rfl) ?_ (by assumption) ?_
            rotate_left
            · intro w hSw
              (try dsimp only at hSw)
              go_simp
              try with_reducible rfl
            try simp only [Act.put, List.setIfInBounds_toArray, List.set_cons_zero, List.set_cons_succ]
            refine takeD 15 (some 97) (v := ?_) rfl rfl (by kernel_rfl) (by kernel_rfl) (by kernel_rfl) (fun _ _ _ h => h) (by rfl) ?_ (by assumption) ?_
            rotate_left
            · intro w hSw
              (try dsimp only at hSw)
              go_simp
              try with_reducible rfl
            try simp only [Act.put, List.setIfInBounds_toArray, List.set_cons_zero, List.set_cons_succ]
            refine wpAnyH_ready (rs := [0]) (by kernel_rfl) (by simp) ?_
            refine AllReadyH.cons rfl (fun K hK => ?_) AllReadyH.nil
            rw [if_pos (by rfl)]
            go_simp
            refine nmW (fun V => Below U.heap.size U V ∧ World.ownsRow V U.heap.size 3 1 (.slice (some ⟨U.heap.size, 0, none⟩) 0 0) 0 []) ⟨(hbX.alloc hbX.size _).drew, World.ownsRow.drew (own_empty _ _ _ _ hbX.size rfl)⟩ fun V1 ⟨hbX2, qHC⟩ => ?_
            have hbX := hbX2
            clear hbX2
            have HC := Lib.hid qHC
            clear qHC
            have hS := hbX
            refine hK.out _ _ ?_ (fun hHeld2 => ?_)
            · clear hK; exact hS
            clear hK K hHeld hS
            have hHeld := hHeld2
            clear hHeld2
            try simp only [Act.put, List.setIfInBounds_toArray, List.set_cons_zero, List.set_cons_succ]
            refine wpAnyH_ready (rs := [5]) (by kernel_rfl) (by simp) ?_
            refine AllReadyH.cons rfl (fun K hK => ?_) AllReadyH.nil
            rw [if_pos (by rfl)]
            refine wp_app el64 (.tmp 82) (.tmp 86) rfl U.heap.size (.slice (some ⟨U.heap.size, 0, none⟩) 0 0) 0 [] rfl HC.out _ ((q.take m).map (Value.int .i64)) rfl (HPRE.out.below hbX) (one_ints _ _) (by rw [HLP.out]; unfold maxLen; omega) (by rw [HLP.out]; omega) hbX.size ?_
            intro v2 V2 hO hg hor
            rw [HLP.out] at hO
            have hbX2 := below_app hbX hbX.size HC.out hg (Nat.le_refl _)
            rw [Nat.zero_add, List.nil_append] at hO
            clear HC
            have HC := Lib.hid hO
            clear hO hg hor hbX
            have hbX := hbX2
            clear hbX2
            have hS := hbX
            refine hK.out _ _ ?_ (fun hHeld2 => ?_)
            · clear hK; exact hS
            clear hK K hHeld hS
            have hHeld := hHeld2
            clear hHeld2
            try simp only [Act.put, List.setIfInBounds_toArray, List.set_cons_zero, List.set_cons_succ]
            refine wpAnyH_ready (rs := [16]) (by kernel_rfl) (by simp) ?_
            refine AllReadyH.cons rfl (fun K hK => ?_) AllReadyH.nil
            rw [if_pos (by rfl)]
            go_simp
            go_at_call 20
            refine (rand_any b a _).mono ?_
            rintro e u ⟨rfl, rfl⟩
            have hS := hbX
            go_wp2_with fail
            refine hK.out _ _ ?_ (fun hHeld2 => ?_)
            · clear hK; exact hS
            clear hK K hHeld hS
            have hHeld := hHeld2
            clear hHeld2
            try simp only [Act.put, List.setIfInBounds_toArray, List.set_cons_zero, List.set_cons_succ]
            refine wpAnyH_ready (rs := [17]) (by kernel_rfl) (by simp) ?_
            refine AllReadyH.cons rfl (fun K hK => ?_) AllReadyH.nil
            rw [if_pos (by rfl)]
            go_simp
            refine nmW (fun V => Below U.heap.size U V ∧ World.ownsRow V U.heap.size 3 1 v2 m ((q.take m).map (.int .i64)) ∧ Blk V V2.heap.size 3 #[.int .i64 (and3 b a)]) ⟨hbX.alloc hbX.size _, own_below HC.out ((Below.refl _ _).alloc (Nat.le_refl _) _), Blk.new _ _ _ _ rfl⟩ fun V3 ⟨hbX2, qHC, qHN⟩ => ?_
            clear HC hbX
            have hbX := hbX2
            clear hbX2
            have HC := Lib.hid qHC
            have HN := Lib.hid qHN
            clear qHC qHN
            have hS := hbX
            refine hK.out _ _ ?_ (fun hHeld2 => ?_)
            · clear hK; exact hS
            clear hK K hHeld hS
            have hHeld := hHeld2
            clear hHeld2
            try simp only [Act.put, List.setIfInBounds_toArray, List.set_cons_zero, List.set_cons_succ]
            refine wpAnyH_ready (rs := [18]) (by kernel_rfl) (by simp) ?_
            refine AllReadyH.cons rfl (fun K hK => ?_) AllReadyH.nil
            rw [if_pos (by rfl)]
            refine wp_app el64 (.tmp 87) (.tmp 99) rfl U.heap.size v2 m ((q.take m).map (Value.int .i64)) rfl HC.out _ [Value.int .i64 (and3 b a)] rfl (Row.of_block HN.out rfl rfl (Nat.le_refl _) (by decide)) (one_ints _ [and3 b a]) (by rw [show ([Value.int IntKind.i64 (and3 b a)] : List Value).length = 1 from rfl]; unfold maxLen; omega) (by rw [show ([Value.int IntKind.i64 (and3 b a)] : List Value).length = 1 from rfl]; omega) hbX.size ?_
            intro v3 V4 hO hg hor
            rw [show ([Value.int IntKind.i64 (and3 b a)] : List Value).length = 1 from rfl] at hO
            have hbX2 := below_app hbX hbX.size HC.out hg (Nat.le_refl _)
            obtain ⟨A4, c4, rfl⟩ := own_shape hO
            clear HC HN
            have HC := Lib.hid hO
            clear hO hg hor hbX
            have hbX := hbX2
            clear hbX2
            have hS := hbX
            refine hK.out _ _ ?_ (fun hHeld2 => ?_)
            · clear hK; exact hS
            clear hK K hHeld hS
            have hHeld := hHeld2
            clear hHeld2
            try simp only [Act.put, List.setIfInBounds_toArray, List.set_cons_zero, List.set_cons_succ]
            refine takeD 19 (some 5) (v := ?_) rfl rfl (by kernel_rfl) (by kernel_rfl) (by kernel_rfl) (fun _ _ _ h => h) (by rfl) ?_ (by assumption) ?_
            rotate_left
            · intro w hSw
              (try dsimp only at hSw)
              go_simp
              try with_reducible rfl
            try simp only [Act.put, List.setIfInBounds_toArray, List.set_cons_zero, List.set_cons_succ]
            refine wpAnyH_done (by kernel_rfl) ?_ _
            have HO7 := Lib.hid (show ∃ A c, Value.slice A4 (m + 1) c4 = .slice A (q.take m ++ [and3 b a]).length c ∧ World.ownsRow V4 W.heap.size 3 1 (.slice A (q.take m ++ [and3 b a]).length c) (q.take m ++ [and3 b a]).length ((q.take m ++ [and3 b a]).map (.int .i64)) from by
              have e : (q.take m ++ [and3 b a]).length = m + 1 := by simp; omega
              rw [e]
              exact ⟨A4, c4, rfl, by rw [List.map_append]; exact own_lowerS HC.out HBU.out.size⟩)
            have HB7 := Lib.hid (Btrans HBU.out hbX)
            have HE7 := Lib.hid (HEV.out.trans (step_and HLM.out rfl HM.out HBB.out HA2.out))
            clear hHeld dO
            try clear dO2
            go_wp2
            go_roundw
            case rel => exact ⟨j + 1, q.take m ++ [and3 b a], by omega, by simp; omega, by go_num, HB7.out, HE7.out, HO7.out⟩
            case measure => simp [intOf]; omega
          · have q3 : (op == 3) = false := beq_false_of_ne h3
            have H3 := Lib.hid h3
            clear h3
            go_wp2_with fail
            refine wp_world (fun V => Below W.heap.size W V ∧ World.ownsRow V W.heap.size 3 1 (.slice (some od) q.length oc) q.length (q.map (.int .i64))) ⟨HBU.out, HO.out⟩ fun U ⟨hbU, hoU⟩ => ?_
            clear HBU HO cB lB cT lT
            have HBU := Lib.hid hbU
            have HRU := Lib.hid (Row.of_own hoU)
            clear hbU hoU
            have HPRE := Lib.hid (row_pre HRU.out (k := m) (by omega))
            have HLP := Lib.hid (show ((q.take m).map (Value.int .i64)).length = m by simp; omega)
            have hbX := Below.refl U.heap.size U
            have dO : ∀ w', Below U.heap.size U w' → w'.cell? (od.add m) = some (.int .i64 b) := fun w' hb => row_c (HRU.out.below hb) HBB.out
            have dO2 : ∀ w', Below U.heap.size U w' → w'.cell? (od.add m1) = some (.int .i64 a) := fun w' hb => row_c (HRU.out.below hb) HA.out
            refine wp_region_held_drew (S := fun w' => Below U.heap.size U w') (by kernel_rfl) ((Below.refl _ _).drew) (fun hHeld => ?_)
            refine takeD 1 (some 102) (v := ?_) rfl rfl (by kernel_rfl) (by kernel_rfl) (by kernel_rfl) (fun _ _ _ h => h) (by rfl) ?_ (by assumption) ?_
            rotate_left
            · intro w hSw
              (try dsimp only at hSw)
              go_simp
              try with_reducible rfl
            try simp only [Act.put, List.setIfInBounds_toArray, List.set_cons_zero, List.set_cons_succ]
            refine takeD 2 (some 103) (v := ?_) rfl rfl (by kernel_rfl) (by kernel_rfl) (by kernel_rfl) (fun _ _ _ h => h) (by rfl) ?_ (by assumption) ?_
            rotate_left
            · intro w hSw
              (try dsimp only at hSw)
              go_simp
              try with_reducible rfl
            try simp only [Act.put, List.setIfInBounds_toArray, List.set_cons_zero, List.set_cons_succ]
            refine takeD 3 (some 104) (v := ?_) rfl rfl (by kernel_rfl) (by kernel_rfl) (by kernel_rfl) (fun _ _ _ h => h) (by rfl) ?_ (by assumption) ?_
            rotate_left
            · intro w hSw
              (try dsimp only at hSw)
              go_simp
              try with_reducible rfl
            try simp only [Act.put, List.setIfInBounds_toArray, List.set_cons_zero, List.set_cons_succ]
            refine takeD 4 (some 105) (v := ?_) rfl rfl (by kernel_rfl) (by kernel_rfl) (by kernel_rfl) (fun _ _ _ h => h) (by rfl) ?_ (by assumption) ?_
            rotate_left
            · intro w hSw
              (try dsimp only at hSw)
              go_simp
              try with_reducible rfl
            try simp only [Act.put, List.setIfInBounds_toArray, List.set_cons_zero, List.set_cons_succ]
            refine takeD 6 (some 107) (v := ?_) rfl rfl (by kernel_rfl) (by kernel_rfl) (by kernel_rfl) (fun _ _ _ h => h) (by rfl) ?_ (by assumption) ?_
            rotate_left
            · intro w hSw
              (try dsimp only at hSw)
              go_simp
              try with_reducible rfl
            try simp only [Act.put, List.setIfInBounds_toArray, List.set_cons_zero, List.set_cons_succ]
            refine takeD 7 (some 108) (v := ?_) rfl rfl (by kernel_rfl) (by kernel_rfl) (by kernel_rfl) (fun _ _ _ h => h) (by rfl) ?_ (by assumption) ?_
            rotate_left
            · intro w hSw
              (try dsimp only at hSw)
              go_simp
              try with_reducible rfl
            try simp only [Act.put, List.setIfInBounds_toArray, List.set_cons_zero, List.set_cons_succ]
            refine takeD 8 (some 109) (v := ?_) rfl rfl (by kernel_rfl) (by kernel_rfl) (by kernel_rfl) (fun _ _ _ h => h) (by rfl) ?_ (by assumption) ?_
            rotate_left
            · intro w hSw
              (try dsimp only at hSw)
              go_simp
              try with_reducible rfl
            try simp only [Act.put, List.setIfInBounds_toArray, List.set_cons_zero, List.set_cons_succ]
            refine takeD 9 (some 110) (v := ?_) rfl rfl (by kernel_rfl) (by kernel_rfl) (by kernel_rfl) (fun _ _ _ h => h) (by rfl) ?_ (by assumption) ?_
            rotate_left
            · intro w hSw
              (try dsimp only at hSw)
              go_simp
              try with_reducible rfl
            try simp only [Act.put, List.setIfInBounds_toArray, List.set_cons_zero, List.set_cons_succ]
            refine takeD 10 (some 111) (v := ?_) rfl rfl (by kernel_rfl) (by kernel_rfl) (by kernel_rfl) (fun _ _ _ h => h) (by rfl) ?_ (by assumption) ?_
            rotate_left
            · intro w hSw
              (try dsimp only at hSw)
              go_simp
              try with_reducible rfl
            try simp only [Act.put, List.setIfInBounds_toArray, List.set_cons_zero, List.set_cons_succ]
            refine takeD 11 (some 112) (v := ?_) rfl rfl (by kernel_rfl) (by kernel_rfl) (by kernel_rfl) (fun _ _ _ h => h) (by rfl) ?_ (by assumption) ?_
            rotate_left
            · intro w hSw
              (try dsimp only at hSw)
              go_simp
              try with_reducible rfl
            try simp only [Act.put, List.setIfInBounds_toArray, List.set_cons_zero, List.set_cons_succ]
            refine takeD 12 (some 113) (v := ?_) rfl rfl (by kernel_rfl) (by kernel_rfl) (by kernel_rfl) (fun _ _ _ h => h) (by rfl) ?_ (by assumption) ?_
            rotate_left
            · intro w hSw
              (try dsimp only at hSw)
              go_simp
              try with_reducible rfl
            try simp only [Act.put, List.setIfInBounds_toArray, List.set_cons_zero, List.set_cons_succ]
            refine takeD 13 (some 114) (v := ?_) rfl rfl (by kernel_rfl) (by kernel_rfl) (by kernel_rfl) (fun _ _ _ h => h) (by rfl) ?_ (by assumption) ?_
            rotate_left
            · intro w hSw
              (try dsimp only at hSw)
              go_simp
              try with_reducible rfl
            try simp only [Act.put, List.setIfInBounds_toArray, List.set_cons_zero, List.set_cons_succ]
            refine takeD 14 (some 115) (v := ?_) rfl rfl (by kernel_rfl) (by kernel_rfl) (by kernel_rfl) (fun _ _ _ h => h) (by rfl) ?_ (by assumption) ?_
            rotate_left
            · intro w hSw
              (try dsimp only at hSw)
              go_simp
              try with_reducible rfl
            try simp only [Act.put, List.setIfInBounds_toArray, List.set_cons_zero, List.set_cons_succ]
            refine takeD 15 (some 116) (v := ?_) rfl rfl (by kernel_rfl) (by kernel_rfl) (by kernel_rfl) (fun _ _ _ h => h) (by rfl) ?_ (by assumption) ?_
            rotate_left
            · intro w hSw
              (try dsimp only at hSw)
              go_simp
              try with_reducible rfl
            try simp only [Act.put, List.setIfInBounds_toArray, List.set_cons_zero, List.set_cons_succ]
            refine wpAnyH_ready (rs := [0]) (by kernel_rfl) (by simp) ?_
            refine AllReadyH.cons rfl (fun K hK => ?_) AllReadyH.nil
            rw [if_pos (by rfl)]
            go_simp
            refine nmW (fun V => Below U.heap.size U V ∧ World.ownsRow V U.heap.size 3 1 (.slice (some ⟨U.heap.size, 0, none⟩) 0 0) 0 []) ⟨(hbX.alloc hbX.size _).drew, World.ownsRow.drew (own_empty _ _ _ _ hbX.size rfl)⟩ fun V1 ⟨hbX2, qHC⟩ => ?_
            have hbX := hbX2
            clear hbX2
            have HC := Lib.hid qHC
            clear qHC
            have hS := hbX
            refine hK.out _ _ ?_ (fun hHeld2 => ?_)
            · clear hK; exact hS
            clear hK K hHeld hS
            have hHeld := hHeld2
            clear hHeld2
            try simp only [Act.put, List.setIfInBounds_toArray, List.set_cons_zero, List.set_cons_succ]
            refine wpAnyH_ready (rs := [5]) (by kernel_rfl) (by simp) ?_
            refine AllReadyH.cons rfl (fun K hK => ?_) AllReadyH.nil
            rw [if_pos (by rfl)]
            refine wp_app el64 (.tmp 101) (.tmp 105) rfl U.heap.size (.slice (some ⟨U.heap.size, 0, none⟩) 0 0) 0 [] rfl HC.out _ ((q.take m).map (Value.int .i64)) rfl (HPRE.out.below hbX) (one_ints _ _) (by rw [HLP.out]; unfold maxLen; omega) (by rw [HLP.out]; omega) hbX.size ?_
            intro v2 V2 hO hg hor
            rw [HLP.out] at hO
            have hbX2 := below_app hbX hbX.size HC.out hg (Nat.le_refl _)
            rw [Nat.zero_add, List.nil_append] at hO
            clear HC
            have HC := Lib.hid hO
            clear hO hg hor hbX
            have hbX := hbX2
            clear hbX2
            have hS := hbX
            refine hK.out _ _ ?_ (fun hHeld2 => ?_)
            · clear hK; exact hS
            clear hK K hHeld hS
            have hHeld := hHeld2
            clear hHeld2
            try simp only [Act.put, List.setIfInBounds_toArray, List.set_cons_zero, List.set_cons_succ]
            refine wpAnyH_ready (rs := [16]) (by kernel_rfl) (by simp) ?_
            refine AllReadyH.cons rfl (fun K hK => ?_) AllReadyH.nil
            rw [if_pos (by rfl)]
            go_simp
            go_at_call 21
            refine (ror_any b a _).mono ?_
            rintro e u ⟨rfl, rfl⟩
            have hS := hbX
            go_wp2_with fail
            refine hK.out _ _ ?_ (fun hHeld2 => ?_)
            · clear hK; exact hS
            clear hK K hHeld hS
            have hHeld := hHeld2
            clear hHeld2
            try simp only [Act.put, List.setIfInBounds_toArray, List.set_cons_zero, List.set_cons_succ]
            refine wpAnyH_ready (rs := [17]) (by kernel_rfl) (by simp) ?_
            refine AllReadyH.cons rfl (fun K hK => ?_) AllReadyH.nil
            rw [if_pos (by rfl)]
            go_simp
            refine nmW (fun V => Below U.heap.size U V ∧ World.ownsRow V U.heap.size 3 1 v2 m ((q.take m).map (.int .i64)) ∧ Blk V V2.heap.size 3 #[.int .i64 (or3 b a)]) ⟨hbX.alloc hbX.size _, own_below HC.out ((Below.refl _ _).alloc (Nat.le_refl _) _), Blk.new _ _ _ _ rfl⟩ fun V3 ⟨hbX2, qHC, qHN⟩ => ?_
            clear HC hbX
            have hbX := hbX2
            clear hbX2
            have HC := Lib.hid qHC
            have HN := Lib.hid qHN
            clear qHC qHN
            have hS := hbX
            refine hK.out _ _ ?_ (fun hHeld2 => ?_)
            · clear hK; exact hS
            clear hK K hHeld hS
            have hHeld := hHeld2
            clear hHeld2
            try simp only [Act.put, List.setIfInBounds_toArray, List.set_cons_zero, List.set_cons_succ]
            refine wpAnyH_ready (rs := [18]) (by kernel_rfl) (by simp) ?_
            refine AllReadyH.cons rfl (fun K hK => ?_) AllReadyH.nil
            rw [if_pos (by rfl)]
            refine wp_app el64 (.tmp 106) (.tmp 118) rfl U.heap.size v2 m ((q.take m).map (Value.int .i64)) rfl HC.out _ [Value.int .i64 (or3 b a)] rfl (Row.of_block HN.out rfl rfl (Nat.le_refl _) (by decide)) (one_ints _ [or3 b a]) (by rw [show ([Value.int IntKind.i64 (or3 b a)] : List Value).length = 1 from rfl]; unfold maxLen; omega) (by rw [show ([Value.int IntKind.i64 (or3 b a)] : List Value).length = 1 from rfl]; omega) hbX.size ?_
            intro v3 V4 hO hg hor
            rw [show ([Value.int IntKind.i64 (or3 b a)] : List Value).length = 1 from rfl] at hO
            have hbX2 := below_app hbX hbX.size HC.out hg (Nat.le_refl _)
            obtain ⟨A4, c4, rfl⟩ := own_shape hO
            clear HC HN
            have HC := Lib.hid hO
            clear hO hg hor hbX
            have hbX := hbX2
            clear hbX2
            have hS := hbX
            refine hK.out _ _ ?_ (fun hHeld2 => ?_)
            · clear hK; exact hS
            clear hK K hHeld hS
            have hHeld := hHeld2
            clear hHeld2
            try simp only [Act.put, List.setIfInBounds_toArray, List.set_cons_zero, List.set_cons_succ]
            refine takeD 19 (some 5) (v := ?_) rfl rfl (by kernel_rfl) (by kernel_rfl) (by kernel_rfl) (fun _ _ _ h => h) (by rfl) ?_ (by assumption) ?_
            rotate_left
            · intro w hSw
              (try dsimp only at hSw)
              go_simp
              try with_reducible rfl
            try simp only [Act.put, List.setIfInBounds_toArray, List.set_cons_zero, List.set_cons_succ]
            refine wpAnyH_done (by kernel_rfl) ?_ _
            have HO7 := Lib.hid (show ∃ A c, Value.slice A4 (m + 1) c4 = .slice A (q.take m ++ [or3 b a]).length c ∧ World.ownsRow V4 W.heap.size 3 1 (.slice A (q.take m ++ [or3 b a]).length c) (q.take m ++ [or3 b a]).length ((q.take m ++ [or3 b a]).map (.int .i64)) from by
              have e : (q.take m ++ [or3 b a]).length = m + 1 := by simp; omega
              rw [e]
              exact ⟨A4, c4, rfl, by rw [List.map_append]; exact own_lowerS HC.out HBU.out.size⟩)
            have HB7 := Lib.hid (Btrans HBU.out hbX)
            have HE7 := Lib.hid (HEV.out.trans (step_or HLM.out H5.out H3.out HM.out HBB.out HA2.out))
            clear hHeld dO
            try clear dO2
            go_wp2
            go_roundw
            case rel => exact ⟨j + 1, q.take m ++ [or3 b a], by omega, by simp; omega, by go_num, HB7.out, HE7.out, HO7.out⟩
            case measure => simp [intOf]; omega
    · obtain rfl : j = l.length := by omega
      rw [List.take_length] at hevj
      obtain ⟨x, hx, hs⟩ := said_some (g := gOf cs) HVN.out
      rw [hx] at hevj
      injection hevj with hevj
      obtain rfl : q = [x] := by
        have := congrArg List.reverse hevj
        rw [List.reverse_reverse] at this
        exact this.symm
      have HRO := Lib.hid (Row.of_own hro)
      have HX := Lib.hid (show saysR l cs = x by unfold saysR; rw [hs])
      have HFI := Lib.hid (Btrans HW.out hbj)
      obtain ⟨od, rfl⟩ : ∃ od, OA = some od := by
        obtain ⟨_, hh⟩ := hro
        rcases hh with ⟨_, h0⟩ | ⟨g, cap, cur, e, _⟩
        · simp at h0
        · injection e with e; exact ⟨_, e⟩
      have cO : wr.cell? od = some (.int .i64 x) := by
        have := row_c (k := 0) (x := x) HRO.out rfl
        simpa [Addr.add] using this
      have cB := (HBW0.out.below hbj).cells
      have lB := (HBW0.out.below hbj).lt
      clear hro hbj hx hs hevj
      go_wp2
      go_ret
      exact ⟨by rw [HX.out]; first | rfl | simp, HFI.out⟩
end Go.Proofs.Ytkipocfdgekkfaa
