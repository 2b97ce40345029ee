/- Layer 18: what is known stays known. -/
import Derived.Test.YtkipocfdgekkfaaRuleI
import Derived.StillTailTactics
namespace Go.Proofs.Ytkipocfdgekkfaa
open Go.ChangeShapes Go.WideShapes Go.ChangeAt Go.RowKit
set_option linter.unusedVariables false
set_option linter.unusedSimpArgs false

def Hd : Prop := ∀ w : World, Calls Try.prog 9 #[] w fun e w' => e = .returned (.bool true) ∧ Below w.heap.size w w'
/-- a place of a row, behind one new block -/
theorem Row.at_new {w : World} {v : Value} {xs : List Value} (h : Row w v xs) {k : Nat} {x : Value} (hx : xs[k]? = some x) :
    ∃ ad c, v = .slice (some ad) xs.length c ∧ w.cell? (ad.add k) = some x ∧ ∀ o, (w.alloc o).cell? (ad.add k) = some x := by
  obtain ⟨A, c, rfl, hc, hm, hA⟩ := h
  have hk := lt_of_get hx
  rcases hA with ⟨_, h0⟩ | ⟨ad, rfl, hb, hcell⟩
  · omega
  · refine ⟨ad, c, rfl, hcell k x hx, fun o => ?_⟩
    rw [World.cell?_alloc_lt w o _ (by rw [block_add]; exact hb (by omega))]
    exact hcell k x hx
theorem Row.shape {w : World} {v : Value} {xs : List Value} (h : Row w v xs) : ∃ A c, v = .slice A xs.length c ∧ xs.length ≤ c ∧ c ≤ maxLen := by
  obtain ⟨A, c, e, hc, hm, _⟩ := h
  exact ⟨A, c, e, hc, hm⟩

def fill (cs : List Cl) (l : List Int) (i : Nat) : Cl := if (cs.getD i (0, 0, 0)).1 = 1 then cs.getD i (0, 0, 0) else (1, l.getD i 0, (i : Int))
def fillL (cs : List Cl) (l : List Int) (n : Nat) : List Cl := (List.range n).map (fill cs l)
theorem fillL_len (cs : List Cl) (l : List Int) (n : Nat) : (fillL cs l n).length = n := by simp [fillL]
theorem fillL_step (cs : List Cl) (l : List Int) (n : Nat) : fillL cs l (n + 1) = fillL cs l n ++ [fill cs l n] := by simp [fillL, List.range_succ]
theorem fillL_at (cs : List Cl) (l : List Int) (n i : Nat) (h : i < n) : (fillL cs l n).getD i (0, 0, 0) = fill cs l i := by
  rw [List.getD_eq_getElem?_getD]
  simp [fillL, h]
theorem fill_kind (cs : List Cl) (l : List Int) (i : Nat) : (fill cs l i).1 = 1 := by
  unfold fill
  split
  · assumption
  · rfl
theorem known_says {l : List T} {cs : List Cl} (li : List Int) (htr : ∀ t ∈ l, tRight t (cs.length : Int) = true) (hev : evalN l 0 = some 1) :
    (saysR l cs = 3 ∨ saysR l cs = saysR l (fillL cs li cs.length)) ∧ Kn (saysR l (fillL cs li cs.length)) ∧ Tr (saysR l cs) := by
  obtain ⟨x, hx, hx2⟩ := said_some (g := gOf cs) hev
  obtain ⟨y, hy, hy2⟩ := said_some (g := gOf (fillL cs li cs.length)) hev
  have hle : ∀ t ∈ l, isLim t = true → le3 (gOf cs t) (gOf (fillL cs li cs.length) t) := by
    intro t ht hl
    obtain ⟨h1, h2⟩ := tright_ch (htr t ht) hl
    unfold gOf
    rw [fillL_at _ _ _ _ (by omega)]
    by_cases hk : (cs.getD t.2.1.toNat (0, 0, 0)).1 = 1
    · right
      unfold fill
      rw [if_pos hk]
    · left
      exact lim_unknown _ _ hk
  have hkn : ∀ t ∈ l, isLim t = true → Kn (gOf (fillL cs li cs.length) t) := by
    intro t ht hl
    obtain ⟨h1, h2⟩ := tright_ch (htr t ht) hl
    unfold gOf
    rw [fillL_at _ _ _ _ (by omega)]
    exact lim_kn _ _ (fill_kind _ _ _)
  obtain ⟨q, hq, hq2⟩ := eval_mono _ _ l hle [] [] trivial [x] hx
  rw [hy] at hq
  injection hq with hq
  subst hq
  refine ⟨?_, ?_, says_tr cs hev⟩
  · unfold saysR
    rw [hx2, hy2]
    exact hq2.1
  · unfold saysR
    rw [hy2]
    exact eval_all Kn _ l kn_not kn_and kn_or hkn [] [y] (by simp) hy y (by simp)
theorem c3c_app (l m : List Cl) : c3c (l ++ m) = c3c l ++ c3c m := by simp [c3c]
theorem c3c_one (l : List Cl) : ∀ u ∈ c3c l, u.oneCell' = true := by
  intro u hu
  obtain ⟨a, _, h⟩ := List.mem_flatMap.1 hu
  simp only [List.mem_cons, List.not_mem_nil, or_false] at h
  rcases h with rfl | rfl | rfl <;> rfl
theorem elC : Elem Try.prog 25 35 3 24 := Elem.mk' (z := .agg #[.int .i64 0, .int .i64 0, .int .i64 0]) (by kernel_rfl) (by kernel_rfl) rfl (by decide)
set_option maxRecDepth 100000 in
set_option maxHeartbeats 8000000 in
theorem walkH_RuleKnown (hd : Hd) (v : Value) (z : Int × Bool × List T) (vc : Value) (cs : List Cl) (vl : Value) (li : List Int) (w : World) (h0 : RuleV w v z) (h1 : CellsV w vc cs) (h2 : Ints .i64 w vl li) :
    Calls Try.prog 4 #[v, vc, vl] w fun e w' => e = .returned (.bool true) ∧ Below w.heap.size w w' := by
  obtain ⟨hold, latch, l⟩ := z
  obtain ⟨A, rc, rfl, hrow⟩ := h0.ex
  obtain ⟨CA, cc, rfl, hcr⟩ := h1
  have HROW := Lib.hid hrow
  have HC := Lib.hid hcr
  clear h0 hrow hcr
  obtain ⟨LA, lc, hve, _, _⟩ := h2.1.shape
  rw [List.length_map] at hve
  subst hve
  have HLI := Lib.hid h2.1
  clear h2
  go_enter Try.func4, Try.ntmps4
  go_wp2_with fail
  refine calls_world (fun W => Below w.heap.size w W ∧ Blk W w.heap.size 24 #[.slice A l.length rc, .int .i64 hold, .bool latch]) ⟨by go_grown, Blk.new _ _ _ _ rfl⟩ fun W1 ⟨hb1, hB1⟩ => ?_
  have HB1 := Lib.hid hB1
  clear hB1
  refine (hd W1).mono ?_
  rintro e W2 ⟨rfl, hk⟩
  have hb2 := Btrans hb1 hk
  have HB2 := Lib.hid (HB1.out.below hk)
  have cB := HB2.out.cells
  have lB := HB2.out.lt
  clear hk hb1 HB1
  go_wp2_with fail
  refine (good_any _ _ (hold, latch, l) cs _ ⟨A, rc, rfl, HROW.out.below hb2⟩ ⟨CA, cc, rfl, HC.out.below hb2⟩).mono ?_
  rintro e W3 ⟨rfl, hk⟩
  have hb3 := Btrans hb2 hk
  have HB3 := Lib.hid (HB2.out.below hk)
  clear hk hb2 HB2 cB lB
  have cB := HB3.out.cells
  have lB := HB3.out.lt
  obtain ⟨gd, hgd⟩ : ∃ b, b = goodB (hold, latch, l) cs := ⟨_, rfl⟩
  rw [← hgd]
  cases gd with
  | false =>
    clear hgd
    go_wp2
    go_ret
    exact ⟨by first | rfl | simp, hb3⟩
  | true =>
    obtain ⟨hl16, hl1, hcs, hrb, htr, hev⟩ := good_facts hgd.symm
    dsimp only at hl16 hl1 hrb htr hev
    have HRB := Lib.hid hrb
    have HTR := Lib.hid htr
    have HEV := Lib.hid hev
    clear hgd hrb htr hev
    by_cases hsh : li.length < cs.length
    · have g1 : decide (((li.length : Nat) : Int) < (cs.length : Int)) = true := decide_eq_true (by omega)
      go_wp2
      go_ret
      exact ⟨by first | rfl | simp, hb3⟩
    have g1 : decide (((li.length : Nat) : Int) < (cs.length : Int)) = false := decide_eq_false (by omega)
    go_wp2_with fail
    refine wp_world (fun W => Below w.heap.size w W ∧ Blk W w.heap.size 24 #[.slice A l.length rc, .int .i64 hold, .bool latch]) ⟨hb3, HB3.out⟩ fun WA ⟨hbA, hBA⟩ => ?_
    have HBA := Lib.hid hBA
    have hzA := hbA.size
    clear hBA HB3 hb3 cB lB g1
    go_loopw [8, 9] (fun vm i wr => ∃ j : Nat, j ≤ cs.length ∧ i = .int .i64 j ∧ Below WA.heap.size WA wr ∧ World.ownsRow wr WA.heap.size 35 3 vm j (c3c (fillL cs li j))) (fun _ i _ => cs.length - (intOf i).toNat)
    case atStart => exact ⟨0, by omega, rfl, Below.refl _ _, own_nilN _ _⟩
    case round =>
      obtain ⟨j, hj, rfl, hbj, hown⟩ := hrel
      have HO := Lib.hid hown
      have hzj := hbj.size
      have hbw := Btrans hbA hbj
      clear hown
      by_cases hlt : j < cs.length
      · obtain ⟨a, ha⟩ : ∃ a, cs[j]? = some a := ⟨_, List.getElem?_eq_getElem hlt⟩
        obtain ⟨ad, rfl, had, c0, c1, c2⟩ := row3_at (HC.out.below hbw) ha
        have hgd : cs.getD j (0, 0, 0) = a := by rw [List.getD_eq_getElem?_getD, ha]; rfl
        have hjl : (j : Int) < (cs.length : Int) := by omega
        have HST := Lib.hid (fillL_step cs li j)
        have d0 : ∀ o, (wr.alloc o).cell? (ad.add (j * 3)) = some (.int .i64 a.1) := fun o => by rw [World.cell?_alloc_lt wr o _ (by rw [block_add]; exact had)]; exact c0
        by_cases hk : a.1 = 1
        · have q1 : (a.1 == 1) = true := by rw [beq_iff_eq]; exact hk
          have HF := Lib.hid (show fill cs li j = a by unfold fill; rw [hgd, if_pos hk])
          have HK := Lib.hid hk
          clear hk hgd ha
          go_wp2_with (at_builtin; refine wpList_appN elC rfl (.tmp 37) (.tmp 42) rfl WA.heap.size _ j _ rfl (own_below HO.out (by go_grown)) _ 1 (c3c [a]) rfl (RowN.of_blk (Blk.new _ _ _ _ (by first | rfl | simp)) rfl rfl (Nat.le_refl _) (by decide)) (c3c_one _) ?_ ?_ ?_ ?_)
          case refine_1 => unfold maxLen; omega
          case refine_2 => omega
          case refine_3 => simp; omega
          intro v7 w7 own7 hg7 _
          have hb7 : Below WA.heap.size WA w7 := hbj.trans (below_app ((Below.refl WA.heap.size wr).alloc (by omega) _) (by simp; omega) (own_below HO.out ((Below.refl _ _).alloc (Nat.le_refl _) _)) hg7 (Nat.le_refl _))
          rw [← c3c_app] at own7
          have HO7 := Lib.hid (show w7.ownsRow WA.heap.size 35 3 v7 (j + 1) (c3c (fillL cs li (j + 1))) by rw [HST.out, HF.out]; exact own7)
          clear own7 hg7 d0 c0 c1 c2
          go_wp2
          go_roundw
          case rel => exact ⟨j + 1, by omega, by go_num, hb7, HO7.out⟩
          case measure => simp [intOf]; omega
        · have q1 : (a.1 == 1) = false := beq_false_of_ne hk
          obtain ⟨y, hy⟩ : ∃ y, li[j]? = some y := ⟨_, List.getElem?_eq_getElem (by omega)⟩
          obtain ⟨ld, lc2, e1, hcy, hcy2⟩ := (HLI.out.below hbw).at_new (show (li.map (Value.int .i64))[j]? = some (.int .i64 y) by rw [List.getElem?_map, hy]; rfl)
          obtain ⟨rfl, -⟩ : LA = some ld ∧ True := by injection e1 with e1; exact ⟨e1, trivial⟩
          have hjy : (j : Int) < (li.length : Int) := by omega
          have HF := Lib.hid (show fill cs li j = (1, y, (j : Int)) by unfold fill; rw [hgd, if_neg hk, List.getD_eq_getElem?_getD, hy]; rfl)
          clear hk hgd ha hy e1
          go_wp2_with (at_builtin; refine wpList_appN elC rfl (.tmp 44) (.tmp 51) rfl WA.heap.size _ j _ rfl (own_below HO.out (by go_grown)) _ 1 (c3c [(1, y, (j : Int))]) rfl (RowN.of_blk (Blk.new _ _ _ _ (by first | rfl | simp)) rfl rfl (Nat.le_refl _) (by decide)) (c3c_one _) ?_ ?_ ?_ ?_)
          case refine_1 => unfold maxLen; omega
          case refine_2 => omega
          case refine_3 => simp; omega
          intro v7 w7 own7 hg7 _
          have hb7 : Below WA.heap.size WA w7 := hbj.trans (below_app ((Below.refl WA.heap.size wr).alloc (by omega) _) (by simp; omega) (own_below HO.out ((Below.refl _ _).alloc (Nat.le_refl _) _)) hg7 (Nat.le_refl _))
          rw [← c3c_app] at own7
          have HO7 := Lib.hid (show w7.ownsRow WA.heap.size 35 3 v7 (j + 1) (c3c (fillL cs li (j + 1))) by rw [HST.out, HF.out]; exact own7)
          clear own7 hg7 d0 c0 c1 c2 hcy hcy2
          go_wp2
          go_roundw
          case rel => exact ⟨j + 1, by omega, by go_num, hb7, HO7.out⟩
          case measure => simp [intOf]; omega
      · have he : j = cs.length := by omega
        obtain ⟨K1, K2, K3⟩ := known_says li HTR.out HEV.out
        have HK := Lib.hid (And.intro K1 (And.intro K2 K3))
        have HBj := Lib.hid (HBA.out.below hbj)
        obtain ⟨MA, mc, rfl⟩ := own_shape HO.out
        have cB := HBj.out.cells
        have lB := HBj.out.lt
        have hfl := fillL_len cs li cs.length
        have HM := Lib.hid (show RowN 3 wr (.slice MA (fillL cs li cs.length).length mc) (fillL cs li cs.length).length (c3c (fillL cs li cs.length)) by rw [hfl]; have := RowN.of_own HO.out; rw [he] at this; exact this)
        have HFL := Lib.hid hfl
        clear K1 K2 K3 hfl HO hlt
        go_wp2_with fail
        refine (says_any _ hold latch l CA cc cs _ ⟨A, rc, rfl, HROW.out.below hbw⟩ (HC.out.below hbw) HTR.out (by omega)).mono ?_
        rintro e W5 ⟨rfl, hk⟩
        have hb5 := Btrans hbw hk
        have HB5 := Lib.hid (HBj.out.below hk)
        have HM5 := Lib.hid (HM.out.below hk)
        clear cB lB hk HBj HM
        have cB := HB5.out.cells
        have lB := HB5.out.lt
        rw [he]
        clear he
        go_wp2_with fail
        have hsl : Value.slice MA cs.length mc = Value.slice MA (fillL cs li cs.length).length mc := by rw [HFL.out]
        rw [hsl]
        refine (says_any _ hold latch l MA mc (fillL cs li cs.length) _ ⟨A, rc, rfl, HROW.out.below hb5⟩ HM5.out (by rw [HFL.out]; exact HTR.out) (by omega)).mono ?_
        rintro e W6 ⟨rfl, hk⟩
        have hb6 := Btrans hb5 hk
        clear hk cB lB hsl
        obtain ⟨K1, K2, K3⟩ := HK.out
        clear HK
        generalize saysR l (fillL cs li cs.length) = b at *
        generalize saysR l cs = a at *
        rcases K2 with rfl | rfl
        · rcases K1 with rfl | rfl
          · go_wp2
            go_ret
            exact ⟨by first | rfl | simp, hb6⟩
          · go_wp2
            go_ret
            exact ⟨by first | rfl | simp, hb6⟩
        · rcases K1 with rfl | rfl
          · go_wp2
            go_ret
            exact ⟨by first | rfl | simp, hb6⟩
          · go_wp2
            go_ret
            exact ⟨by first | rfl | simp, hb6⟩
end Go.Proofs.Ytkipocfdgekkfaa
