/- Layer 18: rules joined. -/
import Derived.Test.YtkipocfdgekkfaaRuleU
import Derived.Test.YtkipocfdgekkfaaRuleK
import Derived.Test.YtkipocfdgekkfaaKthreeN
import Derived.StillTailTactics
namespace Go.Proofs.Ytkipocfdgekkfaa
open Go.ChangeShapes Go.WideShapes Go.ChangeAt Go.RowKit
set_option linter.unusedVariables false
set_option linter.unusedSimpArgs false

theorem isrule_ofJ {w : World} {A : Option Addr} {c n : Nat} {hold : Int} {latch : Bool} {l : List T} (hn : l.length = n) (h : RowN 3 w (.slice A n c) n (c3c l)) : IsRule w (.agg #[.slice A n c, .int .i64 hold, .bool latch]) hold latch l := by
  subst hn
  exact ⟨A, c, rfl, h⟩
theorem evalN_snocJ (l : List T) (t : T) : evalN (l ++ [t]) 0 = (evalN l 0).bind (stepN t) := by
  rw [evalN_app]
  cases evalN l 0 with
  | none => rfl
  | some p =>
    show (stepN t p).bind (evalN []) = stepN t p
    cases stepN t p <;> rfl
theorem join_n {la lb : List T} (ha : evalN la 0 = some 1) (hb : evalN lb 0 = some 1) {op : Int} (h : op = 3 ∨ op = 4) : evalN (la ++ lb ++ [(op, 0, 0)]) 0 = some 1 := by
  rw [evalN_snocJ, evalN_app, ha]
  show (evalN lb 1).bind _ = _
  rw [show evalN lb 1 = some 2 from evalN_frame lb 1 hb]
  rcases h with rfl | rfl <;> rfl
theorem all_app {n : Int} {la lb : List T} {t : T} (ha : ∀ x ∈ la, tRight x n = true) (hb : ∀ x ∈ lb, tRight x n = true) (ht : tRight t n = true) : ∀ x ∈ la ++ lb ++ [t], tRight x n = true := by
  intro x hx
  rcases List.mem_append.1 hx with hx | hx
  · rcases List.mem_append.1 hx with hx | hx
    · exact ha x hx
    · exact hb x hx
  · rw [List.mem_singleton.1 hx]; exact ht
theorem all_one {n : Int} {la : List T} {t : T} (ha : ∀ x ∈ la, tRight x n = true) (ht : tRight t n = true) : ∀ x ∈ la ++ [t], tRight x n = true := by
  intro x hx
  rcases List.mem_append.1 hx with hx | hx
  · exact ha x hx
  · rw [List.mem_singleton.1 hx]; exact ht
theorem op_right (n : Int) : tRight (3, 0, 0) n = true ∧ tRight (4, 0, 0) n = true ∧ tRight (5, 0, 0) n = true := ⟨rfl, rfl, rfl⟩
theorem rule_iff {hold n : Int} {l : List T} (h1 : 1 ≤ hold ∧ hold ≤ 1000) (h0 : 1 ≤ l.length) (hr : ∀ t ∈ l, tRight t n = true) (he : evalN l 0 = some 1) : ruleB hold l n = decide (l.length ≤ 16) := by
  unfold ruleB
  rw [he, List.all_eq_true.2 hr, Bool.and_true, decide_eq_true rfl, Bool.and_true]
  by_cases h : l.length ≤ 16
  · rw [decide_eq_true h, decide_eq_true ⟨h1.1, h1.2, h0, h⟩]
  · rw [decide_eq_false h, decide_eq_false (fun e => h e.2.2.2)]
theorem join_rule {ha n : Int} {la lb : List T} (h1 : 1 ≤ ha ∧ ha ≤ 1000) (hra : ∀ x ∈ la, tRight x n = true) (hrb : ∀ x ∈ lb, tRight x n = true) (ea : evalN la 0 = some 1) (eb : evalN lb 0 = some 1) : ruleB ha (la ++ lb ++ [(3, 0, 0)]) n = decide (la.length + lb.length + 1 ≤ 16) := by
  rw [rule_iff h1 (by simp; omega) (all_app hra hrb (op_right n).1) (join_n ea eb (.inl rfl))]
  simp [Nat.add_assoc]
theorem not_rule {ha n : Int} {la : List T} (h1 : 1 ≤ ha ∧ ha ≤ 1000) (hra : ∀ x ∈ la, tRight x n = true) (ea : evalN la 0 = some 1) : ruleB ha (la ++ [(5, 0, 0)]) n = decide (la.length + 1 ≤ 16) := by
  rw [rule_iff h1 (by simp) (all_one hra (op_right n).2.2) (by rw [evalN_snocJ, ea]; rfl)]
  simp
theorem and_swap (a b : Int) : and3 a b = and3 b a := by unfold and3; (repeat' split) <;> omega
theorem or_swap (a b : Int) : or3 a b = or3 b a := by unfold or3; (repeat' split) <;> omega
theorem join_says {la lb : List T} (cs : List Cl) (ea : evalN la 0 = some 1) (eb : evalN lb 0 = some 1) : saysR (la ++ lb ++ [(3, 0, 0)]) cs = and3 (saysR la cs) (saysR lb cs) ∧ saysR (la ++ lb ++ [(4, 0, 0)]) cs = or3 (saysR la cs) (saysR lb cs) := by
  obtain ⟨x, hx, hsx⟩ := said_some (g := gOf cs) ea
  obtain ⟨y, hy, hsy⟩ := said_some (g := gOf cs) eb
  have e : ∀ t, evalP (gOf cs) (la ++ lb ++ [t]) [] = (stepP (gOf cs) t [y, x]).bind (evalP (gOf cs) []) := by
    intro t
    rw [evalP_app, evalP_app, hx]
    show ((evalP (gOf cs) lb [x]).bind _) = _
    rw [show evalP (gOf cs) lb [x] = some [y, x] from eval_frame (gOf cs) lb [x] hy]
    rfl
  constructor
  · unfold saysR
    rw [hsx, hsy]
    unfold saidO
    rw [e]
    show and3 y x = and3 x y
    exact and_swap y x
  · unfold saysR
    rw [hsx, hsy]
    unfold saidO
    rw [e]
    show or3 y x = or3 x y
    exact or_swap y x
theorem not_says {la : List T} (cs : List Cl) (ea : evalN la 0 = some 1) : saysR (la ++ [(5, 0, 0)]) cs = not3 (saysR la cs) := by
  obtain ⟨x, hx, hsx⟩ := said_some (g := gOf cs) ea
  unfold saysR
  rw [hsx]
  unfold saidO
  rw [evalP_app, hx]
  rfl
theorem joinedZ_any (va : Value) (ha op : Int) (lata : Bool) (la : List T) (w : World) (h0 : IsRule w va ha lata la) (hla : la.length ≤ 1000) :
    Calls Try.prog 18 #[va, .agg #[.slice none 0 0, .int .i64 0, .bool false], .int .i64 op] w fun e w' => (∃ A c, e = .returned (.agg #[.slice A (la.length + 1) c, .int .i64 ha, .bool false]) ∧ RowN 3 w' (.slice A (la.length + 1) c) (la.length + 1) (c3c (la ++ [(op, 0, 0)]))) ∧ Below w.heap.size w w' := by
  refine (joined_any va _ ha 0 op lata false la [] w h0 ⟨none, 0, rfl, RowN.nil_⟩ hla (by simp)).mono ?_
  rintro e w' ⟨⟨A, c, he, hr⟩, hb⟩
  refine ⟨⟨A, c, he, ?_⟩, hb⟩
  rw [List.append_nil] at hr
  exact hr
set_option maxRecDepth 100000 in
set_option maxHeartbeats 16000000 in
theorem walkH_RuleJoined (hd : Hd) (v : Value) (z : Int × Bool × List T) (v1 : Value) (z1 : Int × Bool × List T) (vc : Value) (cs : List Cl) (w : World) (h0 : RuleV w v z) (h1 : RuleV w v1 z1) (h2 : CellsV w vc cs) :
    Calls Try.prog 6 #[v, v1, vc] w fun e w' => e = .returned (.bool true) ∧ Below w.heap.size w w' := by
  obtain ⟨ha, lata, la⟩ := z
  obtain ⟨hb, latb, lb⟩ := z1
  obtain ⟨A, ra, rfl, hra⟩ := h0.ex
  obtain ⟨B, rb, rfl, hrb⟩ := h1.ex
  obtain ⟨CA, cc, rfl, hcr⟩ := h2
  have HRA := Lib.hid hra
  have HRB := Lib.hid hrb
  have HC := Lib.hid hcr
  clear h0 h1 hra hrb hcr
  go_enter Try.func6, Try.ntmps6
  go_wp2_with fail
  refine calls_world (fun W1 => Below w.heap.size w W1 ∧ Blk W1 w.heap.size 24 #[.slice A la.length ra, .int .i64 ha, .bool lata] ∧ Blk W1 (w.heap.size + 1) 24 #[.slice B lb.length rb, .int .i64 hb, .bool latb]) ⟨(by go_grown), ((Blk.new _ _ _ _ (by first | rfl | simp)).al _), (Blk.new _ _ _ _ (by first | rfl | simp))⟩ fun W1 ⟨hb1, qA, qB⟩ => ?_
  have A1 := Lib.hid qA
  have B1 := Lib.hid qB
  (try clear cA); (try clear lA); (try clear dA); (try clear cB); (try clear lB); (try clear dB)
  clear qA qB
  refine (hd _).mono ?_
  rintro e W2 ⟨rfl, hk⟩
  have hb2 := hb1.trans (hk.mono hb1.size)
  have A2 := Lib.hid (A1.out.below hk)
  have B2 := Lib.hid (B1.out.below hk)
  (try clear cA); (try clear lA); (try clear dA); (try clear cB); (try clear lB); (try clear dB)
  clear hk A1 B1 hb1
  have cA := A2.out.cells
  have lA := A2.out.lt
  have cB := B2.out.cells
  have lB := B2.out.lt
  go_wp2_with fail
  refine (good_any _ _ (ha, lata, la) cs _ ⟨A, ra, rfl, HRA.out.below hb2⟩ ⟨CA, cc, rfl, HC.out.below hb2⟩).mono ?_
  rintro e W3 ⟨rfl, hk⟩
  have hb3 := hb2.trans (hk.mono hb2.size)
  have A3 := Lib.hid (A2.out.below hk)
  have B3 := Lib.hid (B2.out.below hk)
  (try clear cA); (try clear lA); (try clear dA); (try clear cB); (try clear lB); (try clear dB)
  clear hk A2 B2 hb2
  have cA := A3.out.cells
  have lA := A3.out.lt
  have cB := B3.out.cells
  have lB := B3.out.lt
  obtain ⟨gd1, hgd1⟩ : ∃ b, b = goodB (ha, lata, la) cs := ⟨_, rfl⟩
  rw [← hgd1]
  cases gd1 with
  | false =>
    clear hgd1
    go_wp2
    go_ret
    exact ⟨by first | rfl | simp, hb3⟩
  | true =>
    obtain ⟨hl161, hl11, hcs1, hrb1, htr1, hev1⟩ := good_facts hgd1.symm
    dsimp only at hl161 hl11 hrb1 htr1 hev1
    have HTR1 := Lib.hid htr1
    have HEV1 := Lib.hid hev1
    have HHO1 := Lib.hid (rule_n hrb1).1
    clear hgd1 hrb1 htr1 hev1
    go_wp2_with fail
    refine (good_any _ _ (hb, latb, lb) cs _ ⟨B, rb, rfl, HRB.out.below hb3⟩ ⟨CA, cc, rfl, HC.out.below hb3⟩).mono ?_
    rintro e W4 ⟨rfl, hk⟩
    have hb4 := hb3.trans (hk.mono hb3.size)
    have A4 := Lib.hid (A3.out.below hk)
    have B4 := Lib.hid (B3.out.below hk)
    (try clear cA); (try clear lA); (try clear dA); (try clear cB); (try clear lB); (try clear dB)
    clear hk A3 B3 hb3
    have cA := A4.out.cells
    have lA := A4.out.lt
    have cB := B4.out.cells
    have lB := B4.out.lt
    obtain ⟨gd2, hgd2⟩ : ∃ b, b = goodB (hb, latb, lb) cs := ⟨_, rfl⟩
    rw [← hgd2]
    cases gd2 with
    | false =>
      clear hgd2
      go_wp2
      go_ret
      exact ⟨by first | rfl | simp, hb4⟩
    | true =>
      obtain ⟨hl162, hl12, hcs2, hrb2, htr2, hev2⟩ := good_facts hgd2.symm
      dsimp only at hl162 hl12 hrb2 htr2 hev2
      have HTR2 := Lib.hid htr2
      have HEV2 := Lib.hid hev2
      have HHO2 := Lib.hid (rule_n hrb2).1
      clear hgd2 hrb2 htr2 hev2
      go_wp2_with fail
      obtain ⟨nx, hnx⟩ : ∃ n, n = la.length + lb.length + 1 := ⟨_, rfl⟩
      obtain ⟨nz, hnz⟩ : ∃ n, n = la.length + 1 := ⟨_, rfl⟩
      have HNX := Lib.hid hnx
      have HNZ := Lib.hid hnz
      clear hnx hnz
      refine (joined_any _ _ ha hb 3 lata latb la lb _ ⟨A, ra, rfl, HRA.out.below hb4⟩ ⟨B, rb, rfl, HRB.out.below hb4⟩ (by omega) (by omega)).mono ?_
      rintro e W5 ⟨⟨AX, kX, rfl, hr⟩, hk⟩
      have hb5 := hb4.trans (hk.mono hb4.size)
      have A5 := Lib.hid (A4.out.below hk)
      have B5 := Lib.hid (B4.out.below hk)
      (try clear cA); (try clear lA); (try clear dA); (try clear cB); (try clear lB); (try clear dB)
      clear hk A4 B4 hb4
      rw [← HNX.out] at hr
      rw [← HNX.out]
      have RX5 := Lib.hid (show RowN 3 W5 (.slice AX nx kX) nx (c3c (la ++ lb ++ [(3, 0, 0)])) from hr)
      clear hr
      have cA := A5.out.cells
      have lA := A5.out.lt
      have cB := B5.out.cells
      have lB := B5.out.lt
      go_wp2_with fail
      refine calls_world (fun W6 => Below w.heap.size w W6 ∧ Blk W6 w.heap.size 24 #[.slice A la.length ra, .int .i64 ha, .bool lata] ∧ Blk W6 (w.heap.size + 1) 24 #[.slice B lb.length rb, .int .i64 hb, .bool latb] ∧ RowN 3 W6 (.slice AX nx kX) nx (c3c (la ++ lb ++ [(3, 0, 0)])) ∧ Blk W6 W5.heap.size 24 #[.slice AX nx kX, .int .i64 ha, .bool false]) ⟨(hb5.trans ((show Below W5.heap.size W5 _ by go_grown).mono hb5.size)), (A5.out.below (by go_grown)), (B5.out.below (by go_grown)), (RX5.out.below (by go_grown)), (Blk.new _ _ _ _ (by first | rfl | simp))⟩ fun W6 ⟨hb6, qA, qB, qRX, qX⟩ => ?_
      have A6 := Lib.hid qA
      have B6 := Lib.hid qB
      have RX6 := Lib.hid qRX
      have X6 := Lib.hid qX
      (try clear cA); (try clear lA); (try clear dA); (try clear cB); (try clear lB); (try clear dB); (try clear cX); (try clear lX); (try clear dX)
      clear qA qB qRX qX A5 B5 RX5 hb5
      have cA := A6.out.cells
      have lA := A6.out.lt
      have cB := B6.out.cells
      have lB := B6.out.lt
      have cX := X6.out.cells
      have lX := X6.out.lt
      refine (joined_any _ _ ha hb 4 lata latb la lb _ ⟨A, ra, rfl, HRA.out.below hb6⟩ ⟨B, rb, rfl, HRB.out.below hb6⟩ (by omega) (by omega)).mono ?_
      rintro e W7 ⟨⟨AY, kY, rfl, hr⟩, hk⟩
      have hb7 := hb6.trans (hk.mono hb6.size)
      have A7 := Lib.hid (A6.out.below hk)
      have B7 := Lib.hid (B6.out.below hk)
      have RX7 := Lib.hid (RX6.out.below hk)
      have X7 := Lib.hid (X6.out.below hk)
      (try clear cA); (try clear lA); (try clear dA); (try clear cB); (try clear lB); (try clear dB); (try clear cX); (try clear lX); (try clear dX)
      clear hk A6 B6 RX6 X6 hb6
      rw [← HNX.out] at hr
      rw [← HNX.out]
      have RY7 := Lib.hid (show RowN 3 W7 (.slice AY nx kY) nx (c3c (la ++ lb ++ [(4, 0, 0)])) from hr)
      clear hr
      have cA := A7.out.cells
      have lA := A7.out.lt
      have cB := B7.out.cells
      have lB := B7.out.lt
      have cX := X7.out.cells
      have lX := X7.out.lt
      go_wp2_with fail
      refine calls_world (fun W8 => Below w.heap.size w W8 ∧ Blk W8 w.heap.size 24 #[.slice A la.length ra, .int .i64 ha, .bool lata] ∧ Blk W8 (w.heap.size + 1) 24 #[.slice B lb.length rb, .int .i64 hb, .bool latb] ∧ RowN 3 W8 (.slice AX nx kX) nx (c3c (la ++ lb ++ [(3, 0, 0)])) ∧ Blk W8 W5.heap.size 24 #[.slice AX nx kX, .int .i64 ha, .bool false] ∧ RowN 3 W8 (.slice AY nx kY) nx (c3c (la ++ lb ++ [(4, 0, 0)])) ∧ Blk W8 W7.heap.size 24 #[.slice AY nx kY, .int .i64 ha, .bool false]) ⟨(hb7.trans ((show Below W7.heap.size W7 _ by go_grown).mono hb7.size)), (A7.out.below (by go_grown)), (B7.out.below (by go_grown)), (RX7.out.below (by go_grown)), (X7.out.below (by go_grown)), (RY7.out.below (by go_grown)), (Blk.new _ _ _ _ (by first | rfl | simp))⟩ fun W8 ⟨hb8, qA, qB, qRX, qX, qRY, qY⟩ => ?_
      have A8 := Lib.hid qA
      have B8 := Lib.hid qB
      have RX8 := Lib.hid qRX
      have X8 := Lib.hid qX
      have RY8 := Lib.hid qRY
      have Y8 := Lib.hid qY
      (try clear cA); (try clear lA); (try clear dA); (try clear cB); (try clear lB); (try clear dB); (try clear cX); (try clear lX); (try clear dX); (try clear cY); (try clear lY); (try clear dY)
      clear qA qB qRX qX qRY qY A7 B7 RX7 X7 RY7 hb7
      have cA := A8.out.cells
      have lA := A8.out.lt
      have cB := B8.out.cells
      have lB := B8.out.lt
      have cX := X8.out.cells
      have lX := X8.out.lt
      have cY := Y8.out.cells
      have lY := Y8.out.lt
      refine (joinedZ_any _ ha 5 lata la _ ⟨A, ra, rfl, HRA.out.below hb8⟩ (by omega)).mono ?_
      rintro e W9 ⟨⟨AZ, kZ, rfl, hr⟩, hk⟩
      have hb9 := hb8.trans (hk.mono hb8.size)
      have A9 := Lib.hid (A8.out.below hk)
      have B9 := Lib.hid (B8.out.below hk)
      have RX9 := Lib.hid (RX8.out.below hk)
      have X9 := Lib.hid (X8.out.below hk)
      have RY9 := Lib.hid (RY8.out.below hk)
      have Y9 := Lib.hid (Y8.out.below hk)
      (try clear cA); (try clear lA); (try clear dA); (try clear cB); (try clear lB); (try clear dB); (try clear cX); (try clear lX); (try clear dX); (try clear cY); (try clear lY); (try clear dY)
      clear hk A8 B8 RX8 X8 RY8 Y8 hb8
      rw [← HNZ.out] at hr
      rw [← HNZ.out]
      have RZ9 := Lib.hid (show RowN 3 W9 (.slice AZ nz kZ) nz (c3c (la ++ [(5, 0, 0)])) from hr)
      clear hr
      have cA := A9.out.cells
      have lA := A9.out.lt
      have cB := B9.out.cells
      have lB := B9.out.lt
      have cX := X9.out.cells
      have lX := X9.out.lt
      have cY := Y9.out.cells
      have lY := Y9.out.lt
      go_wp2_with fail
      refine wp_world (fun W10 => Below w.heap.size w W10 ∧ Blk W10 w.heap.size 24 #[.slice A la.length ra, .int .i64 ha, .bool lata] ∧ Blk W10 (w.heap.size + 1) 24 #[.slice B lb.length rb, .int .i64 hb, .bool latb] ∧ RowN 3 W10 (.slice AX nx kX) nx (c3c (la ++ lb ++ [(3, 0, 0)])) ∧ Blk W10 W5.heap.size 24 #[.slice AX nx kX, .int .i64 ha, .bool false] ∧ RowN 3 W10 (.slice AY nx kY) nx (c3c (la ++ lb ++ [(4, 0, 0)])) ∧ Blk W10 W7.heap.size 24 #[.slice AY nx kY, .int .i64 ha, .bool false] ∧ RowN 3 W10 (.slice AZ nz kZ) nz (c3c (la ++ [(5, 0, 0)])) ∧ Blk W10 W9.heap.size 24 #[.slice AZ nz kZ, .int .i64 ha, .bool false]) ⟨(hb9.trans ((show Below W9.heap.size W9 _ by go_grown).mono hb9.size)), (A9.out.below (by go_grown)), (B9.out.below (by go_grown)), (RX9.out.below (by go_grown)), (X9.out.below (by go_grown)), (RY9.out.below (by go_grown)), (Y9.out.below (by go_grown)), (RZ9.out.below (by go_grown)), (Blk.new _ _ _ _ (by first | rfl | simp))⟩ fun W10 ⟨hb10, qA, qB, qRX, qX, qRY, qY, qRZ, qZ⟩ => ?_
      have A10 := Lib.hid qA
      have B10 := Lib.hid qB
      have RX10 := Lib.hid qRX
      have X10 := Lib.hid qX
      have RY10 := Lib.hid qRY
      have Y10 := Lib.hid qY
      have RZ10 := Lib.hid qRZ
      have Z10 := Lib.hid qZ
      (try clear cA); (try clear lA); (try clear dA); (try clear cB); (try clear lB); (try clear dB); (try clear cX); (try clear lX); (try clear dX); (try clear cY); (try clear lY); (try clear dY); (try clear cZ); (try clear lZ); (try clear dZ)
      clear qA qB qRX qX qRY qY qRZ qZ A9 B9 RX9 X9 RY9 Y9 RZ9 hb9
      obtain ⟨bx, hbx⟩ : ∃ b, b = decide (la.length + lb.length + 1 ≤ 16) := ⟨_, rfl⟩
      obtain ⟨bz, hbz⟩ : ∃ b, b = decide (la.length + 1 ≤ 16) := ⟨_, rfl⟩
      have HJ := Lib.hid (join_rule ⟨HHO1.out.1, HHO1.out.2.1⟩ HTR1.out HTR2.out HEV1.out HEV2.out)
      have HN := Lib.hid (not_rule ⟨HHO1.out.1, HHO1.out.2.1⟩ HTR1.out HEV1.out)
      rw [← hbx] at HJ
      rw [← hbz] at HN
      have qx : decide ((nx : Int) ≤ 16) = bx := by rw [hbx, HNX.out]; exact decide_eq_decide.2 (by omega)
      have qz : decide ((nz : Int) ≤ 16) = bz := by rw [hbz, HNZ.out]; exact decide_eq_decide.2 (by omega)
      have HBX := Lib.hid hbx
      have HBZ := Lib.hid hbz
      have HLX := Lib.hid (show (la ++ lb ++ [((3 : Int), (0 : Int), (0 : Int))]).length = nx by rw [HNX.out]; simp; try omega)
      have HLY := Lib.hid (show (la ++ lb ++ [((4 : Int), (0 : Int), (0 : Int))]).length = nx by rw [HNX.out]; simp; try omega)
      have HLZ := Lib.hid (show (la ++ [((5 : Int), (0 : Int), (0 : Int))]).length = nz by rw [HNZ.out]; simp)
      clear hbx hbz
      have dA : ∀ w', Below W10.heap.size W10 w' → ∀ i, w'.cell? ⟨w.heap.size, i, none⟩ = (#[.slice A la.length ra, .int .i64 ha, .bool lata] : Array Value)[i]? := fun w' hb i => by rw [hb.cell (p := ⟨w.heap.size, i, none⟩) A10.out.lt]; exact A10.out.cells i
      have dB : ∀ w', Below W10.heap.size W10 w' → ∀ i, w'.cell? ⟨(w.heap.size + 1), i, none⟩ = (#[.slice B lb.length rb, .int .i64 hb, .bool latb] : Array Value)[i]? := fun w' hb i => by rw [hb.cell (p := ⟨(w.heap.size + 1), i, none⟩) B10.out.lt]; exact B10.out.cells i
      have dX : ∀ w', Below W10.heap.size W10 w' → ∀ i, w'.cell? ⟨W5.heap.size, i, none⟩ = (#[.slice AX nx kX, .int .i64 ha, .bool false] : Array Value)[i]? := fun w' hb i => by rw [hb.cell (p := ⟨W5.heap.size, i, none⟩) X10.out.lt]; exact X10.out.cells i
      have dZ : ∀ w', Below W10.heap.size W10 w' → ∀ i, w'.cell? ⟨W9.heap.size, i, none⟩ = (#[.slice AZ nz kZ, .int .i64 ha, .bool false] : Array Value)[i]? := fun w' hb i => by rw [hb.cell (p := ⟨W9.heap.size, i, none⟩) Z10.out.lt]; exact Z10.out.cells i
      refine wp_region_held_drew (S := fun w' => Below W10.heap.size W10 w') (by kernel_rfl) (by go_grown) (fun hHeld => ?_)
      refine takeD 0 (some 34) (v := ?_) rfl rfl (by kernel_rfl) (by kernel_rfl) (by kernel_rfl) (fun _ _ _ h => h) (by rfl) ?_ (by assumption) ?_
      rotate_left
      · intro w hSw
        (try dsimp only at hSw)
        go_simp
        try with_reducible rfl
      try simp only [Act.put, List.setIfInBounds_toArray, List.set_cons_zero, List.set_cons_succ]
      refine takeD 1 (some 35) (v := ?_) rfl rfl (by kernel_rfl) (by kernel_rfl) (by kernel_rfl) (fun _ _ _ h => h) (by rfl) ?_ (by assumption) ?_
      rotate_left
      · intro w hSw
        (try dsimp only at hSw)
        go_simp
        try with_reducible rfl
      try simp only [Act.put, List.setIfInBounds_toArray, List.set_cons_zero, List.set_cons_succ]
      refine takeD 2 (some 36) (v := ?_) rfl rfl (by kernel_rfl) (by kernel_rfl) (by kernel_rfl) (fun _ _ _ h => h) (by rfl) ?_ (by assumption) ?_
      rotate_left
      · intro w hSw
        (try dsimp only at hSw)
        go_simp
        try with_reducible rfl
      try simp only [Act.put, List.setIfInBounds_toArray, List.set_cons_zero, List.set_cons_succ]
      refine takeD 4 (some 38) (v := ?_) rfl rfl (by kernel_rfl) (by kernel_rfl) (by kernel_rfl) (fun _ _ _ h => h) (by rfl) ?_ (by assumption) ?_
      rotate_left
      · intro w hSw
        (try dsimp only at hSw)
        go_simp
        try with_reducible rfl
      try simp only [Act.put, List.setIfInBounds_toArray, List.set_cons_zero, List.set_cons_succ]
      refine takeD 5 (some 39) (v := ?_) rfl rfl (by kernel_rfl) (by kernel_rfl) (by kernel_rfl) (fun _ _ _ h => h) (by rfl) ?_ (by assumption) ?_
      rotate_left
      · intro w hSw
        (try dsimp only at hSw)
        go_simp
        try with_reducible rfl
      try simp only [Act.put, List.setIfInBounds_toArray, List.set_cons_zero, List.set_cons_succ]
      refine takeD 6 (some 40) (v := ?_) rfl rfl (by kernel_rfl) (by kernel_rfl) (by kernel_rfl) (fun _ _ _ h => h) (by rfl) ?_ (by assumption) ?_
      rotate_left
      · intro w hSw
        (try dsimp only at hSw)
        go_simp
        try with_reducible rfl
      try simp only [Act.put, List.setIfInBounds_toArray, List.set_cons_zero, List.set_cons_succ]
      refine takeD 7 (some 41) (v := ?_) rfl rfl (by kernel_rfl) (by kernel_rfl) (by kernel_rfl) (fun _ _ _ h => h) (by rfl) ?_ (by assumption) ?_
      rotate_left
      · intro w hSw
        (try dsimp only at hSw)
        go_simp
        try with_reducible rfl
      try simp only [Act.put, List.setIfInBounds_toArray, List.set_cons_zero, List.set_cons_succ]
      refine wpAnyH_ready (rs := [3]) (by kernel_rfl) (by simp) ?_
      refine AllReadyH.cons rfl (fun K hK => ?_) AllReadyH.nil
      rw [if_pos (by rfl)]
      go_simp
      go_at_call 10
      refine (right_any _ ha false (la ++ lb ++ [(3, 0, 0)]) (cs.length : Int) _ (isrule_ofJ HLX.out (RX10.out.below hHeld))).mono ?_
      rintro e w1 ⟨rfl, hk⟩
      rw [HJ.out]
      go_wp2_with fail
      refine hK.out _ _ ?_ (fun hHeld2 => ?_)
      · first | exact hHeld.trans (hk.mono hHeld.size) | (clear hK; have hz := hHeld.size; go_grown)
      clear hK K hHeld
      have hHeld := hHeld2
      clear hHeld2
      try clear hk
      try simp only [Act.put, List.setIfInBounds_toArray, List.set_cons_zero, List.set_cons_succ]
      refine takeD 8 (some 42) (v := ?_) rfl rfl (by kernel_rfl) (by kernel_rfl) (by kernel_rfl) (fun _ _ _ h => h) (by rfl) ?_ (by assumption) ?_
      rotate_left
      · intro w hSw
        (try dsimp only at hSw)
        go_simp
        try with_reducible rfl
      try simp only [Act.put, List.setIfInBounds_toArray, List.set_cons_zero, List.set_cons_succ]
      refine takeD 9 (some 43) (v := ?_) rfl rfl (by kernel_rfl) (by kernel_rfl) (by kernel_rfl) (fun _ _ _ h => h) (by rfl) ?_ (by assumption) ?_
      rotate_left
      · intro w hSw
        (try dsimp only at hSw)
        go_simp
        try with_reducible rfl
      try simp only [Act.put, List.setIfInBounds_toArray, List.set_cons_zero, List.set_cons_succ]
      refine takeD 10 (some 44) (v := ?_) rfl rfl (by kernel_rfl) (by kernel_rfl) (by kernel_rfl) (fun _ _ _ h => h) (by rfl) ?_ (by assumption) ?_
      rotate_left
      · intro w hSw
        (try dsimp only at hSw)
        go_simp
        try with_reducible rfl
      try simp only [Act.put, List.setIfInBounds_toArray, List.set_cons_zero, List.set_cons_succ]
      refine takeD 11 (some 45) (v := ?_) rfl rfl (by kernel_rfl) (by kernel_rfl) (by kernel_rfl) (fun _ _ _ h => h) (by rfl) ?_ (by assumption) ?_
      rotate_left
      · intro w hSw
        (try dsimp only at hSw)
        go_simp
        try with_reducible rfl
      try simp only [Act.put, List.setIfInBounds_toArray, List.set_cons_zero, List.set_cons_succ]
      refine takeD 12 (some 46) (v := ?_) rfl rfl (by kernel_rfl) (by kernel_rfl) (by kernel_rfl) (fun _ _ _ h => h) (by rfl) ?_ (by assumption) ?_
      rotate_left
      · intro w hSw
        (try dsimp only at hSw)
        go_simp
        try with_reducible rfl
      try simp only [Act.put, List.setIfInBounds_toArray, List.set_cons_zero, List.set_cons_succ]
      refine takeD 14 (some 48) (v := ?_) rfl rfl (by kernel_rfl) (by kernel_rfl) (by kernel_rfl) (fun _ _ _ h => h) (by rfl) ?_ (by assumption) ?_
      rotate_left
      · intro w hSw
        (try dsimp only at hSw)
        go_simp
        try with_reducible rfl
      try simp only [Act.put, List.setIfInBounds_toArray, List.set_cons_zero, List.set_cons_succ]
      refine takeD 15 (some 49) (v := ?_) rfl rfl (by kernel_rfl) (by kernel_rfl) (by kernel_rfl) (fun _ _ _ h => h) (by rfl) ?_ (by assumption) ?_
      rotate_left
      · intro w hSw
        (try dsimp only at hSw)
        go_simp
        try with_reducible rfl
      try simp only [Act.put, List.setIfInBounds_toArray, List.set_cons_zero, List.set_cons_succ]
      refine takeD 16 (some 50) (v := ?_) rfl rfl (by kernel_rfl) (by kernel_rfl) (by kernel_rfl) (fun _ _ _ h => h) (by rfl) ?_ (by assumption) ?_
      rotate_left
      · intro w hSw
        (try dsimp only at hSw)
        go_simp
        try with_reducible rfl
      try simp only [Act.put, List.setIfInBounds_toArray, List.set_cons_zero, List.set_cons_succ]
      refine takeD 17 (some 51) (v := ?_) rfl rfl (by kernel_rfl) (by kernel_rfl) (by kernel_rfl) (fun _ _ _ h => h) (by rfl) ?_ (by assumption) ?_
      rotate_left
      · intro w hSw
        (try dsimp only at hSw)
        go_simp
        try with_reducible rfl
      try simp only [Act.put, List.setIfInBounds_toArray, List.set_cons_zero, List.set_cons_succ]
      refine wpAnyH_ready (rs := [13]) (by kernel_rfl) (by simp) ?_
      refine AllReadyH.cons rfl (fun K hK => ?_) AllReadyH.nil
      rw [if_pos (by rfl)]
      go_simp
      go_at_call 10
      refine (right_any _ ha false (la ++ [(5, 0, 0)]) (cs.length : Int) _ (isrule_ofJ HLZ.out (RZ10.out.below hHeld))).mono ?_
      rintro e w1 ⟨rfl, hk⟩
      rw [HN.out]
      go_wp2_with fail
      refine hK.out _ _ ?_ (fun hHeld2 => ?_)
      · first | exact hHeld.trans (hk.mono hHeld.size) | (clear hK; have hz := hHeld.size; go_grown)
      clear hK K hHeld
      have hHeld := hHeld2
      clear hHeld2
      try clear hk
      try simp only [Act.put, List.setIfInBounds_toArray, List.set_cons_zero, List.set_cons_succ]
      refine takeD 18 (some 52) (v := ?_) rfl rfl (by kernel_rfl) (by kernel_rfl) (by kernel_rfl) (fun _ _ _ h => h) (by rfl) ?_ (by assumption) ?_
      rotate_left
      · intro w hSw
        (try dsimp only at hSw)
        go_simp
        try with_reducible rfl
      try simp only [Act.put, List.setIfInBounds_toArray, List.set_cons_zero, List.set_cons_succ]
      refine takeD 19 (some 53) (v := ?_) rfl rfl (by kernel_rfl) (by kernel_rfl) (by kernel_rfl) (fun _ _ _ h => h) (by rfl) ?_ (by assumption) ?_
      rotate_left
      · intro w hSw
        (try dsimp only at hSw)
        go_simp
        try with_reducible rfl
      try simp only [Act.put, List.setIfInBounds_toArray, List.set_cons_zero, List.set_cons_succ]
      refine wpAnyH_done (by kernel_rfl) ?_ _
      go_wp2_with fail
      have hk := hHeld
      refine calls_world (fun W11 => Below w.heap.size w W11 ∧ Blk W11 w.heap.size 24 #[.slice A la.length ra, .int .i64 ha, .bool lata] ∧ Blk W11 (w.heap.size + 1) 24 #[.slice B lb.length rb, .int .i64 hb, .bool latb] ∧ RowN 3 W11 (.slice AX nx kX) nx (c3c (la ++ lb ++ [(3, 0, 0)])) ∧ Blk W11 W5.heap.size 24 #[.slice AX nx kX, .int .i64 ha, .bool false] ∧ RowN 3 W11 (.slice AY nx kY) nx (c3c (la ++ lb ++ [(4, 0, 0)])) ∧ Blk W11 W7.heap.size 24 #[.slice AY nx kY, .int .i64 ha, .bool false] ∧ RowN 3 W11 (.slice AZ nz kZ) nz (c3c (la ++ [(5, 0, 0)])) ∧ Blk W11 W9.heap.size 24 #[.slice AZ nz kZ, .int .i64 ha, .bool false]) ⟨(hb10.trans ((show Below W10.heap.size W10 _ by go_grown).mono hb10.size)), (A10.out.below (by go_grown)), (B10.out.below (by go_grown)), (RX10.out.below (by go_grown)), (X10.out.below (by go_grown)), (RY10.out.below (by go_grown)), (Y10.out.below (by go_grown)), (RZ10.out.below (by go_grown)), (Z10.out.below (by go_grown))⟩ fun W11 ⟨hb11, qA, qB, qRX, qX, qRY, qY, qRZ, qZ⟩ => ?_
      have A11 := Lib.hid qA
      have B11 := Lib.hid qB
      have RX11 := Lib.hid qRX
      have X11 := Lib.hid qX
      have RY11 := Lib.hid qRY
      have Y11 := Lib.hid qY
      have RZ11 := Lib.hid qRZ
      have Z11 := Lib.hid qZ
      (try clear cA); (try clear lA); (try clear dA); (try clear cB); (try clear lB); (try clear dB); (try clear cX); (try clear lX); (try clear dX); (try clear cY); (try clear lY); (try clear dY); (try clear cZ); (try clear lZ); (try clear dZ)
      clear qA qB qRX qX qRY qY qRZ qZ A10 B10 RX10 X10 RY10 Y10 RZ10 Z10 hb10
      clear hk hHeld
      have cA := A11.out.cells
      have lA := A11.out.lt
      have cB := B11.out.cells
      have lB := B11.out.lt
      have cX := X11.out.cells
      have lX := X11.out.lt
      have cY := Y11.out.cells
      have lY := Y11.out.lt
      have cZ := Z11.out.cells
      have lZ := Z11.out.lt
      refine (says_any _ ha lata la CA cc cs _ ⟨A, ra, rfl, HRA.out.below hb11⟩ (HC.out.below hb11) HTR1.out (by omega)).mono ?_
      rintro e W12 ⟨rfl, hk⟩
      have hb12 := hb11.trans (hk.mono hb11.size)
      have A12 := Lib.hid (A11.out.below hk)
      have B12 := Lib.hid (B11.out.below hk)
      have RX12 := Lib.hid (RX11.out.below hk)
      have X12 := Lib.hid (X11.out.below hk)
      have RY12 := Lib.hid (RY11.out.below hk)
      have Y12 := Lib.hid (Y11.out.below hk)
      have RZ12 := Lib.hid (RZ11.out.below hk)
      have Z12 := Lib.hid (Z11.out.below hk)
      (try clear cA); (try clear lA); (try clear dA); (try clear cB); (try clear lB); (try clear dB); (try clear cX); (try clear lX); (try clear dX); (try clear cY); (try clear lY); (try clear dY); (try clear cZ); (try clear lZ); (try clear dZ)
      clear hk A11 B11 RX11 X11 RY11 Y11 RZ11 Z11 hb11
      have cA := A12.out.cells
      have lA := A12.out.lt
      have cB := B12.out.cells
      have lB := B12.out.lt
      have cX := X12.out.cells
      have lX := X12.out.lt
      have cY := Y12.out.cells
      have lY := Y12.out.lt
      have cZ := Z12.out.cells
      have lZ := Z12.out.lt
      go_wp2_with fail
      refine (says_any _ hb latb lb CA cc cs _ ⟨B, rb, rfl, HRB.out.below hb12⟩ (HC.out.below hb12) HTR2.out (by omega)).mono ?_
      rintro e W13 ⟨rfl, hk⟩
      have hb13 := hb12.trans (hk.mono hb12.size)
      have A13 := Lib.hid (A12.out.below hk)
      have B13 := Lib.hid (B12.out.below hk)
      have RX13 := Lib.hid (RX12.out.below hk)
      have X13 := Lib.hid (X12.out.below hk)
      have RY13 := Lib.hid (RY12.out.below hk)
      have Y13 := Lib.hid (Y12.out.below hk)
      have RZ13 := Lib.hid (RZ12.out.below hk)
      have Z13 := Lib.hid (Z12.out.below hk)
      (try clear cA); (try clear lA); (try clear dA); (try clear cB); (try clear lB); (try clear dB); (try clear cX); (try clear lX); (try clear dX); (try clear cY); (try clear lY); (try clear dY); (try clear cZ); (try clear lZ); (try clear dZ)
      clear hk A12 B12 RX12 X12 RY12 Y12 RZ12 Z12 hb12
      have cA := A13.out.cells
      have lA := A13.out.lt
      have cB := B13.out.cells
      have lB := B13.out.lt
      have cX := X13.out.cells
      have lX := X13.out.lt
      have cY := Y13.out.cells
      have lY := Y13.out.lt
      have cZ := Z13.out.cells
      have lZ := Z13.out.lt
      have HS := Lib.hid (join_says cs HEV1.out HEV2.out)
      have HS5 := Lib.hid (not_says cs HEV1.out)
      generalize saysR la cs = p at *
      generalize saysR lb cs = q at *
      clear qx qz
      cases bz with
      | false =>
    have gz : decide ((nz : Int) ≤ 16) = false := decide_eq_false (by have := of_decide_eq_false HBZ.out.symm; have := HNZ.out; omega)
    have gx : decide ((nx : Int) > 16) = true := decide_eq_true (by have := of_decide_eq_false HBZ.out.symm; have := HNX.out; omega)
    go_wp2
    go_ret
    exact ⟨by first | rfl | simp, hb13⟩
      | true =>
        have gz : decide ((nz : Int) ≤ 16) = true := decide_eq_true (by have := of_decide_eq_true HBZ.out.symm; have := HNZ.out; omega)
        go_wp2_with fail
        refine (says_any _ ha false (la ++ [(5, 0, 0)]) CA cc cs _ (isrule_ofJ HLZ.out RZ13.out) (HC.out.below hb13) (all_one HTR1.out rfl) (by rw [HLZ.out]; have := HNZ.out; omega)).mono ?_
        rintro e W14 ⟨rfl, hk⟩
        have hb14 := hb13.trans (hk.mono hb13.size)
        have A14 := Lib.hid (A13.out.below hk)
        have B14 := Lib.hid (B13.out.below hk)
        have RX14 := Lib.hid (RX13.out.below hk)
        have X14 := Lib.hid (X13.out.below hk)
        have RY14 := Lib.hid (RY13.out.below hk)
        have Y14 := Lib.hid (Y13.out.below hk)
        have RZ14 := Lib.hid (RZ13.out.below hk)
        have Z14 := Lib.hid (Z13.out.below hk)
        (try clear cA); (try clear lA); (try clear dA); (try clear cB); (try clear lB); (try clear dB); (try clear cX); (try clear lX); (try clear dX); (try clear cY); (try clear lY); (try clear dY); (try clear cZ); (try clear lZ); (try clear dZ)
        clear hk A13 B13 RX13 X13 RY13 Y13 RZ13 Z13 hb13
        have cA := A14.out.cells
        have lA := A14.out.lt
        have cB := B14.out.cells
        have lB := B14.out.lt
        have cX := X14.out.cells
        have lX := X14.out.lt
        have cY := Y14.out.cells
        have lY := Y14.out.lt
        have cZ := Z14.out.cells
        have lZ := Z14.out.lt
        rw [HS5.out]
        go_wp2_with fail
        refine (rnot_any _ _).mono ?_
        rintro e u ⟨rfl, rfl⟩
        cases bx with
        | false =>
          have gx : decide ((nx : Int) > 16) = true := decide_eq_true (by have := of_decide_eq_false HBX.out.symm; have := HNX.out; omega)
          go_wp2
          go_ret
          exact ⟨by first | rfl | simp, hb14⟩
        | true =>
          have gx : decide ((nx : Int) > 16) = false := decide_eq_false (by have := of_decide_eq_true HBX.out.symm; have := HNX.out; omega)
          go_wp2_with fail
          refine (says_any _ ha false (la ++ lb ++ [(3, 0, 0)]) CA cc cs _ (isrule_ofJ HLX.out RX14.out) (HC.out.below hb14) (all_app HTR1.out HTR2.out rfl) (by rw [HLX.out]; have := HNX.out; omega)).mono ?_
          rintro e W15 ⟨rfl, hk⟩
          have hb15 := hb14.trans (hk.mono hb14.size)
          have A15 := Lib.hid (A14.out.below hk)
          have B15 := Lib.hid (B14.out.below hk)
          have RX15 := Lib.hid (RX14.out.below hk)
          have X15 := Lib.hid (X14.out.below hk)
          have RY15 := Lib.hid (RY14.out.below hk)
          have Y15 := Lib.hid (Y14.out.below hk)
          have RZ15 := Lib.hid (RZ14.out.below hk)
          have Z15 := Lib.hid (Z14.out.below hk)
          (try clear cA); (try clear lA); (try clear dA); (try clear cB); (try clear lB); (try clear dB); (try clear cX); (try clear lX); (try clear dX); (try clear cY); (try clear lY); (try clear dY); (try clear cZ); (try clear lZ); (try clear dZ)
          clear hk A14 B14 RX14 X14 RY14 Y14 RZ14 Z14 hb14
          have cA := A15.out.cells
          have lA := A15.out.lt
          have cB := B15.out.cells
          have lB := B15.out.lt
          have cX := X15.out.cells
          have lX := X15.out.lt
          have cY := Y15.out.cells
          have lY := Y15.out.lt
          have cZ := Z15.out.cells
          have lZ := Z15.out.lt
          rw [HS.out.1]
          go_wp2_with fail
          refine (rand_any _ _ _).mono ?_
          rintro e u ⟨rfl, rfl⟩
          go_wp2_with fail
          refine (says_any _ ha false (la ++ lb ++ [(4, 0, 0)]) CA cc cs _ (isrule_ofJ HLY.out RY15.out) (HC.out.below hb15) (all_app HTR1.out HTR2.out rfl) (by rw [HLY.out]; have := HNX.out; omega)).mono ?_
          rintro e W16 ⟨rfl, hk⟩
          have hb16 := hb15.trans (hk.mono hb15.size)
          have A16 := Lib.hid (A15.out.below hk)
          have B16 := Lib.hid (B15.out.below hk)
          have RX16 := Lib.hid (RX15.out.below hk)
          have X16 := Lib.hid (X15.out.below hk)
          have RY16 := Lib.hid (RY15.out.below hk)
          have Y16 := Lib.hid (Y15.out.below hk)
          have RZ16 := Lib.hid (RZ15.out.below hk)
          have Z16 := Lib.hid (Z15.out.below hk)
          (try clear cA); (try clear lA); (try clear dA); (try clear cB); (try clear lB); (try clear dB); (try clear cX); (try clear lX); (try clear dX); (try clear cY); (try clear lY); (try clear dY); (try clear cZ); (try clear lZ); (try clear dZ)
          clear hk A15 B15 RX15 X15 RY15 Y15 RZ15 Z15 hb15
          have cA := A16.out.cells
          have lA := A16.out.lt
          have cB := B16.out.cells
          have lB := B16.out.lt
          have cX := X16.out.cells
          have lX := X16.out.lt
          have cY := Y16.out.cells
          have lY := Y16.out.lt
          have cZ := Z16.out.cells
          have lZ := Z16.out.lt
          rw [HS.out.2]
          go_wp2_with fail
          refine (ror_any _ _ _).mono ?_
          rintro e u ⟨rfl, rfl⟩
          go_wp2
          go_ret
          exact ⟨by first | rfl | simp, hb16⟩
end Go.Proofs.Ytkipocfdgekkfaa
