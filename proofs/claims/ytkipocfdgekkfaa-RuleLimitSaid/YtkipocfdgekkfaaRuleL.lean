/- Layer 18: one limit. -/
import Derived.Test.YtkipocfdgekkfaaRuleJ
import Derived.StillTailTactics
namespace Go.Proofs.Ytkipocfdgekkfaa
open Go.ChangeShapes Go.WideShapes Go.ChangeAt Go.RowKit
set_option linter.unusedVariables false
set_option linter.unusedSimpArgs false

theorem lim_right {n : Int} (h : -2147483648 ≤ n ∧ n ≤ 2147483647) : tRight (1, 0, n) 1 = true ∧ tRight (2, 0, n) 1 = true := by
  constructor
  · exact decide_eq_true ⟨by show (0 : Int) ≤ 0; omega, by show (0 : Int) < 1; omega, by show -2147483648 ≤ n; omega, by show n ≤ 2147483648; omega⟩
  · exact decide_eq_true ⟨by show (0 : Int) ≤ 0; omega, by show (0 : Int) < 1; omega, by show -2147483648 ≤ n; omega, by show n ≤ 2147483648; omega⟩
theorem lim_says (n ck cv cf : Int) : saysR [((1 : Int), (0 : Int), n)] [(ck, cv, cf)] = limO (1, 0, n) (ck, cv, cf) ∧ saysR [((2 : Int), (0 : Int), n)] [(ck, cv, cf)] = limO (2, 0, n) (ck, cv, cf) ∧ saysR [((1 : Int), (0 : Int), n), (2, 0, n), (4, 0, 0)] [(ck, cv, cf)] = or3 (limO (1, 0, n) (ck, cv, cf)) (limO (2, 0, n) (ck, cv, cf)) := by
  have ha : saysR [((1 : Int), (0 : Int), n)] [(ck, cv, cf)] = limO (1, 0, n) (ck, cv, cf) := rfl
  have hb : saysR [((2 : Int), (0 : Int), n)] [(ck, cv, cf)] = limO (2, 0, n) (ck, cv, cf) := rfl
  refine ⟨ha, hb, ?_⟩
  have := (join_says (la := [((1 : Int), (0 : Int), n)]) (lb := [((2 : Int), (0 : Int), n)]) [(ck, cv, cf)] rfl rfl).2
  rw [ha, hb] at this
  exact this
theorem joinedL_any (va vb : Value) (h n : Int) (w : World) (h0 : IsRule w va h false [((1 : Int), (0 : Int), n)]) (h1 : IsRule w vb h false [((2 : Int), (0 : Int), n)]) :
    Calls Try.prog 18 #[va, vb, .int .i64 4] w fun e w' => (∃ A c, e = .returned (.agg #[.slice A 3 c, .int .i64 h, .bool false]) ∧ RowN 3 w' (.slice A 3 c) 3 (c3c [((1 : Int), (0 : Int), n), (2, 0, n), (4, 0, 0)])) ∧ Below w.heap.size w w' :=
  joined_any va vb h h 4 false false [((1 : Int), (0 : Int), n)] [((2 : Int), (0 : Int), n)] w h0 h1 (by simp) (by simp)
set_option maxRecDepth 100000 in
set_option maxHeartbeats 8000000 in
theorem walkH_RuleLimit (hd : Hd) (ck cv cf n h : Int) (w : World) (w0 : (Lit.int .i64 ck).wf = true) (w1 : (Lit.int .i64 cv).wf = true) (w2 : (Lit.int .i64 cf).wf = true) (w3 : (Lit.int .i32 n).wf = true) (w4 : (Lit.int .u8 h).wf = true) :
    Calls Try.prog 7 #[.agg #[.int .i64 ck, .int .i64 cv, .int .i64 cf], .int .i32 n, .int .u8 h] w fun e w' => e = .returned (.bool true) ∧ Below w.heap.size w w' := by
  have bn := bounds_i32 w3
  have bh := bounds_u8 w4
  clear w0 w1 w2 w3 w4
  have hwn : IntKind.i64.wrap n = n := IntWalk.i64_in _ (by omega)
  have hwh : IntKind.i64.wrap h = h := IntWalk.i64_in _ (by omega)
  go_enter Try.func7, Try.ntmps7
  go_wp2_with fail
  refine calls_world (fun W1 => Below w.heap.size w W1 ∧ Blk W1 w.heap.size 35 #[.int .i64 ck, .int .i64 cv, .int .i64 cf]) ⟨(by go_grown), (Blk.new _ _ _ _ (by first | rfl | simp))⟩ fun W1 ⟨hb1, qB⟩ => ?_
  have B1 := Lib.hid qB
  (try clear cB); (try clear lB); (try clear dB)
  clear qB
  refine (hd _).mono ?_
  rintro e W2 ⟨rfl, hk⟩
  have hb2 := hb1.trans (hk.mono hb1.size)
  have B2 := Lib.hid (B1.out.below hk)
  (try clear cB); (try clear lB); (try clear dB)
  clear hk B1 hb1
  have cB := B2.out.cells
  have lB := B2.out.lt
  by_cases hh : h = 0
  · subst hh
    go_wp2
    go_ret
    exact ⟨by first | rfl | simp, hb2⟩
  have q0 : (h == 0) = false := beq_false_of_ne hh
  have HHH := Lib.hid (show 1 ≤ h ∧ h ≤ 1000 by omega)
  have HLR := Lib.hid (lim_right (n := n) (by omega))
  clear hh bn bh
  have lB1 : w.heap.size < W2.heap.size + 1 := by omega
  have lB2 : w.heap.size < W2.heap.size + 1 + 1 := by omega
  have lB3 : w.heap.size < W2.heap.size + 1 + 1 + 1 := by omega
  have lB4 : w.heap.size < W2.heap.size + 1 + 1 + 1 + 1 := by omega
  go_wp2_with fail
  clear lB1 lB2 lB3 lB4
  refine calls_world (fun W3 => Below w.heap.size w W3 ∧ Blk W3 w.heap.size 35 #[.int .i64 ck, .int .i64 cv, .int .i64 cf] ∧ Blk W3 W2.heap.size 43 #[.int .i64 1, .int .i64 0, .int .i64 n] ∧ Blk W3 (W2.heap.size + 1) 24 #[.slice (some ⟨W2.heap.size, 0, none⟩) 1 1, .int .i64 h, .bool false] ∧ Blk W3 (W2.heap.size + 1 + 1) 43 #[.int .i64 2, .int .i64 0, .int .i64 n] ∧ Blk W3 (W2.heap.size + 1 + 1 + 1) 24 #[.slice (some ⟨W2.heap.size + 1 + 1, 0, none⟩) 1 1, .int .i64 h, .bool false] ∧ Blk W3 (W2.heap.size + 1 + 1 + 1 + 1) 35 #[.int .i64 ck, .int .i64 cv, .int .i64 cf]) ⟨(hb2.trans ((show Below W2.heap.size W2 _ by go_grown).mono hb2.size)), (B2.out.below (by go_grown)), (((((Blk.new _ _ _ _ (by first | rfl | simp)).al _).al _).al _).al _), ((((Blk.new _ _ _ _ (by first | rfl | simp)).al _).al _).al _), (((Blk.new _ _ _ _ (by first | rfl | simp)).al _).al _), ((Blk.new _ _ _ _ (by first | rfl | simp)).al _), (Blk.new _ _ _ _ (by first | rfl | simp))⟩ fun W3 ⟨hb3, qB, qTA, qA, qTB, qRB, qCL⟩ => ?_
  have B3 := Lib.hid qB
  have TA3 := Lib.hid qTA
  have A3 := Lib.hid qA
  have TB3 := Lib.hid qTB
  have RB3 := Lib.hid qRB
  have CL3 := Lib.hid qCL
  (try clear cB); (try clear lB); (try clear dB); (try clear cTA); (try clear lTA); (try clear dTA); (try clear cA); (try clear lA); (try clear dA); (try clear cTB); (try clear lTB); (try clear dTB); (try clear cRB); (try clear lRB); (try clear dRB); (try clear cCL); (try clear lCL); (try clear dCL)
  clear qB qTA qA qTB qRB qCL B2 hb2
  have HSS := Lib.hid (lim_says n ck cv cf)
  refine (says_any _ h false [((1 : Int), (0 : Int), n)] (some ⟨W2.heap.size + 1 + 1 + 1 + 1, 0, none⟩) 1 [(ck, cv, cf)] _ ⟨some ⟨W2.heap.size, 0, none⟩, 1, rfl, RowN.of_blk TA3.out rfl rfl (Nat.le_refl _) (by decide)⟩ (RowN.of_blk CL3.out rfl rfl (Nat.le_refl _) (by decide)) (by intro t ht; rw [List.mem_singleton.1 ht]; exact HLR.out.1) (by simp)).mono ?_
  rintro e W4 ⟨rfl, hk⟩
  have hb4 := hb3.trans (hk.mono hb3.size)
  have B4 := Lib.hid (B3.out.below hk)
  have TA4 := Lib.hid (TA3.out.below hk)
  have A4 := Lib.hid (A3.out.below hk)
  have TB4 := Lib.hid (TB3.out.below hk)
  have RB4 := Lib.hid (RB3.out.below hk)
  have CL4 := Lib.hid (CL3.out.below hk)
  (try clear cB); (try clear lB); (try clear dB); (try clear cTA); (try clear lTA); (try clear dTA); (try clear cA); (try clear lA); (try clear dA); (try clear cTB); (try clear lTB); (try clear dTB); (try clear cRB); (try clear lRB); (try clear dRB); (try clear cCL); (try clear lCL); (try clear dCL)
  clear hk B3 TA3 A3 TB3 RB3 CL3 hb3
  have cB := B4.out.cells
  have lB := B4.out.lt
  have cTA := TA4.out.cells
  have lTA := TA4.out.lt
  have cA := A4.out.cells
  have lA := A4.out.lt
  have cTB := TB4.out.cells
  have lTB := TB4.out.lt
  have cRB := RB4.out.cells
  have lRB := RB4.out.lt
  have cCL := CL4.out.cells
  have lCL := CL4.out.lt
  rw [HSS.out.1]
  go_wp2_with fail
  refine (says_any _ h false [((2 : Int), (0 : Int), n)] (some ⟨W2.heap.size + 1 + 1 + 1 + 1, 0, none⟩) 1 [(ck, cv, cf)] _ ⟨some ⟨W2.heap.size + 1 + 1, 0, none⟩, 1, rfl, RowN.of_blk TB4.out rfl rfl (Nat.le_refl _) (by decide)⟩ (RowN.of_blk CL4.out rfl rfl (Nat.le_refl _) (by decide)) (by intro t ht; rw [List.mem_singleton.1 ht]; exact HLR.out.2) (by simp)).mono ?_
  rintro e W5 ⟨rfl, hk⟩
  have hb5 := hb4.trans (hk.mono hb4.size)
  have B5 := Lib.hid (B4.out.below hk)
  have TA5 := Lib.hid (TA4.out.below hk)
  have A5 := Lib.hid (A4.out.below hk)
  have TB5 := Lib.hid (TB4.out.below hk)
  have RB5 := Lib.hid (RB4.out.below hk)
  have CL5 := Lib.hid (CL4.out.below hk)
  (try clear cB); (try clear lB); (try clear dB); (try clear cTA); (try clear lTA); (try clear dTA); (try clear cA); (try clear lA); (try clear dA); (try clear cTB); (try clear lTB); (try clear dTB); (try clear cRB); (try clear lRB); (try clear dRB); (try clear cCL); (try clear lCL); (try clear dCL)
  clear hk B4 TA4 A4 TB4 RB4 CL4 hb4
  have cB := B5.out.cells
  have lB := B5.out.lt
  have cTA := TA5.out.cells
  have lTA := TA5.out.lt
  have cA := A5.out.cells
  have lA := A5.out.lt
  have cTB := TB5.out.cells
  have lTB := TB5.out.lt
  have cRB := RB5.out.cells
  have lRB := RB5.out.lt
  have cCL := CL5.out.cells
  have lCL := CL5.out.lt
  rw [HSS.out.2.1]
  go_wp2_with fail
  refine (joinedL_any _ _ h n _ ⟨some ⟨W2.heap.size, 0, none⟩, 1, rfl, RowN.of_blk TA5.out rfl rfl (Nat.le_refl _) (by decide)⟩ ⟨some ⟨W2.heap.size + 1 + 1, 0, none⟩, 1, rfl, RowN.of_blk TB5.out rfl rfl (Nat.le_refl _) (by decide)⟩).mono ?_
  rintro e W6 ⟨⟨AZ, kZ, rfl, hr⟩, hk⟩
  have hb6 := hb5.trans (hk.mono hb5.size)
  have B6 := Lib.hid (B5.out.below hk)
  have TA6 := Lib.hid (TA5.out.below hk)
  have A6 := Lib.hid (A5.out.below hk)
  have TB6 := Lib.hid (TB5.out.below hk)
  have RB6 := Lib.hid (RB5.out.below hk)
  have CL6 := Lib.hid (CL5.out.below hk)
  (try clear cB); (try clear lB); (try clear dB); (try clear cTA); (try clear lTA); (try clear dTA); (try clear cA); (try clear lA); (try clear dA); (try clear cTB); (try clear lTB); (try clear dTB); (try clear cRB); (try clear lRB); (try clear dRB); (try clear cCL); (try clear lCL); (try clear dCL)
  clear hk B5 TA5 A5 TB5 RB5 CL5 hb5
  have RZ6 := Lib.hid (show RowN 3 W6 (.slice AZ 3 kZ) 3 (c3c [((1 : Int), (0 : Int), n), (2, 0, n), (4, 0, 0)]) from hr)
  clear hr
  have cB := B6.out.cells
  have lB := B6.out.lt
  have cTA := TA6.out.cells
  have lTA := TA6.out.lt
  have cA := A6.out.cells
  have lA := A6.out.lt
  have cTB := TB6.out.cells
  have lTB := TB6.out.lt
  have cRB := RB6.out.cells
  have lRB := RB6.out.lt
  have cCL := CL6.out.cells
  have lCL := CL6.out.lt
  go_wp2_with fail
  refine (says_any _ h false [((1 : Int), (0 : Int), n), (2, 0, n), (4, 0, 0)] (some ⟨W2.heap.size + 1 + 1 + 1 + 1, 0, none⟩) 1 [(ck, cv, cf)] _ ⟨AZ, kZ, rfl, RZ6.out⟩ (RowN.of_blk CL6.out rfl rfl (Nat.le_refl _) (by decide)) (by intro t ht; simp only [List.mem_cons, List.not_mem_nil, or_false] at ht; rcases ht with rfl | rfl | rfl; exact HLR.out.1; exact HLR.out.2; rfl) (by simp)).mono ?_
  rintro e W7 ⟨rfl, hk⟩
  have hb7 := hb6.trans (hk.mono hb6.size)
  have B7 := Lib.hid (B6.out.below hk)
  have TA7 := Lib.hid (TA6.out.below hk)
  have A7 := Lib.hid (A6.out.below hk)
  have TB7 := Lib.hid (TB6.out.below hk)
  have RB7 := Lib.hid (RB6.out.below hk)
  have CL7 := Lib.hid (CL6.out.below hk)
  have RZ7 := Lib.hid (RZ6.out.below hk)
  (try clear cB); (try clear lB); (try clear dB); (try clear cTA); (try clear lTA); (try clear dTA); (try clear cA); (try clear lA); (try clear dA); (try clear cTB); (try clear lTB); (try clear dTB); (try clear cRB); (try clear lRB); (try clear dRB); (try clear cCL); (try clear lCL); (try clear dCL)
  clear hk B6 TA6 A6 TB6 RB6 CL6 RZ6 hb6
  have cB := B7.out.cells
  have lB := B7.out.lt
  have cTA := TA7.out.cells
  have lTA := TA7.out.lt
  have cA := A7.out.cells
  have lA := A7.out.lt
  have cTB := TB7.out.cells
  have lTB := TB7.out.lt
  have cRB := RB7.out.cells
  have lRB := RB7.out.lt
  have cCL := CL7.out.cells
  have lCL := CL7.out.lt
  rw [HSS.out.2.2]
  clear HSS
  have HX : limO (1, 0, n) (ck, cv, cf) = if ck = 1 then (if cv > n then 2 else 1) else 3 := by simp [limO]
  have HY : limO (2, 0, n) (ck, cv, cf) = if ck = 1 then (if cv < n then 2 else 1) else 3 := by simp [limO]
  rw [HX, HY]
  clear HX HY
  by_cases hk : ck = 1
  · subst hk
    simp only [if_true]
    rcases (show cv < n ∨ cv = n ∨ n < cv by omega) with hc | hc | hc
    · have qe : (cv == n) = false := beq_false_of_ne (by omega)
      have ql : decide (cv < n) = true := decide_eq_true (by omega)
      have qg : decide (cv > n) = false := decide_eq_false (by omega)
      rw [show (if cv > n then (2 : Int) else 1) = 1 from if_neg (by omega), show (if cv < n then (2 : Int) else 1) = 2 from if_pos (by omega), show or3 1 2 = 2 by decide]
      clear hc
      go_wp2
      go_ret
      exact ⟨by first | rfl | simp, hb7⟩
    · have qe : (cv == n) = true := by rw [beq_iff_eq]; omega
      have ql : decide (cv < n) = false := decide_eq_false (by omega)
      have qg : decide (cv > n) = false := decide_eq_false (by omega)
      rw [show (if cv > n then (2 : Int) else 1) = 1 from if_neg (by omega), show (if cv < n then (2 : Int) else 1) = 1 from if_neg (by omega), show or3 1 1 = 1 by decide]
      clear hc
      go_wp2
      go_ret
      exact ⟨by first | rfl | simp, hb7⟩
    · have qe : (cv == n) = false := beq_false_of_ne (by omega)
      have ql : decide (cv < n) = false := decide_eq_false (by omega)
      have qg : decide (cv > n) = true := decide_eq_true (by omega)
      rw [show (if cv > n then (2 : Int) else 1) = 2 from if_pos (by omega), show (if cv < n then (2 : Int) else 1) = 1 from if_neg (by omega), show or3 2 1 = 2 by decide]
      clear hc
      go_wp2
      go_ret
      exact ⟨by first | rfl | simp, hb7⟩
  · have qk : (ck == 1) = false := beq_false_of_ne hk
    simp only [if_neg hk]
    rw [show or3 3 3 = 3 by decide]
    clear hk
    go_wp2_with fail
    refine (right_any _ h false [((1 : Int), (0 : Int), n)] 1 _ ⟨some ⟨W2.heap.size, 0, none⟩, 1, rfl, RowN.of_blk TA7.out rfl rfl (Nat.le_refl _) (by decide)⟩).mono ?_
    rintro e u ⟨rfl, hk⟩
    rw [show ruleB h [((1 : Int), (0 : Int), n)] 1 = true by rw [rule_iff HHH.out (by simp) (by intro t ht; rw [List.mem_singleton.1 ht]; exact HLR.out.1) rfl]; rfl]
    have hfin := Btrans hb7 hk
    go_wp2
    go_ret
    exact ⟨by first | rfl | simp, hfin⟩
end Go.Proofs.Ytkipocfdgekkfaa
