/- Layer 18: which rules are right, by the document. -/
import Derived.Test.YtcdmojimdiiepaaRuleEV
import Derived.Laws.EntriesVeiled
namespace Go.Proofs.Ytcdmojimdiiepaa
open Go.ChangeShapes Go.WideShapes Go.ChangeAt Go.RowKit
set_option linter.unusedVariables false
set_option linter.unusedSimpArgs false

theorem op_bad {t : T} {n : Int} (h : ¬ (1 ≤ t.1 ∧ t.1 ≤ 5)) : tRight t n = false := by
  rw [Bool.eq_false_iff]
  exact fun hc => h (tright_op hc)
theorem evalN_take {l : List T} {j p : Nat} {t : T} (h : evalN (l.take j) 0 = some p) (ht : l[j]? = some t) : evalN (l.take (j + 1)) 0 = stepN t p ∧ (stepN t p = none → evalN l 0 = none) := by
  have htk : l.take (j + 1) = l.take j ++ [t] := by rw [List.take_add_one, ht]; rfl
  have e : evalN (l.take (j + 1)) 0 = stepN t p := by
    rw [htk, evalN_app, h]
    show (stepN t p).bind (evalN []) = _
    cases stepN t p <;> rfl
  refine ⟨e, fun hn => ?_⟩
  rw [← List.take_append_drop (j + 1) l, evalN_app, e, hn]
  rfl
theorem lim_op {t : T} (h : isLim t = true) : t.1 = 1 ∨ t.1 = 2 := by
  unfold isLim at h
  rw [Bool.or_eq_true, decide_eq_true_eq, decide_eq_true_eq] at h
  exact h
theorem nolim_op {t : T} (h : isLim t = false) : t.1 ≠ 1 ∧ t.1 ≠ 2 := by
  unfold isLim at h
  rw [Bool.or_eq_false_iff, decide_eq_false_iff_not, decide_eq_false_iff_not] at h
  exact h
set_option maxHeartbeats 8000000 in
theorem rule_rright_any (v : Value) (hold : Int) (latch : Bool) (l : List T) (n : Int) (w : World) (h : IsRule w v hold latch l) :
    Calls Try.prog 34 #[v, .int .i64 n] w fun e w' => e = .returned (.bool (ruleB hold l n)) ∧ Below w.heap.size w w' := by
  obtain ⟨A, rc, rfl, hrow⟩ := h.ex
  have HROW := Lib.hid hrow
  have R0 := Lib.hid (Blk.new w 50 #[.slice A l.length rc, .int .i64 hold, .bool latch] w.heap.size rfl)
  have HAL := Lib.hid ((Below.refl w.heap.size w).alloc (Nat.le_refl _) (.cells #[.slice A l.length rc, .int .i64 hold, .bool latch] 50))
  clear h hrow
  by_cases c1 : hold < 1
  · have g1 : decide (hold < 1) = true := decide_eq_true (by omega)
    rw [rule_false (by omega)]
    clear c1
    go_enter Try.func34, Try.ntmps34
    go_wp2
    go_ret
    exact ⟨by first | rfl | simp, HAL.out⟩
  have g1 : decide (hold < 1) = false := decide_eq_false (by omega)
  by_cases c2 : hold > 1000
  · have g2 : decide (hold > 1000) = true := decide_eq_true (by omega)
    rw [rule_false (by omega)]
    clear c1 c2
    go_enter Try.func34, Try.ntmps34
    go_wp2
    go_ret
    exact ⟨by first | rfl | simp, HAL.out⟩
  have g2 : decide (hold > 1000) = false := decide_eq_false (by omega)
  by_cases c3 : l.length < 1
  · have g3 : decide (((l.length : Nat) : Int) < 1) = true := decide_eq_true (by omega)
    rw [rule_false (by omega)]
    clear c1 c2 c3
    go_enter Try.func34, Try.ntmps34
    go_wp2
    go_ret
    exact ⟨by first | rfl | simp, HAL.out⟩
  have g3 : decide (((l.length : Nat) : Int) < 1) = false := decide_eq_false (by omega)
  by_cases c4 : l.length > 16
  · have g4 : decide (((l.length : Nat) : Int) > 16) = true := decide_eq_true (by omega)
    rw [rule_false (by omega)]
    clear c1 c2 c3 c4
    go_enter Try.func34, Try.ntmps34
    go_wp2
    go_ret
    exact ⟨by first | rfl | simp, HAL.out⟩
  have g4 : decide (((l.length : Nat) : Int) > 16) = false := decide_eq_false (by omega)
  have hrb : ruleB hold l n = (l.all (fun t => tRight t n) && decide (evalN l 0 = some 1)) := by
    unfold ruleB
    rw [decide_eq_true (by omega), Bool.true_and]
  have hl16 : l.length ≤ 16 := by omega
  have HRB := Lib.hid hrb
  clear hrb c1 c2 c3 c4
  go_enter Try.func34, Try.ntmps34
  go_wp2_with fail
  refine wp_world (fun W => Below w.heap.size w W ∧ Blk W w.heap.size 50 #[.slice A l.length rc, .int .i64 hold, .bool latch]) ⟨HAL.out, R0.out⟩ fun W ⟨hbW, hBW⟩ => ?_
  have HBW := Lib.hid hBW
  clear hBW R0 HAL g1 g2 g3 g4
  go_loopw [5, 6] (fun q i wr => ∃ j p : Nat, j ≤ l.length ∧ i = .int .i64 j ∧ q = .int .i64 p ∧ (∀ t ∈ l.take j, tRight t n = true) ∧ evalN (l.take j) 0 = some p ∧ p ≤ j ∧ Below w.heap.size w wr ∧ Blk wr w.heap.size 50 #[.slice A l.length rc, .int .i64 hold, .bool latch]) (fun _ i _ => l.length - (intOf i).toNat)
  case atStart => exact ⟨0, 0, by omega, rfl, rfl, by simp, rfl, by omega, hbW, HBW.out⟩
  case round =>
    clear hbW HBW
    obtain ⟨j, p, hj, rfl, rfl, hall, hev, hpj, hb, hB⟩ := hrel
    have HB := Lib.hid hB
    have HA := Lib.hid hall
    have HEV := Lib.hid hev
    have cB := hB.cells
    have lB := hB.lt
    clear hB hall hev
    by_cases hlt : j < l.length
    · obtain ⟨t, ht⟩ : ∃ t, l[j]? = some t := ⟨_, List.getElem?_eq_getElem hlt⟩
      obtain ⟨ad, rfl, had, c0, c1, c2⟩ := row3_at HROW.out ht
      have e0 : wr.cell? (ad.add (j * 3)) = some (.int .i64 t.1) := by rw [hb.cell (by rw [block_add]; exact had)]; exact c0
      have e1 : wr.cell? ⟨(ad.add (j * 3)).block, (ad.add (j * 3)).off + 1, none⟩ = some (.int .i64 t.2.1) := by rw [hb.cell (by show (ad.add (j * 3)).block < _; rw [block_add]; exact had)]; exact c1
      have e2 : wr.cell? ⟨(ad.add (j * 3)).block, (ad.add (j * 3)).off + 2, none⟩ = some (.int .i64 t.2.2) := by rw [hb.cell (by show (ad.add (j * 3)).block < _; rw [block_add]; exact had)]; exact c2
      have hjl : (j : Int) < (l.length : Int) := by omega
      have htk : l.take (j + 1) = l.take j ++ [t] := by rw [List.take_add_one, ht]; rfl
      have HTK := Lib.hid htk
      have HMEM := Lib.hid (List.mem_of_getElem? ht)
      have hen := evalN_take HEV.out ht
      have HST := Lib.hid hen.1
      have HNO := Lib.hid hen.2
      have hal1 := (Below.refl wr.heap.size wr).alloc (Nat.le_refl _) (.cells #[.int .i64 t.1, .int .i64 t.2.1, .int .i64 t.2.2] 103)
      have HB1 := Lib.hid (HB.out.below hal1)
      have hb3 := Btrans hb hal1
      have HX1 := Lib.hid (Blk.new wr 103 #[.int .i64 t.1, .int .i64 t.2.1, .int .i64 t.2.2] wr.heap.size rfl)
      clear c0 c1 c2 ht htk hal1 hen
      by_cases o1 : t.1 < 1
      · have f1 : decide (t.1 < 1) = true := decide_eq_true o1
        have HT := Lib.hid (op_bad (t := t) (n := n) (by omega))
        clear o1
        go_wp2
        go_ret
        refine ⟨ret_bool ?_, hb3⟩
        rw [HRB.out]
        have : l.all (fun t => tRight t n) = false := List.all_eq_false.2 ⟨t, HMEM.out, by rw [HT.out]; decide⟩
        rw [this]
        rfl
      have f1 : decide (t.1 < 1) = false := decide_eq_false o1
      by_cases o2 : t.1 > 5
      · have f2 : decide (t.1 > 5) = true := decide_eq_true o2
        have HT := Lib.hid (op_bad (t := t) (n := n) (by omega))
        clear o1 o2
        go_wp2
        go_ret
        refine ⟨ret_bool ?_, hb3⟩
        rw [HRB.out]
        have : l.all (fun t => tRight t n) = false := List.all_eq_false.2 ⟨t, HMEM.out, by rw [HT.out]; decide⟩
        rw [this]
        rfl
      have f2 : decide (t.1 > 5) = false := decide_eq_false o2
      have HO1 := Lib.hid o1
      have HO2 := Lib.hid o2
      clear o1 o2
      go_wp2_with fail
      refine (rlimit_any t _).mono ?_
      rintro e w3 ⟨rfl, hk⟩
      have hb4 := Btrans hb3 hk
      have HB3 := Lib.hid (HB1.out.below hk)
      have hx := (HX1.out.below hk).cells
      clear hk hb3 HB1 e0 e1 e2 hb HB HX1 cB lB f1 f2
      have hb3 := hb4
      clear hb4
      cases hlm : isLim t with
      | true =>
        have htr : tRight t n = decide (0 ≤ t.2.1 ∧ t.2.1 < n ∧ -2147483648 ≤ t.2.2 ∧ t.2.2 ≤ 2147483648) := by unfold tRight; rw [hlm]; rfl
        have hsn : stepN t p = some (p + 1) := by unfold stepN; rw [hlm]; rfl
        have HTR := Lib.hid htr
        have HSN := Lib.hid hsn
        clear htr hsn hlm
        by_cases a1 : t.2.1 < 0
        · have f1 : decide (t.2.1 < 0) = true := decide_eq_true a1
          have HT := Lib.hid (HTR.out.trans (decide_eq_false (by omega)))
          clear a1
          go_wp2
          go_ret
          refine ⟨ret_bool ?_, hb3⟩
          rw [HRB.out]
          have : l.all (fun t => tRight t n) = false := List.all_eq_false.2 ⟨t, HMEM.out, by rw [HT.out]; decide⟩
          rw [this]
          rfl
        have f1 : decide (t.2.1 < 0) = false := decide_eq_false a1
        by_cases a2 : t.2.1 ≥ n
        · have f2 : decide (t.2.1 ≥ n) = true := decide_eq_true a2
          have HT := Lib.hid (HTR.out.trans (decide_eq_false (by omega)))
          clear a1 a2
          go_wp2
          go_ret
          refine ⟨ret_bool ?_, hb3⟩
          rw [HRB.out]
          have : l.all (fun t => tRight t n) = false := List.all_eq_false.2 ⟨t, HMEM.out, by rw [HT.out]; decide⟩
          rw [this]
          rfl
        have f2 : decide (t.2.1 ≥ n) = false := decide_eq_false a2
        by_cases a3 : t.2.2 < -2147483648
        · have f3 : decide (t.2.2 < -2147483648) = true := decide_eq_true a3
          have HT := Lib.hid (HTR.out.trans (decide_eq_false (by omega)))
          clear a1 a2 a3
          go_wp2
          go_ret
          refine ⟨ret_bool ?_, hb3⟩
          rw [HRB.out]
          have : l.all (fun t => tRight t n) = false := List.all_eq_false.2 ⟨t, HMEM.out, by rw [HT.out]; decide⟩
          rw [this]
          rfl
        have f3 : decide (t.2.2 < -2147483648) = false := decide_eq_false a3
        by_cases a4 : t.2.2 > 2147483648
        · have f4 : decide (t.2.2 > 2147483648) = true := decide_eq_true a4
          have HT := Lib.hid (HTR.out.trans (decide_eq_false (by omega)))
          clear a1 a2 a3 a4
          go_wp2
          go_ret
          refine ⟨ret_bool ?_, hb3⟩
          rw [HRB.out]
          have : l.all (fun t => tRight t n) = false := List.all_eq_false.2 ⟨t, HMEM.out, by rw [HT.out]; decide⟩
          rw [this]
          rfl
        have f4 : decide (t.2.2 > 2147483648) = false := decide_eq_false a4
        have HT := Lib.hid (HTR.out.trans (decide_eq_true (by omega)))
        have hw1 : IntKind.i64.wrap ((p : Int) + 1) = (p : Int) + 1 := IntWalk.i64_in _ (by omega)
        clear a1 a2 a3 a4
        go_wp2
        go_roundw
        case rel => exact ⟨j + 1, p + 1, by omega, by go_num, by go_num, fun x hx => by rw [HTK.out] at hx; rcases List.mem_append.1 hx with hx | hx; exact HA.out x hx; simp at hx; subst hx; exact HT.out, HST.out.trans HSN.out, by omega, hb3, HB3.out⟩
        case measure => simp [intOf]; omega
      | false =>
        have hno := nolim_op hlm
        have htr : tRight t n = decide (3 ≤ t.1 ∧ t.1 ≤ 5 ∧ t.2.1 = 0 ∧ t.2.2 = 0) := by unfold tRight; rw [hlm]; rfl
        have hop3 : 3 ≤ t.1 ∧ t.1 ≤ 5 := by have := HO1.out; have := HO2.out; omega
        have HTR := Lib.hid htr
        have HOP := Lib.hid hop3
        have hsn : stepN t p = (if t.1 = 5 then (if p = 0 then none else some p) else if p < 2 then none else some (p - 1)) := by unfold stepN; rw [hlm]; rfl
        have HSN := Lib.hid hsn
        clear htr hsn hlm hno hop3
        by_cases h5 : t.1 = 5
        · skip
          have q5 : (t.1 == 5) = true := by rw [beq_iff_eq]; exact h5
          have HSN2 := Lib.hid (HSN.out.trans (if_pos h5))
          clear h5
          by_cases a1 : ¬ t.2.1 = 0
          · have f1 : (t.2.1 != 0) = true := by rw [bne_iff_ne]; exact a1
            have HT := Lib.hid (HTR.out.trans (decide_eq_false (fun h => a1 h.2.2.1)))
            clear a1
            go_wp2
            go_ret
            refine ⟨ret_bool ?_, hb3⟩
            rw [HRB.out]
            have : l.all (fun t => tRight t n) = false := List.all_eq_false.2 ⟨t, HMEM.out, by rw [HT.out]; decide⟩
            rw [this]
            rfl
          rw [Classical.not_not] at a1
          have f1 : (t.2.1 != 0) = false := by rw [bne_eq_false_iff_eq]; exact a1
          by_cases a2 : ¬ t.2.2 = 0
          · have f2 : (t.2.2 != 0) = true := by rw [bne_iff_ne]; exact a2
            have HT := Lib.hid (HTR.out.trans (decide_eq_false (fun h => a2 h.2.2.2)))
            clear a1 a2
            go_wp2
            go_ret
            refine ⟨ret_bool ?_, hb3⟩
            rw [HRB.out]
            have : l.all (fun t => tRight t n) = false := List.all_eq_false.2 ⟨t, HMEM.out, by rw [HT.out]; decide⟩
            rw [this]
            rfl
          rw [Classical.not_not] at a2
          have f2 : (t.2.2 != 0) = false := by rw [bne_eq_false_iff_eq]; exact a2
          have HT := Lib.hid (HTR.out.trans (decide_eq_true ⟨HOP.out.1, HOP.out.2, a1, a2⟩))
          clear a1 a2
          by_cases a3 : p < 1
          · have f3 : decide ((p : Int) < 1) = true := decide_eq_true (by omega)
            have HN := Lib.hid (HSN2.out.trans (if_pos (by omega)))
            clear a3
            go_wp2
            go_ret
            refine ⟨ret_bool ?_, hb3⟩
            rw [HRB.out]
            rw [HNO.out HN.out, Bool.and_comm]
            rfl
          have f3 : decide ((p : Int) < 1) = false := decide_eq_false (by omega)
          have HN := Lib.hid (HSN2.out.trans (if_neg (by omega)))
          have hw1 : IntKind.i64.wrap ((p : Int) - 1) = (p : Int) - 1 := IntWalk.i64_in _ (by omega)
          have hw2 : IntKind.i64.wrap ((p : Int) - 1 + 1) = ((p - 0 : Nat) : Int) := by rw [IntWalk.i64_in _ (by omega)]; omega
          go_wp2
          go_roundw
          case rel => exact ⟨j + 1, p - 0, by omega, by go_num, rfl, fun x hx => by rw [HTK.out] at hx; rcases List.mem_append.1 hx with hx | hx; exact HA.out x hx; simp at hx; subst hx; exact HT.out, HST.out.trans HN.out, by omega, hb3, HB3.out⟩
          case measure => simp [intOf]; omega
        · skip
          have q5 : (t.1 == 5) = false := beq_false_of_ne h5
          have HSN2 := Lib.hid (HSN.out.trans (if_neg h5))
          clear h5
          by_cases a1 : ¬ t.2.1 = 0
          · have f1 : (t.2.1 != 0) = true := by rw [bne_iff_ne]; exact a1
            have HT := Lib.hid (HTR.out.trans (decide_eq_false (fun h => a1 h.2.2.1)))
            clear a1
            go_wp2
            go_ret
            refine ⟨ret_bool ?_, hb3⟩
            rw [HRB.out]
            have : l.all (fun t => tRight t n) = false := List.all_eq_false.2 ⟨t, HMEM.out, by rw [HT.out]; decide⟩
            rw [this]
            rfl
          rw [Classical.not_not] at a1
          have f1 : (t.2.1 != 0) = false := by rw [bne_eq_false_iff_eq]; exact a1
          by_cases a2 : ¬ t.2.2 = 0
          · have f2 : (t.2.2 != 0) = true := by rw [bne_iff_ne]; exact a2
            have HT := Lib.hid (HTR.out.trans (decide_eq_false (fun h => a2 h.2.2.2)))
            clear a1 a2
            go_wp2
            go_ret
            refine ⟨ret_bool ?_, hb3⟩
            rw [HRB.out]
            have : l.all (fun t => tRight t n) = false := List.all_eq_false.2 ⟨t, HMEM.out, by rw [HT.out]; decide⟩
            rw [this]
            rfl
          rw [Classical.not_not] at a2
          have f2 : (t.2.2 != 0) = false := by rw [bne_eq_false_iff_eq]; exact a2
          have HT := Lib.hid (HTR.out.trans (decide_eq_true ⟨HOP.out.1, HOP.out.2, a1, a2⟩))
          clear a1 a2
          by_cases a3 : p < 2
          · have f3 : decide ((p : Int) < 2) = true := decide_eq_true (by omega)
            have HN := Lib.hid (HSN2.out.trans (if_pos (by omega)))
            clear a3
            go_wp2
            go_ret
            refine ⟨ret_bool ?_, hb3⟩
            rw [HRB.out]
            rw [HNO.out HN.out, Bool.and_comm]
            rfl
          have f3 : decide ((p : Int) < 2) = false := decide_eq_false (by omega)
          have HN := Lib.hid (HSN2.out.trans (if_neg (by omega)))
          have hw1 : IntKind.i64.wrap ((p : Int) - 2) = (p : Int) - 2 := IntWalk.i64_in _ (by omega)
          have hw2 : IntKind.i64.wrap ((p : Int) - 2 + 1) = ((p - 1 : Nat) : Int) := by rw [IntWalk.i64_in _ (by omega)]; omega
          go_wp2
          go_roundw
          case rel => exact ⟨j + 1, p - 1, by omega, by go_num, rfl, fun x hx => by rw [HTK.out] at hx; rcases List.mem_append.1 hx with hx | hx; exact HA.out x hx; simp at hx; subst hx; exact HT.out, HST.out.trans HN.out, by omega, hb3, HB3.out⟩
          case measure => simp [intOf]; omega
    · have he : j = l.length := by omega
      subst he
      have hA := HA.out
      have hE := HEV.out
      rw [List.take_length] at hA hE
      have HALL := Lib.hid hA
      have HE := Lib.hid hE
      clear hA hE
      by_cases h1 : p = 1
      · have q1 : ((p : Int) == 1) = true := by rw [beq_iff_eq]; omega
        have HQ := Lib.hid (show decide (evalN l 0 = some 1) = true by rw [HE.out, h1]; rfl)
        clear h1
        go_wp2
        go_ret
        refine ⟨ret_bool ?_, hb⟩
        rw [HRB.out, HQ.out, List.all_eq_true.2 HALL.out]
        rfl
      · have q1 : ((p : Int) == 1) = false := beq_false_of_ne (by omega)
        have HQ := Lib.hid (show decide (evalN l 0 = some 1) = false by rw [HE.out]; exact decide_eq_false (by simpa using h1))
        clear h1
        go_wp2
        go_ret
        refine ⟨ret_bool ?_, hb⟩
        rw [HRB.out, HQ.out, Bool.and_false]
end Go.Proofs.Ytcdmojimdiiepaa
