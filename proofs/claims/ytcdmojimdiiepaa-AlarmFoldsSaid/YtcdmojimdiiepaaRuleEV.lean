/- Layer 18: which rules are right; what they say. -/
import Derived.Test.YtcdmojimdiiepaaRuleDV
import Derived.WideMake
import Derived.Laws.EntriesVeiled
namespace Go.Proofs.Ytcdmojimdiiepaa
open Go.ChangeShapes Go.WideShapes Go.ChangeAt Go.RowKit
set_option linter.unusedVariables false
set_option linter.unusedSimpArgs false


theorem islim_any (t : T) (w : World) : Calls Try.prog 48 #[.agg #[.int .i64 t.1, .int .i64 t.2.1, .int .i64 t.2.2]] w fun e w' => e = .returned (.bool (isLim t)) ∧ Below w.heap.size w w' := by
  by_cases h1 : t.1 = 1
  · have q1 : (t.1 == 1) = true := by rw [beq_iff_eq]; exact h1
    have e : isLim t = true := by unfold isLim; rw [decide_eq_true h1]; rfl
    rw [e]
    clear e h1
    go_enter Try.func48, Try.ntmps48
    go_wp2
    go_ret
    exact ⟨by first | rfl | simp, by go_grown⟩
  · have q1 : (t.1 == 1) = false := beq_false_of_ne h1
    by_cases h2 : t.1 = 2
    · have q2 : (t.1 == 2) = true := by rw [beq_iff_eq]; exact h2
      have e : isLim t = true := by unfold isLim; rw [decide_eq_true h2, Bool.or_true]
      rw [e]
      clear e h2 h1
      go_enter Try.func48, Try.ntmps48
      go_wp2
      go_ret
      exact ⟨by first | rfl | simp, by go_grown⟩
    · have q2 : (t.1 == 2) = false := beq_false_of_ne h2
      have e : isLim t = false := by unfold isLim; rw [decide_eq_false h1, decide_eq_false h2]; rfl
      rw [e]
      clear e h2 h1
      go_enter Try.func48, Try.ntmps48
      go_wp2
      go_ret
      exact ⟨by first | rfl | simp, by go_grown⟩

theorem rlimit_any (t : T) (w : World) : Calls Try.prog 58 #[.agg #[.int .i64 t.1, .int .i64 t.2.1, .int .i64 t.2.2]] w fun e w' => e = .returned (.bool (isLim t)) ∧ Below w.heap.size w w' := by
  by_cases h1 : t.1 = 1
  · have q1 : (t.1 == 1) = true := by rw [beq_iff_eq]; exact h1
    have e : isLim t = true := by unfold isLim; rw [decide_eq_true h1]; rfl
    rw [e]
    clear e h1
    go_enter Try.func58, Try.ntmps58
    go_wp2
    go_ret
    exact ⟨by first | rfl | simp, by go_grown⟩
  · have q1 : (t.1 == 1) = false := beq_false_of_ne h1
    by_cases h2 : t.1 = 2
    · have q2 : (t.1 == 2) = true := by rw [beq_iff_eq]; exact h2
      have e : isLim t = true := by unfold isLim; rw [decide_eq_true h2, Bool.or_true]
      rw [e]
      clear e h2 h1
      go_enter Try.func58, Try.ntmps58
      go_wp2
      go_ret
      exact ⟨by first | rfl | simp, by go_grown⟩
    · have q2 : (t.1 == 2) = false := beq_false_of_ne h2
      have e : isLim t = false := by unfold isLim; rw [decide_eq_false h1, decide_eq_false h2]; rfl
      rw [e]
      clear e h2 h1
      go_enter Try.func58, Try.ntmps58
      go_wp2
      go_ret
      exact ⟨by first | rfl | simp, by go_grown⟩

set_option maxHeartbeats 2000000 in
theorem termright_any (t : T) (n : Int) (w : World) : Calls Try.prog 55 #[.agg #[.int .i64 t.1, .int .i64 t.2.1, .int .i64 t.2.2], .int .i64 n] w fun e w' => e = .returned (.bool (tRight t n)) ∧ Below w.heap.size w w' := by
  have R0 := Lib.hid (Blk.new w 103 #[.int .i64 t.1, .int .i64 t.2.1, .int .i64 t.2.2] w.heap.size rfl)
  have hal := (Below.refl w.heap.size w).alloc (Nat.le_refl _) (.cells #[.int .i64 t.1, .int .i64 t.2.1, .int .i64 t.2.2] 103)
  go_enter Try.func55, Try.ntmps55
  go_wp2_with fail
  refine (islim_any t _).mono ?_
  rintro e w1 ⟨rfl, hk⟩
  have hb1 := hal.trans (hk.mono (by simp))
  have hx := (R0.out.below hk).cells
  clear hk hal
  cases hl : isLim t with
  | true =>
    have e : tRight t n = decide (0 ≤ t.2.1 ∧ t.2.1 < n ∧ -2147483648 ≤ t.2.2 ∧ t.2.2 ≤ 2147483648) := by unfold tRight; rw [hl]; rfl
    have HE := Lib.hid e
    clear e hl
    by_cases c1 : 0 ≤ t.2.1
    · have g1 : decide (t.2.1 ≥ 0) = true := decide_eq_true c1
      by_cases c2 : t.2.1 < n
      · have g2 : decide (t.2.1 < n) = true := decide_eq_true c2
        by_cases c3 : -2147483648 ≤ t.2.2
        · have g3 : decide (t.2.2 ≥ -2147483648) = true := decide_eq_true c3
          by_cases c4 : t.2.2 ≤ 2147483648
          · have g4 : decide (t.2.2 ≤ 2147483648) = true := decide_eq_true c4
            have HV := Lib.hid (HE.out.trans (decide_eq_true ⟨c1, c2, c3, c4⟩))
            clear c1 c2 c3 c4
            go_wp2
            go_ret
            exact ⟨by rw [HV.out]; first | rfl | simp, hb1⟩
          · have g4 : decide (t.2.2 ≤ 2147483648) = false := decide_eq_false c4
            have HV := Lib.hid (HE.out.trans (decide_eq_false (fun h => c4 h.2.2.2)))
            clear c1 c2 c3 c4
            go_wp2
            go_ret
            exact ⟨by rw [HV.out]; first | rfl | simp, hb1⟩
        · have g3 : decide (t.2.2 ≥ -2147483648) = false := decide_eq_false c3
          have HV := Lib.hid (HE.out.trans (decide_eq_false (fun h => c3 h.2.2.1)))
          clear c1 c2 c3
          go_wp2
          go_ret
          exact ⟨by rw [HV.out]; first | rfl | simp, hb1⟩
      · have g2 : decide (t.2.1 < n) = false := decide_eq_false c2
        have HV := Lib.hid (HE.out.trans (decide_eq_false (fun h => c2 h.2.1)))
        clear c1 c2
        go_wp2
        go_ret
        exact ⟨by rw [HV.out]; first | rfl | simp, hb1⟩
    · have g1 : decide (t.2.1 ≥ 0) = false := decide_eq_false c1
      have HV := Lib.hid (HE.out.trans (decide_eq_false (fun h => c1 h.1)))
      clear c1
      go_wp2
      go_ret
      exact ⟨by rw [HV.out]; first | rfl | simp, hb1⟩
  | false =>
    have e : tRight t n = decide (3 ≤ t.1 ∧ t.1 ≤ 5 ∧ t.2.1 = 0 ∧ t.2.2 = 0) := by unfold tRight; rw [hl]; rfl
    have HE := Lib.hid e
    clear e hl
    by_cases c1 : 3 ≤ t.1
    · have g1 : decide (t.1 ≥ 3) = true := decide_eq_true c1
      by_cases c2 : t.1 ≤ 5
      · have g2 : decide (t.1 ≤ 5) = true := decide_eq_true c2
        by_cases c3 : t.2.1 = 0
        · have g3 : (t.2.1 == 0) = true := by rw [beq_iff_eq]; exact c3
          by_cases c4 : t.2.2 = 0
          · have g4 : (t.2.2 == 0) = true := by rw [beq_iff_eq]; exact c4
            have HV := Lib.hid (HE.out.trans (decide_eq_true ⟨c1, c2, c3, c4⟩))
            clear c1 c2 c3 c4
            go_wp2
            go_ret
            exact ⟨by rw [HV.out]; first | rfl | simp, hb1⟩
          · have g4 : (t.2.2 == 0) = false := beq_false_of_ne c4
            have HV := Lib.hid (HE.out.trans (decide_eq_false (fun h => c4 h.2.2.2)))
            clear c1 c2 c3 c4
            go_wp2
            go_ret
            exact ⟨by rw [HV.out]; first | rfl | simp, hb1⟩
        · have g3 : (t.2.1 == 0) = false := beq_false_of_ne c3
          have HV := Lib.hid (HE.out.trans (decide_eq_false (fun h => c3 h.2.2.1)))
          clear c1 c2 c3
          go_wp2
          go_ret
          exact ⟨by rw [HV.out]; first | rfl | simp, hb1⟩
      · have g2 : decide (t.1 ≤ 5) = false := decide_eq_false c2
        have HV := Lib.hid (HE.out.trans (decide_eq_false (fun h => c2 h.2.1)))
        clear c1 c2
        go_wp2
        go_ret
        exact ⟨by rw [HV.out]; first | rfl | simp, hb1⟩
    · have g1 : decide (t.1 ≥ 3) = false := decide_eq_false c1
      have HV := Lib.hid (HE.out.trans (decide_eq_false (fun h => c1 h.1)))
      clear c1
      go_wp2
      go_ret
      exact ⟨by rw [HV.out]; first | rfl | simp, hb1⟩

theorem tright_op {t : T} {n : Int} (h : tRight t n = true) : 1 ≤ t.1 ∧ t.1 ≤ 5 := by
  unfold tRight at h
  cases hl : isLim t with
  | true =>
    unfold isLim at hl
    rw [Bool.or_eq_true, decide_eq_true_eq, decide_eq_true_eq] at hl
    omega
  | false =>
    rw [hl] at h
    simp only [Bool.false_eq_true, if_false] at h
    have := of_decide_eq_true h
    omega
theorem tright_ch {t : T} {n : Int} (h : tRight t n = true) (hl : isLim t = true) : 0 ≤ t.2.1 ∧ t.2.1 < n := by
  unfold tRight at h
  rw [hl, if_pos rfl] at h
  have := of_decide_eq_true h
  omega
theorem rule_false {hold n : Int} {l : List T} (h : ¬ (1 ≤ hold ∧ hold ≤ 1000 ∧ 1 ≤ l.length ∧ l.length ≤ 16)) : ruleB hold l n = false := by
  unfold ruleB
  rw [decide_eq_false h]
  rfl
/-- a rule in memory -/
structure IsRule (w : World) (v : Value) (hold : Int) (latch : Bool) (l : List T) : Prop where
  ex : ∃ A rc, v = .agg #[.slice A l.length rc, .int .i64 hold, .bool latch] ∧ RowN 3 w (.slice A l.length rc) l.length (c3c l)
theorem IsRule.below {w w' : World} {v : Value} {hold : Int} {latch : Bool} {l : List T} (h : IsRule w v hold latch l) (hb : Below w.heap.size w w') : IsRule w' v hold latch l := by
  obtain ⟨A, rc, e, hr⟩ := h.ex
  exact ⟨A, rc, e, hr.below hb⟩
set_option maxHeartbeats 4000000 in
theorem rule_right_any (v : Value) (hold : Int) (latch : Bool) (l : List T) (n : Int) (w : World) (h : IsRule w v hold latch l) :
    Calls Try.prog 31 #[v, .int .i64 n] w fun e w' => e = .returned (.bool (ruleB hold l n)) ∧ Below w.heap.size w w' := by
  obtain ⟨A, rc, rfl, hrow⟩ := h.ex
  have HROW := Lib.hid hrow
  have R0 := Lib.hid (Blk.new w 50 #[.slice A l.length rc, .int .i64 hold, .bool latch] w.heap.size rfl)
  have HAL := Lib.hid ((Below.refl w.heap.size w).alloc (Nat.le_refl _) (.cells #[.slice A l.length rc, .int .i64 hold, .bool latch] 50))
  clear h hrow
  by_cases c1 : hold < 1
  · have g1 : decide (hold < 1) = true := decide_eq_true c1
    rw [rule_false (by omega)]
    clear c1
    go_enter Try.func31, Try.ntmps31
    go_wp2
    go_ret
    exact ⟨by first | rfl | simp, HAL.out⟩
  have g1 : decide (hold < 1) = false := decide_eq_false c1
  by_cases c2 : hold > 1000
  · have g2 : decide (hold > 1000) = true := decide_eq_true c2
    rw [rule_false (by omega)]
    clear c1 c2
    go_enter Try.func31, Try.ntmps31
    go_wp2
    go_ret
    exact ⟨by first | rfl | simp, HAL.out⟩
  have g2 : decide (hold > 1000) = false := decide_eq_false c2
  by_cases c3 : l.length < 1
  · have g3 : decide (((l.length : Nat) : Int) < 1) = true := decide_eq_true (by omega)
    rw [rule_false (by omega)]
    clear c1 c2 c3
    go_enter Try.func31, Try.ntmps31
    go_wp2
    go_ret
    exact ⟨by first | rfl | simp, HAL.out⟩
  have g3 : decide (((l.length : Nat) : Int) < 1) = false := decide_eq_false (by omega)
  by_cases c4 : l.length > 16
  · have g4 : decide (((l.length : Nat) : Int) > 16) = true := decide_eq_true (by omega)
    rw [rule_false (by omega)]
    clear c1 c2 c3 c4
    go_enter Try.func31, Try.ntmps31
    go_wp2
    go_ret
    exact ⟨by first | rfl | simp, HAL.out⟩
  have g4 : decide (((l.length : Nat) : Int) > 16) = false := decide_eq_false (by omega)
  have hrb : ruleB hold l n = (l.all (fun t => tRight t n) && decide (evalN l 0 = some 1)) := by
    unfold ruleB
    rw [decide_eq_true (by omega), Bool.true_and]
  have hl16 : l.length ≤ 16 := by omega
  have HRB := Lib.hid hrb
  clear hrb c1 c2 c3 c4
  go_enter Try.func31, Try.ntmps31
  go_wp2_with fail
  refine wp_world (fun W => Below w.heap.size w W ∧ Blk W w.heap.size 50 #[.slice A l.length rc, .int .i64 hold, .bool latch]) ⟨HAL.out, R0.out⟩ fun W ⟨hbW, hBW⟩ => ?_
  have HBW := Lib.hid hBW
  clear hBW R0 HAL g1 g2 g3 g4
  go_loopw [32] (fun i wr => ∃ j : Nat, j ≤ l.length ∧ i = .int .i64 j ∧ (∀ t ∈ l.take j, tRight t n = true) ∧ Below w.heap.size w wr ∧ Blk wr w.heap.size 50 #[.slice A l.length rc, .int .i64 hold, .bool latch]) (fun i _ => l.length - (intOf i).toNat)
  case atStart => exact ⟨0, by omega, rfl, by simp, hbW, HBW.out⟩
  case round =>
    clear hbW HBW
    obtain ⟨j, hj, rfl, hall, hb, hB⟩ := hrel
    have HB := Lib.hid hB
    have HA := Lib.hid hall
    clear hB hall
    by_cases hlt : j < l.length
    · obtain ⟨t, ht⟩ : ∃ t, l[j]? = some t := ⟨_, List.getElem?_eq_getElem hlt⟩
      obtain ⟨ad, rfl, had, c0, c1, c2⟩ := row3_at HROW.out ht
      have e0 : wr.cell? (ad.add (j * 3)) = some (.int .i64 t.1) := by rw [hb.cell (by rw [block_add]; exact had)]; exact c0
      have e1 : wr.cell? ⟨(ad.add (j * 3)).block, (ad.add (j * 3)).off + 1, none⟩ = some (.int .i64 t.2.1) := by rw [hb.cell (by show (ad.add (j * 3)).block < _; rw [block_add]; exact had)]; exact c1
      have e2 : wr.cell? ⟨(ad.add (j * 3)).block, (ad.add (j * 3)).off + 2, none⟩ = some (.int .i64 t.2.2) := by rw [hb.cell (by show (ad.add (j * 3)).block < _; rw [block_add]; exact had)]; exact c2
      have hjl : (j : Int) < (l.length : Int) := by omega
      have htk : l.take (j + 1) = l.take j ++ [t] := by rw [List.take_add_one, ht]; rfl
      have HTK := Lib.hid htk
      have HMEM := Lib.hid (List.mem_of_getElem? ht)
      have hal1 := (Below.refl wr.heap.size wr).alloc (Nat.le_refl _) (.cells #[.int .i64 t.1, .int .i64 t.2.1, .int .i64 t.2.2] 103)
      have HB1 := Lib.hid (HB.out.below hal1)
      have hb1 := Btrans hb hal1
      clear c0 c1 c2 ht htk hal1
      go_wp2_with fail
      refine (termright_any t n _).mono ?_
      rintro e w3 ⟨rfl, hk⟩
      have hb3 := Btrans hb1 hk
      have HB3 := Lib.hid (HB1.out.below hk)
      clear hk hb1 HB1 e0 e1 e2 hb HB
      cases htr : tRight t n with
      | true =>
        have HTR := Lib.hid htr
        clear htr
        go_wp2
        go_roundw
        case rel => exact ⟨j + 1, by omega, by go_num, fun x hx => by rw [HTK.out] at hx; rcases List.mem_append.1 hx with hx | hx; exact HA.out x hx; simp at hx; subst hx; exact HTR.out, hb3, HB3.out⟩
        case measure => simp [intOf]; omega
      | false =>
        have HTR := Lib.hid htr
        clear htr
        go_wp2
        go_ret
        refine ⟨ret_bool ?_, hb3⟩
        rw [HRB.out]
        have : l.all (fun t => tRight t n) = false := List.all_eq_false.2 ⟨t, HMEM.out, by rw [HTR.out]; decide⟩
        rw [this]
        rfl
    · have he : j = l.length := by omega
      subst he
      have hA := HA.out
      rw [List.take_length] at hA
      have HALL := Lib.hid hA
      have cB := HB.out.cells
      clear hA
      go_wp2_with fail
      refine (saidR_any _ A rc hold latch l (HROW.out.below hb) (by omega) (fun t ht => tright_op (HALL.out t ht))).mono ?_
      rintro e w3 ⟨rfl, hk⟩
      have hb3 := Btrans hb hk
      clear hk cB
      go_wp2
      go_ret
      refine ⟨ret_bool ?_, hb3⟩
      rw [HRB.out, said_2, List.all_eq_true.2 HALL.out, Bool.true_and]

set_option maxHeartbeats 4000000 in
theorem says_any (v : Value) (hold : Int) (latch : Bool) (l : List T) (CA : Option Addr) (cc : Nat) (cs : List Cl) (w : World) (h : IsRule w v hold latch l) (hc : RowN 3 w (.slice CA cs.length cc) cs.length (c3c cs)) (hr : ∀ t ∈ l, tRight t (cs.length : Int) = true) (hl : l.length ≤ 100) :
    Calls Try.prog 24 #[v, .slice CA cs.length cc] w fun e w' => e = .returned (.int .i64 (saysR l cs)) ∧ Below w.heap.size w w' := by
  obtain ⟨A, rc, rfl, hrow⟩ := h.ex
  have hmf : ∀ (fn : Fn) (first cap : Array Value) (w : World), (Instr.makeFunc fn first cap).run Try.prog w = .ok (.func fn first cap) w := fun _ _ _ _ => rfl
  have HROW := Lib.hid hrow
  have HC := Lib.hid hc
  have HR := Lib.hid hr
  clear h hrow hc hr
  go_enter Try.func24, Try.ntmps24
  go_wp2_with fail
  refine calls_world (fun W => Below w.heap.size w W ∧ Blk W (w.heap.size + 1) 35 #[.slice CA cs.length cc]) ⟨by go_grown, Blk.new _ _ _ _ (by simp)⟩ fun W ⟨hbW, hBW⟩ => ?_
  have hlW := hBW.lt
  refine (saidS_any W A rc hold latch l (HROW.out.below hbW) hl (fun t ht => tright_op (HR.out t ht)) (w.heap.size + 1) cc CA cs (by rw [hBW.cells]; rfl) hlW (HC.out.below hbW) (fun t ht hlm => tright_ch (HR.out t ht) hlm)).mono ?_
  rintro e w3 ⟨rfl, hk⟩
  have hb3 := Btrans hbW hk
  clear hk hBW
  go_wp2
  go_ret
  exact ⟨rfl, hb3⟩
end Go.Proofs.Ytcdmojimdiiepaa
