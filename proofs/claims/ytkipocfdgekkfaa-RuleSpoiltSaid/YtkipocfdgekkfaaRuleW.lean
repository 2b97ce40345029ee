/- Layer 18: a rule spoilt. -/
import Derived.Test.YtkipocfdgekkfaaRuleU
import Derived.Test.YtkipocfdgekkfaaRuleK
import Derived.StillTailTactics
namespace Go.Proofs.Ytkipocfdgekkfaa
open Go.ChangeShapes Go.WideShapes Go.ChangeAt Go.RowKit
set_option linter.unusedVariables false
set_option linter.unusedSimpArgs false

theorem isrule_of {w : World} {A : Option Addr} {c n : Nat} {hold : Int} {latch : Bool} {l : List T} (hn : l.length = n) (h : RowN 3 w (.slice A n c) n (c3c l)) : IsRule w (.agg #[.slice A n c, .int .i64 hold, .bool latch]) hold latch l := by
  subst hn
  exact ⟨A, c, rfl, h⟩
theorem ne_own {i g n c : Nat} (h : i ≠ g) : some i ≠ (Value.slice (some ⟨g, 0, none⟩) n c).ownBlock := by
  intro e
  simp only [Value.ownBlock] at e
  injection e with e
  exact h e
theorem ne_new {i g : Nat} (h : i ≠ g) : some i ≠ some g := fun e => h (by injection e)
theorem evalN_snoc (l : List T) (t : T) : evalN (l ++ [t]) 0 = (evalN l 0).bind (stepN t) := by
  rw [evalN_app]
  cases evalN l 0 with
  | none => rfl
  | some p =>
    show (stepN t p).bind (evalN []) = stepN t p
    cases stepN t p <;> rfl
theorem spoil_last {hold n : Int} {l : List T} {t : T} {k : Nat} (h : ruleB hold l n = true) (hk : l.length = k + 1) (ht : l[k]? = some t) : ruleB hold (l.take k) n = decide (t.1 = 5) := by
  obtain ⟨⟨h1, h2, h3, h4⟩, hr, he⟩ := rule_n h
  have hl : l = l.take k ++ [t] := by
    conv => lhs; rw [← List.take_append_drop k l]
    congr 1
    obtain ⟨hlt, hg⟩ := List.getElem?_eq_some_iff.1 ht
    rw [List.drop_eq_getElem_cons hlt, hg, List.drop_of_length_le (by omega)]
  rw [hl, evalN_snoc] at he
  have hlen : (l.take k).length = k := by rw [List.length_take]; omega
  cases hp : evalN (l.take k) 0 with
  | none => rw [hp] at he; cases he
  | some p =>
    rw [hp] at he
    change stepN t p = some 1 at he
    have hkp : k = 0 → p = 0 := fun h0 => by
      subst h0
      rw [List.take_zero] at hp
      injection hp with hp
      exact hp.symm
    by_cases h5 : t.1 = 5
    · rw [decide_eq_true h5]
      unfold ruleB
      have hnl : isLim t = false := by unfold isLim; rw [h5]; rfl
      unfold stepN at he
      rw [hnl, if_neg (by decide), if_pos h5] at he
      by_cases h0 : p = 0
      · rw [if_pos h0] at he; cases he
      · rw [if_neg h0] at he
        injection he with he
        subst he
        rw [hp, Bool.and_eq_true, Bool.and_eq_true, decide_eq_true_eq, hlen, List.all_eq_true]
        refine ⟨⟨⟨h1, h2, ?_, by omega⟩, fun x hx => hr x (List.mem_of_mem_take hx)⟩, rfl⟩
        by_cases hk0 : k = 0
        · have := hkp hk0; omega
        · omega
    · rw [decide_eq_false h5]
      have hp1 : p ≠ 1 := by
        rintro rfl
        unfold stepN at he
        split at he
        · cases he
        · first | (rw [if_neg h5] at he; cases he) | cases he
      unfold ruleB
      rw [hp, decide_eq_false (show ¬ (some p = some 1) from fun e => hp1 (by injection e)), Bool.and_false]
theorem spoil_more {hold n : Int} {l : List T} (h : ruleB hold l n = true) : ruleB hold (l ++ [(1, 0, 0)]) n = false := by
  obtain ⟨_, _, he⟩ := rule_n h
  unfold ruleB
  rw [evalN_snoc, he, show decide ((some 1).bind (stepN (1, 0, 0)) = some 1) = false from by decide, Bool.and_false]
theorem spoil_hold (n : Int) (l : List T) : ruleB 0 l n = false ∧ ruleB 1001 l n = false := by
  constructor
  · unfold ruleB
    rw [decide_eq_false (by omega)]
    rfl
  · unfold ruleB
    rw [decide_eq_false (by omega)]
    rfl
theorem spoil_none {hold n : Int} {l : List T} (h : ruleB hold l n = true) : ruleB hold l 0 = false := by
  obtain ⟨⟨_, _, h3, _⟩, _, he⟩ := rule_n h
  match l, h3, he with
  | t :: l, h3, he =>
    have hl : isLim t = true := by
      cases hl : isLim t with
      | true => rfl
      | false =>
        change (stepN t 0).bind (evalN l) = some 1 at he
        unfold stepN at he
        rw [hl, if_neg (by decide)] at he
        by_cases h5 : t.1 = 5
        · rw [if_pos h5, if_pos rfl] at he; cases he
        · rw [if_neg h5, if_pos (by decide)] at he; cases he
    have ht : tRight t 0 = false := by
      unfold tRight
      rw [if_pos hl]
      exact decide_eq_false (by omega)
    unfold ruleB
    rw [List.all_cons, ht, Bool.false_and, Bool.and_false, Bool.false_and]
set_option maxRecDepth 100000 in
set_option maxHeartbeats 16000000 in
theorem walkH_RuleSpoilt (hd : Hd) (v : Value) (z : Int × Bool × List T) (vc : Value) (cs : List Cl) (w : World) (h0 : RuleV w v z) (h1 : CellsV w vc cs) :
    Calls Try.prog 8 #[v, vc] w fun e w' => e = .returned (.bool true) ∧ Below w.heap.size w w' := by
  obtain ⟨hold, latch, l⟩ := z
  obtain ⟨A, rc, rfl, hrow⟩ := h0.ex
  obtain ⟨CA, cc, rfl, hcr⟩ := h1
  have HROW := Lib.hid hrow
  have HC := Lib.hid hcr
  clear h0 hrow hcr
  go_enter Try.func8, Try.ntmps8
  go_wp2_with fail
  refine calls_world (fun W => Below w.heap.size w W ∧ Blk W w.heap.size 24 #[.slice A l.length rc, .int .i64 hold, .bool latch]) ⟨by go_grown, Blk.new _ _ _ _ rfl⟩ fun W1 ⟨hb1, hB1⟩ => ?_
  have HB1 := Lib.hid hB1
  clear hB1
  refine (hd W1).mono ?_
  rintro e W2 ⟨rfl, hk⟩
  have hb2 := Btrans hb1 hk
  have HB2 := Lib.hid (HB1.out.below hk)
  have cB := HB2.out.cells
  have lB := HB2.out.lt
  clear hk hb1 HB1
  go_wp2_with fail
  refine (good_any _ _ (hold, latch, l) cs _ ⟨A, rc, rfl, HROW.out.below hb2⟩ ⟨CA, cc, rfl, HC.out.below hb2⟩).mono ?_
  rintro e W3 ⟨rfl, hk⟩
  have hb3 := Btrans hb2 hk
  have HB3 := Lib.hid (HB2.out.below hk)
  clear hk hb2 HB2 cB lB
  have cB := HB3.out.cells
  have lB := HB3.out.lt
  obtain ⟨gd, hgd⟩ : ∃ b, b = goodB (hold, latch, l) cs := ⟨_, rfl⟩
  rw [← hgd]
  cases gd with
  | false =>
    clear hgd
    go_wp2
    go_ret
    exact ⟨by first | rfl | simp, hb3⟩
  | true =>
    obtain ⟨hl16, hl1, hcs, hrb, htr, hev⟩ := good_facts hgd.symm
    dsimp only at hl16 hl1 hrb htr hev
    have HRB := Lib.hid hrb
    have HTR := Lib.hid htr
    have HEV := Lib.hid hev
    clear hgd hrb htr hev
    obtain ⟨k, hk⟩ : ∃ k, l.length = k + 1 := ⟨l.length - 1, by omega⟩
    obtain ⟨t, ht⟩ : ∃ t, l[k]? = some t := ⟨_, List.getElem?_eq_getElem (by omega)⟩
    have HT := Lib.hid ht
    have HR1 := Lib.hid (spoil_last HRB.out hk ht)
    have HR2 := Lib.hid (spoil_more HRB.out)
    have HR0 := Lib.hid (spoil_none HRB.out)
    have HLT := Lib.hid (show (l.take k).length = k by rw [List.length_take]; omega)
    have HPRE := Lib.hid (show RowN 3 w (.slice A k rc) k (c3c (l.take k)) by rw [c3_take l k (by omega)]; exact HROW.out.pre (by omega))
    obtain ⟨ad, rfl, had, c0, c1, c2⟩ := row3_at (HROW.out.below hb3) ht
    have C0 := Lib.hid c0
    obtain ⟨hcap, hcapm⟩ := HROW.out.caps
    have hwr : IntKind.i64.wrap (((l.length : Nat) : Int) - 1) = (k : Int) := by rw [IntWalk.i64_in _ (by omega)]; omega
    have hle : (k : Int) ≤ (rc : Int) := by omega
    have hkl : (k : Int) < (l.length : Int) := by omega
    have lB1 : w.heap.size < W3.heap.size + 1 := by omega
    have lB2 : w.heap.size < W3.heap.size + 1 + 1 := by omega
    have lB3 : w.heap.size < W3.heap.size + 1 + 1 + 1 := by omega
    have HK := Lib.hid hk
    clear ht hk c0 c1 c2
    go_wp2_with (at_builtin; refine nmW (fun V => Below W3.heap.size W3 V ∧ Blk V W3.heap.size 24 #[.slice (some ad) k rc, .int .i64 hold, .bool latch] ∧ Blk V (W3.heap.size + 1) 24 #[.slice (some ad) l.length rc, .int .i64 hold, .bool latch] ∧ World.ownsRow V W3.heap.size 43 3 (.slice (some ⟨W3.heap.size + 1 + 1, 0, none⟩) 0 0) 0 []) ⟨by go_grown, ((Blk.new _ _ _ _ rfl).al _).al _, (Blk.new _ _ _ _ (by simp)).al _, own_emptyN _ _ _ _ _ (by simp; omega) (by simp)⟩ ?_)
    rintro V1 ⟨hbV, hqA, hqB, hqE⟩
    have hbV3 := Btrans hb3 hbV
    refine wpList_appN elT rfl (.tmp 28) (.tmp 30) rfl W3.heap.size _ 0 [] rfl hqE _ l.length (c3c l) rfl (HROW.out.below hbV3) (c3_one l) (by unfold maxLen; omega) (by omega) hbV.size ?_
    intro v4 W4 hO hg hor
    have hb4 := below_app hbV hbV.size hqE hg (Nat.le_refl _)
    rw [Nat.zero_add, List.nil_append] at hO
    have lA := hqA.lt
    have lBb := hqB.lt
    have hq4A : Blk W4 W3.heap.size 24 #[.slice (some ad) k rc, .int .i64 hold, .bool latch] := (hg.block _ hqA.lt (ne_own (by omega))).trans hqA
    have hq4B : Blk W4 (W3.heap.size + 1) 24 #[.slice (some ad) l.length rc, .int .i64 hold, .bool latch] := (hg.block _ hqB.lt (ne_own (by omega))).trans hqB
    have ne4A : some W3.heap.size ≠ v4.ownBlock := by rcases hor with e | e <;> rw [e] <;> first | exact ne_own (by omega) | exact ne_new (by omega)
    have ne4B : some (W3.heap.size + 1) ≠ v4.ownBlock := by rcases hor with e | e <;> rw [e] <;> first | exact ne_own (by omega) | exact ne_new (by omega)
    have H4 := Lib.hid (And.intro hb4 (And.intro hq4A (And.intro hq4B (And.intro ne4A (And.intro ne4B hO)))))
    have hsz4 := hb4.size
    have cB4 := (HB3.out.below hb4).cells
    have lB4 := (HB3.out.below hb4).lt
    have cb4 := hq4B.cells
    have fb4 := hq4B.froz
    have lb4 := hq4B.lt
    clear hbV hqA hqB hqE hbV3 hO hg hor hb4 hq4A hq4B ne4A ne4B cB lB lB1 lB2 lB3 lA lBb
    go_wp2_with (at_builtin; refine nmW (fun V => Below W3.heap.size W3 V ∧ Blk V W3.heap.size 24 #[.slice (some ad) k rc, .int .i64 hold, .bool latch] ∧ Blk V (W3.heap.size + 1) 24 #[.slice (some ad) l.length rc, .int .i64 hold, .bool latch] ∧ World.ownsRow V W3.heap.size 43 3 v4 l.length (c3c l) ∧ Blk V W4.heap.size 43 #[.int .i64 1, .int .i64 0, .int .i64 0]) ⟨by have := H4.out.1; exact this.alloc this.size _, H4.out.2.1.al _, H4.out.2.2.1.al _, own_below H4.out.2.2.2.2.2 ((Below.refl _ _).alloc (Nat.le_refl _) _), Blk.new _ _ _ _ rfl⟩ ?_)
    rintro V2 ⟨hbV, hqA, hqB, hqE, hqN⟩
    refine wpList_appN elT rfl (.tmp 31) (.tmp 33) rfl W3.heap.size _ l.length (c3c l) rfl hqE _ 1 (c3c [(1, 0, 0)]) rfl (RowN.of_blk hqN rfl rfl (Nat.le_refl _) (by decide)) (c3_one _) (by unfold maxLen; omega) (by omega) hbV.size ?_
    intro v5 W5 hO hg hor
    have hb5 := below_app hbV hbV.size hqE hg (Nat.le_refl _)
    rw [← c3_app] at hO
    obtain ⟨A5, c5, rfl⟩ := own_shape hO
    have hq5A : Blk W5 W3.heap.size 24 #[.slice (some ad) k rc, .int .i64 hold, .bool latch] := (hg.block _ hqA.lt H4.out.2.2.2.1).trans hqA
    have hq5B : Blk W5 (W3.heap.size + 1) 24 #[.slice (some ad) l.length rc, .int .i64 hold, .bool latch] := (hg.block _ hqB.lt H4.out.2.2.2.2.1).trans hqB
    have H5 := Lib.hid (And.intro hb5 (And.intro hq5A (And.intro hq5B hO)))
    have cB5 := (HB3.out.below hb5).cells
    have lB5 := (HB3.out.below hb5).lt
    have nB5 : w.heap.size ≠ W3.heap.size + 1 := by have := HB3.out.lt; omega
    have cb5 := hq5B.cells
    have fb5 := hq5B.froz
    have lb5 := hq5B.lt
    clear hbV hqA hqB hqE hqN hO hg hor hb5 hq5A hq5B cB4 lB4 cb4 fb4 lb4 H4 hsz4
    go_wp2_with fail
    refine wp_world (fun W => Below w.heap.size w W ∧ Blk W w.heap.size 24 #[.slice (some ad) l.length rc, .int .i64 hold, .bool latch] ∧ Blk W W3.heap.size 24 #[.slice (some ad) k rc, .int .i64 hold, .bool latch] ∧ Blk W (W3.heap.size + 1) 24 #[.slice A5 (l.length + 1) c5, .int .i64 hold, .bool latch] ∧ Blk W W5.heap.size 24 #[.slice (some ad) l.length rc, .int .i64 0, .bool latch] ∧ Blk W (W5.heap.size + 1) 24 #[.slice (some ad) l.length rc, .int .i64 1001, .bool latch] ∧ RowN 3 W (.slice A5 (l.length + 1) c5) (l.length + 1) (c3c (l ++ [(1, 0, 0)]))) ⟨?g1, ?g2, ?g3, ?g4, ?g5, ?g6, ?g7⟩ ?_
    case g1 => 
      have := Btrans hb3 H5.out.1
      have hz := this.size
      exact (((this.setCell (p := ⟨W3.heap.size + 1, 0, none⟩) (by have := hb3.size; simp; omega) _).alloc (by simp; omega) _).alloc (by simp; omega) _)
    case g2 => exact (((HB3.out.below H5.out.1).setO nB5 0 _).al _).al _
    case g3 => exact ((H5.out.2.1.setO (by omega) 0 _).al _).al _
    case g4 => exact ((H5.out.2.2.1.set 0 _).al _).al _
    case g5 => exact (Blk.new _ _ _ _ (by simp)).al _
    case g6 => exact Blk.new _ _ _ _ (by simp)
    case g7 => exact RowN.of_own (own_below (own_below (own_typed H5.out.2.2.2 H5.out.2.2.1 (by decide) 0 _) ((Below.refl _ _).alloc (Nat.le_refl _) _)) ((Below.refl _ _).alloc (Nat.le_refl _) _))
    rintro W6 ⟨hb6, q2, q3, q4, q5, q6, q7⟩
    have HB6 := Lib.hid hb6
    have HR5 := Lib.hid q7
    have Q2 := Lib.hid q2
    have Q3 := Lib.hid q3
    have Q4 := Lib.hid q4
    have Q5 := Lib.hid q5
    have Q6 := Lib.hid q6
    obtain ⟨b5, hb5⟩ : ∃ b, b = decide (t.1 = 5) := ⟨_, rfl⟩
    rw [← hb5] at HR1
    have q5b : (t.1 == 5) = b5 := by rw [hb5]; rfl
    have hCT := row3_at (HROW.out.below hb6) HT.out
    have hT6 : W6.cell? (ad.add (k * 3)) = some (.int .i64 t.1) := by
      obtain ⟨ad2, e, _, h, _⟩ := hCT
      injection e with e
      subst e
      exact h
    have lad : ad.block < W6.heap.size := by have := lt_of_cell hT6; rwa [block_add] at this
    have dB : ∀ w', Below W6.heap.size W6 w' → ∀ i, w'.cell? ⟨w.heap.size, i, none⟩ = (#[.slice (some ad) l.length rc, .int .i64 hold, .bool latch] : Array Value)[i]? := fun w' hb i => (Q2.out.below hb).cells i
    have dA : ∀ w', Below W6.heap.size W6 w' → ∀ i, w'.cell? ⟨W3.heap.size, i, none⟩ = (#[.slice (some ad) k rc, .int .i64 hold, .bool latch] : Array Value)[i]? := fun w' hb i => (Q3.out.below hb).cells i
    have dBb : ∀ w', Below W6.heap.size W6 w' → ∀ i, w'.cell? ⟨W3.heap.size + 1, i, none⟩ = (#[.slice A5 (l.length + 1) c5, .int .i64 hold, .bool latch] : Array Value)[i]? := fun w' hb i => (Q4.out.below hb).cells i
    have dC : ∀ w', Below W6.heap.size W6 w' → ∀ i, w'.cell? ⟨W5.heap.size, i, none⟩ = (#[.slice (some ad) l.length rc, .int .i64 0, .bool latch] : Array Value)[i]? := fun w' hb i => (Q5.out.below hb).cells i
    have dD : ∀ w', Below W6.heap.size W6 w' → ∀ i, w'.cell? ⟨W5.heap.size + 1, i, none⟩ = (#[.slice (some ad) l.length rc, .int .i64 1001, .bool latch] : Array Value)[i]? := fun w' hb i => (Q6.out.below hb).cells i
    have dT : ∀ w', Below W6.heap.size W6 w' → w'.cell? (ad.add (k * 3)) = some (.int .i64 t.1) := fun w' hb => (hb.cell (by rw [block_add]; exact lad)).trans hT6
    clear hb6 q2 q3 q4 q5 q6 q7 cB5 lB5 cb5 fb5 lb5 nB5 hCT hT6 lad hb5
    refine wp_region_held_drew (S := fun w' => Below W6.heap.size W6 w') (by kernel_rfl) ((Below.refl _ _).drew) (fun hHeld => ?_)
    refine takeD 0 (some 40) (v := ?_) rfl rfl (by kernel_rfl) (by kernel_rfl) (by kernel_rfl) (fun _ _ _ h => h) (by rfl) ?_ (by assumption) ?_
    rotate_left
    · intro w hSw
      (try dsimp only at hSw)
      go_simp
      try with_reducible rfl
    try simp only [Act.put, List.setIfInBounds_toArray, List.set_cons_zero, List.set_cons_succ]
    refine takeD 1 (some 41) (v := ?_) rfl rfl (by kernel_rfl) (by kernel_rfl) (by kernel_rfl) (fun _ _ _ h => h) (by rfl) ?_ (by assumption) ?_
    rotate_left
    · intro w hSw
      (try dsimp only at hSw)
      go_simp
      try with_reducible rfl
    try simp only [Act.put, List.setIfInBounds_toArray, List.set_cons_zero, List.set_cons_succ]
    refine takeD 2 (some 42) (v := ?_) rfl rfl (by kernel_rfl) (by kernel_rfl) (by kernel_rfl) (fun _ _ _ h => h) (by rfl) ?_ (by assumption) ?_
    rotate_left
    · intro w hSw
      (try dsimp only at hSw)
      go_simp
      try with_reducible rfl
    try simp only [Act.put, List.setIfInBounds_toArray, List.set_cons_zero, List.set_cons_succ]
    refine takeD 3 (some 43) (v := ?_) rfl rfl (by kernel_rfl) (by kernel_rfl) (by kernel_rfl) (fun _ _ _ h => h) (by rfl) ?_ (by assumption) ?_
    rotate_left
    · intro w hSw
      (try dsimp only at hSw)
      go_simp
      try with_reducible rfl
    try simp only [Act.put, List.setIfInBounds_toArray, List.set_cons_zero, List.set_cons_succ]
    refine takeD 4 (some 44) (v := ?_) rfl rfl (by kernel_rfl) (by kernel_rfl) (by kernel_rfl) (fun _ _ _ h => h) (by rfl) ?_ (by assumption) ?_
    rotate_left
    · intro w hSw
      (try dsimp only at hSw)
      go_simp
      try with_reducible rfl
    try simp only [Act.put, List.setIfInBounds_toArray, List.set_cons_zero, List.set_cons_succ]
    refine takeD 6 (some 46) (v := ?_) rfl rfl (by kernel_rfl) (by kernel_rfl) (by kernel_rfl) (fun _ _ _ h => h) (by rfl) ?_ (by assumption) ?_
    rotate_left
    · intro w hSw
      (try dsimp only at hSw)
      go_simp
      try with_reducible rfl
    try simp only [Act.put, List.setIfInBounds_toArray, List.set_cons_zero, List.set_cons_succ]
    refine takeD 7 (some 47) (v := ?_) rfl rfl (by kernel_rfl) (by kernel_rfl) (by kernel_rfl) (fun _ _ _ h => h) (by rfl) ?_ (by assumption) ?_
    rotate_left
    · intro w hSw
      (try dsimp only at hSw)
      go_simp
      try with_reducible rfl
    try simp only [Act.put, List.setIfInBounds_toArray, List.set_cons_zero, List.set_cons_succ]
    refine takeD 8 (some 48) (v := ?_) rfl rfl (by kernel_rfl) (by kernel_rfl) (by kernel_rfl) (fun _ _ _ h => h) (by rfl) ?_ (by assumption) ?_
    rotate_left
    · intro w hSw
      (try dsimp only at hSw)
      go_simp
      try with_reducible rfl
    try simp only [Act.put, List.setIfInBounds_toArray, List.set_cons_zero, List.set_cons_succ]
    refine takeD 9 (some 49) (v := ?_) rfl rfl (by kernel_rfl) (by kernel_rfl) (by kernel_rfl) (fun _ _ _ h => h) (by rfl) ?_ (by assumption) ?_
    rotate_left
    · intro w hSw
      (try dsimp only at hSw)
      go_simp
      try with_reducible rfl
    try simp only [Act.put, List.setIfInBounds_toArray, List.set_cons_zero, List.set_cons_succ]
    refine takeD 10 (some 50) (v := ?_) rfl rfl (by kernel_rfl) (by kernel_rfl) (by kernel_rfl) (fun _ _ _ h => h) (by rfl) ?_ (by assumption) ?_
    rotate_left
    · intro w hSw
      (try dsimp only at hSw)
      go_simp
      try with_reducible rfl
    try simp only [Act.put, List.setIfInBounds_toArray, List.set_cons_zero, List.set_cons_succ]
    refine takeD 11 (some 51) (v := ?_) rfl rfl (by kernel_rfl) (by kernel_rfl) (by kernel_rfl) (fun _ _ _ h => h) (by rfl) ?_ (by assumption) ?_
    rotate_left
    · intro w hSw
      (try dsimp only at hSw)
      go_simp
      try with_reducible rfl
    try simp only [Act.put, List.setIfInBounds_toArray, List.set_cons_zero, List.set_cons_succ]
    refine takeD 12 (some 52) (v := ?_) rfl rfl (by kernel_rfl) (by kernel_rfl) (by kernel_rfl) (fun _ _ _ h => h) (by rfl) ?_ (by assumption) ?_
    rotate_left
    · intro w hSw
      (try dsimp only at hSw)
      go_simp
      try with_reducible rfl
    try simp only [Act.put, List.setIfInBounds_toArray, List.set_cons_zero, List.set_cons_succ]
    refine takeD 13 (some 53) (v := ?_) rfl rfl (by kernel_rfl) (by kernel_rfl) (by kernel_rfl) (fun _ _ _ h => h) (by rfl) ?_ (by assumption) ?_
    rotate_left
    · intro w hSw
      (try dsimp only at hSw)
      go_simp
      try with_reducible rfl
    try simp only [Act.put, List.setIfInBounds_toArray, List.set_cons_zero, List.set_cons_succ]
    refine wpAnyH_ready (rs := [5]) (by kernel_rfl) (by simp) ?_
    refine AllReadyH.cons rfl (fun K hK => ?_) AllReadyH.nil
    rw [if_pos (by rfl)]
    go_simp
    go_at_call 10
    refine (right_any _ hold latch (l.take k) (cs.length : Int) _ (isrule_of HLT.out (HPRE.out.below (HB6.out.trans (hHeld.mono HB6.out.size))))).mono ?_
    rintro e w1 ⟨rfl, hk⟩
    rw [HR1.out]
    have hS : Below W6.heap.size W6 _ := hHeld.trans (hk.mono hHeld.size)
    clear hk
    go_wp2_with fail
    refine hK.out _ _ ?_ (fun hHeld2 => ?_)
    · clear hK; exact hS
    clear hK K hHeld hS
    have hHeld := hHeld2
    clear hHeld2
    try simp only [Act.put, List.setIfInBounds_toArray, List.set_cons_zero, List.set_cons_succ]
    refine takeD 14 (some 54) (v := ?_) rfl rfl (by kernel_rfl) (by kernel_rfl) (by kernel_rfl) (fun _ _ _ h => h) (by rfl) ?_ (by assumption) ?_
    rotate_left
    · intro w hSw
      (try dsimp only at hSw)
      go_simp
      try with_reducible rfl
    try simp only [Act.put, List.setIfInBounds_toArray, List.set_cons_zero, List.set_cons_succ]
    refine takeD 15 (some 55) (v := ?_) rfl rfl (by kernel_rfl) (by kernel_rfl) (by kernel_rfl) (fun _ _ _ h => h) (by rfl) ?_ (by assumption) ?_
    rotate_left
    · intro w hSw
      (try dsimp only at hSw)
      go_simp
      try with_reducible rfl
    try simp only [Act.put, List.setIfInBounds_toArray, List.set_cons_zero, List.set_cons_succ]
    refine takeD 16 (some 56) (v := ?_) rfl rfl (by kernel_rfl) (by kernel_rfl) (by kernel_rfl) (fun _ _ _ h => h) (by rfl) ?_ (by assumption) ?_
    rotate_left
    · intro w hSw
      (try dsimp only at hSw)
      go_simp
      try with_reducible rfl
    try simp only [Act.put, List.setIfInBounds_toArray, List.set_cons_zero, List.set_cons_succ]
    refine takeD 17 (some 57) (v := ?_) rfl rfl (by kernel_rfl) (by kernel_rfl) (by kernel_rfl) (fun _ _ _ h => h) (by rfl) ?_ (by assumption) ?_
    rotate_left
    · intro w hSw
      (try dsimp only at hSw)
      go_simp
      try with_reducible rfl
    try simp only [Act.put, List.setIfInBounds_toArray, List.set_cons_zero, List.set_cons_succ]
    refine takeD 18 (some 58) (v := ?_) rfl rfl (by kernel_rfl) (by kernel_rfl) (by kernel_rfl) (fun _ _ _ h => h) (by rfl) ?_ (by assumption) ?_
    rotate_left
    · intro w hSw
      (try dsimp only at hSw)
      go_simp
      try with_reducible rfl
    try simp only [Act.put, List.setIfInBounds_toArray, List.set_cons_zero, List.set_cons_succ]
    refine takeD 19 (some 59) (v := ?_) rfl rfl (by kernel_rfl) (by kernel_rfl) (by kernel_rfl) (fun _ _ _ h => h) (by rfl) ?_ (by assumption) ?_
    rotate_left
    · intro w hSw
      (try dsimp only at hSw)
      go_simp
      try with_reducible rfl
    try simp only [Act.put, List.setIfInBounds_toArray, List.set_cons_zero, List.set_cons_succ]
    refine wpAnyH_ready (rs := [20]) (by kernel_rfl) (by simp) ?_
    refine AllReadyH.cons rfl (fun K hK => ?_) AllReadyH.nil
    rw [if_pos (by rfl)]
    go_simp
    go_at_call 10
    refine (right_any _ hold latch (l ++ [(1, 0, 0)]) (cs.length : Int) _ (isrule_of (List.length_append) (HR5.out.below hHeld))).mono ?_
    rintro e w1 ⟨rfl, hk⟩
    rw [HR2.out]
    have hS : Below W6.heap.size W6 _ := hHeld.trans (hk.mono hHeld.size)
    clear hk
    go_wp2_with fail
    refine hK.out _ _ ?_ (fun hHeld2 => ?_)
    · clear hK; exact hS
    clear hK K hHeld hS
    have hHeld := hHeld2
    clear hHeld2
    try simp only [Act.put, List.setIfInBounds_toArray, List.set_cons_zero, List.set_cons_succ]
    refine takeD 21 (some 61) (v := ?_) rfl rfl (by kernel_rfl) (by kernel_rfl) (by kernel_rfl) (fun _ _ _ h => h) (by rfl) ?_ (by assumption) ?_
    rotate_left
    · intro w hSw
      (try dsimp only at hSw)
      go_simp
      try with_reducible rfl
    try simp only [Act.put, List.setIfInBounds_toArray, List.set_cons_zero, List.set_cons_succ]
    refine takeD 22 (some 62) (v := ?_) rfl rfl (by kernel_rfl) (by kernel_rfl) (by kernel_rfl) (fun _ _ _ h => h) (by rfl) ?_ (by assumption) ?_
    rotate_left
    · intro w hSw
      (try dsimp only at hSw)
      go_simp
      try with_reducible rfl
    try simp only [Act.put, List.setIfInBounds_toArray, List.set_cons_zero, List.set_cons_succ]
    refine takeD 23 (some 63) (v := ?_) rfl rfl (by kernel_rfl) (by kernel_rfl) (by kernel_rfl) (fun _ _ _ h => h) (by rfl) ?_ (by assumption) ?_
    rotate_left
    · intro w hSw
      (try dsimp only at hSw)
      go_simp
      try with_reducible rfl
    try simp only [Act.put, List.setIfInBounds_toArray, List.set_cons_zero, List.set_cons_succ]
    refine takeD 24 (some 64) (v := ?_) rfl rfl (by kernel_rfl) (by kernel_rfl) (by kernel_rfl) (fun _ _ _ h => h) (by rfl) ?_ (by assumption) ?_
    rotate_left
    · intro w hSw
      (try dsimp only at hSw)
      go_simp
      try with_reducible rfl
    try simp only [Act.put, List.setIfInBounds_toArray, List.set_cons_zero, List.set_cons_succ]
    refine takeD 25 (some 65) (v := ?_) rfl rfl (by kernel_rfl) (by kernel_rfl) (by kernel_rfl) (fun _ _ _ h => h) (by rfl) ?_ (by assumption) ?_
    rotate_left
    · intro w hSw
      (try dsimp only at hSw)
      go_simp
      try with_reducible rfl
    try simp only [Act.put, List.setIfInBounds_toArray, List.set_cons_zero, List.set_cons_succ]
    refine takeD 26 (some 66) (v := ?_) rfl rfl (by kernel_rfl) (by kernel_rfl) (by kernel_rfl) (fun _ _ _ h => h) (by rfl) ?_ (by assumption) ?_
    rotate_left
    · intro w hSw
      (try dsimp only at hSw)
      go_simp
      try with_reducible rfl
    try simp only [Act.put, List.setIfInBounds_toArray, List.set_cons_zero, List.set_cons_succ]
    refine wpAnyH_ready (rs := [27]) (by kernel_rfl) (by simp) ?_
    refine AllReadyH.cons rfl (fun K hK => ?_) AllReadyH.nil
    rw [if_pos (by rfl)]
    go_simp
    go_at_call 10
    refine (right_any _ 0 latch l (cs.length : Int) _ ⟨_, _, rfl, HROW.out.below (HB6.out.trans (hHeld.mono HB6.out.size))⟩).mono ?_
    rintro e w1 ⟨rfl, hk⟩
    rw [(spoil_hold _ _).1]
    have hS : Below W6.heap.size W6 _ := hHeld.trans (hk.mono hHeld.size)
    clear hk
    go_wp2_with fail
    refine hK.out _ _ ?_ (fun hHeld2 => ?_)
    · clear hK; exact hS
    clear hK K hHeld hS
    have hHeld := hHeld2
    clear hHeld2
    try simp only [Act.put, List.setIfInBounds_toArray, List.set_cons_zero, List.set_cons_succ]
    refine takeD 28 (some 68) (v := ?_) rfl rfl (by kernel_rfl) (by kernel_rfl) (by kernel_rfl) (fun _ _ _ h => h) (by rfl) ?_ (by assumption) ?_
    rotate_left
    · intro w hSw
      (try dsimp only at hSw)
      go_simp
      try with_reducible rfl
    try simp only [Act.put, List.setIfInBounds_toArray, List.set_cons_zero, List.set_cons_succ]
    refine takeD 29 (some 69) (v := ?_) rfl rfl (by kernel_rfl) (by kernel_rfl) (by kernel_rfl) (fun _ _ _ h => h) (by rfl) ?_ (by assumption) ?_
    rotate_left
    · intro w hSw
      (try dsimp only at hSw)
      go_simp
      try with_reducible rfl
    try simp only [Act.put, List.setIfInBounds_toArray, List.set_cons_zero, List.set_cons_succ]
    refine takeD 30 (some 70) (v := ?_) rfl rfl (by kernel_rfl) (by kernel_rfl) (by kernel_rfl) (fun _ _ _ h => h) (by rfl) ?_ (by assumption) ?_
    rotate_left
    · intro w hSw
      (try dsimp only at hSw)
      go_simp
      try with_reducible rfl
    try simp only [Act.put, List.setIfInBounds_toArray, List.set_cons_zero, List.set_cons_succ]
    refine takeD 31 (some 71) (v := ?_) rfl rfl (by kernel_rfl) (by kernel_rfl) (by kernel_rfl) (fun _ _ _ h => h) (by rfl) ?_ (by assumption) ?_
    rotate_left
    · intro w hSw
      (try dsimp only at hSw)
      go_simp
      try with_reducible rfl
    try simp only [Act.put, List.setIfInBounds_toArray, List.set_cons_zero, List.set_cons_succ]
    refine takeD 32 (some 72) (v := ?_) rfl rfl (by kernel_rfl) (by kernel_rfl) (by kernel_rfl) (fun _ _ _ h => h) (by rfl) ?_ (by assumption) ?_
    rotate_left
    · intro w hSw
      (try dsimp only at hSw)
      go_simp
      try with_reducible rfl
    try simp only [Act.put, List.setIfInBounds_toArray, List.set_cons_zero, List.set_cons_succ]
    refine takeD 33 (some 73) (v := ?_) rfl rfl (by kernel_rfl) (by kernel_rfl) (by kernel_rfl) (fun _ _ _ h => h) (by rfl) ?_ (by assumption) ?_
    rotate_left
    · intro w hSw
      (try dsimp only at hSw)
      go_simp
      try with_reducible rfl
    try simp only [Act.put, List.setIfInBounds_toArray, List.set_cons_zero, List.set_cons_succ]
    refine wpAnyH_ready (rs := [34]) (by kernel_rfl) (by simp) ?_
    refine AllReadyH.cons rfl (fun K hK => ?_) AllReadyH.nil
    rw [if_pos (by rfl)]
    go_simp
    go_at_call 10
    refine (right_any _ 1001 latch l (cs.length : Int) _ ⟨_, _, rfl, HROW.out.below (HB6.out.trans (hHeld.mono HB6.out.size))⟩).mono ?_
    rintro e w1 ⟨rfl, hk⟩
    rw [(spoil_hold _ _).2]
    have hS : Below W6.heap.size W6 _ := hHeld.trans (hk.mono hHeld.size)
    clear hk
    go_wp2_with fail
    refine hK.out _ _ ?_ (fun hHeld2 => ?_)
    · clear hK; exact hS
    clear hK K hHeld hS
    have hHeld := hHeld2
    clear hHeld2
    try simp only [Act.put, List.setIfInBounds_toArray, List.set_cons_zero, List.set_cons_succ]
    refine takeD 35 (some 75) (v := ?_) rfl rfl (by kernel_rfl) (by kernel_rfl) (by kernel_rfl) (fun _ _ _ h => h) (by rfl) ?_ (by assumption) ?_
    rotate_left
    · intro w hSw
      (try dsimp only at hSw)
      go_simp
      try with_reducible rfl
    try simp only [Act.put, List.setIfInBounds_toArray, List.set_cons_zero, List.set_cons_succ]
    refine takeD 36 (some 76) (v := ?_) rfl rfl (by kernel_rfl) (by kernel_rfl) (by kernel_rfl) (fun _ _ _ h => h) (by rfl) ?_ (by assumption) ?_
    rotate_left
    · intro w hSw
      (try dsimp only at hSw)
      go_simp
      try with_reducible rfl
    try simp only [Act.put, List.setIfInBounds_toArray, List.set_cons_zero, List.set_cons_succ]
    refine takeD 37 (some 77) (v := ?_) rfl rfl (by kernel_rfl) (by kernel_rfl) (by kernel_rfl) (fun _ _ _ h => h) (by rfl) ?_ (by assumption) ?_
    rotate_left
    · intro w hSw
      (try dsimp only at hSw)
      go_simp
      try with_reducible rfl
    try simp only [Act.put, List.setIfInBounds_toArray, List.set_cons_zero, List.set_cons_succ]
    refine takeD 38 (some 78) (v := ?_) rfl rfl (by kernel_rfl) (by kernel_rfl) (by kernel_rfl) (fun _ _ _ h => h) (by rfl) ?_ (by assumption) ?_
    rotate_left
    · intro w hSw
      (try dsimp only at hSw)
      go_simp
      try with_reducible rfl
    try simp only [Act.put, List.setIfInBounds_toArray, List.set_cons_zero, List.set_cons_succ]
    refine wpAnyH_ready (rs := [39]) (by kernel_rfl) (by simp) ?_
    refine AllReadyH.cons rfl (fun K hK => ?_) AllReadyH.nil
    rw [if_pos (by rfl)]
    go_simp
    go_at_call 10
    refine (right_any _ hold latch l 0 _ ⟨_, _, rfl, HROW.out.below (HB6.out.trans (hHeld.mono HB6.out.size))⟩).mono ?_
    rintro e w1 ⟨rfl, hk⟩
    rw [HR0.out]
    have hS : Below W6.heap.size W6 _ := hHeld.trans (hk.mono hHeld.size)
    clear hk
    go_wp2_with fail
    refine hK.out _ _ ?_ (fun hHeld2 => ?_)
    · clear hK; exact hS
    clear hK K hHeld hS
    have hHeld := hHeld2
    clear hHeld2
    try simp only [Act.put, List.setIfInBounds_toArray, List.set_cons_zero, List.set_cons_succ]
    refine takeD 40 (some 80) (v := ?_) rfl rfl (by kernel_rfl) (by kernel_rfl) (by kernel_rfl) (fun _ _ _ h => h) (by rfl) ?_ (by assumption) ?_
    rotate_left
    · intro w hSw
      (try dsimp only at hSw)
      go_simp
      try with_reducible rfl
    try simp only [Act.put, List.setIfInBounds_toArray, List.set_cons_zero, List.set_cons_succ]
    refine takeD 41 (some 81) (v := ?_) rfl rfl (by kernel_rfl) (by kernel_rfl) (by kernel_rfl) (fun _ _ _ h => h) (by rfl) ?_ (by assumption) ?_
    rotate_left
    · intro w hSw
      (try dsimp only at hSw)
      go_simp
      try with_reducible rfl
    try simp only [Act.put, List.setIfInBounds_toArray, List.set_cons_zero, List.set_cons_succ]
    refine takeD 42 (some 4) (v := ?_) rfl rfl (by kernel_rfl) (by kernel_rfl) (by kernel_rfl) (fun _ _ _ h => h) (by rfl) ?_ (by assumption) ?_
    rotate_left
    · intro w hSw
      (try dsimp only at hSw)
      go_simp
      try with_reducible rfl
    try simp only [Act.put, List.setIfInBounds_toArray, List.set_cons_zero, List.set_cons_succ]
    refine wpAnyH_done (by kernel_rfl) ?_ _
    have hfin := (HB6.out.trans (hHeld.mono HB6.out.size))
    clear dB dA dBb dC dD dT
    go_wp2
    go_ret
    exact ⟨by first | rfl | simp, hfin⟩
end Go.Proofs.Ytkipocfdgekkfaa
