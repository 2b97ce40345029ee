/- Layer 18: what a rule hangs on. -/
import Derived.Test.YtkipocfdgekkfaaRuleU
import Derived.Test.YtkipocfdgekkfaaRuleK
import Derived.Test.YtkipocfdgekkfaaRuleT
import Derived.StillTailTactics
namespace Go.Proofs.Ytkipocfdgekkfaa
open Go.ChangeShapes Go.WideShapes Go.ChangeAt Go.RowKit
set_option linter.unusedVariables false
set_option linter.unusedSimpArgs false

theorem spoil_noneX {hold n : Int} {l : List T} (h : ruleB hold l n = true) : ruleB hold l 0 = false := by
  obtain ⟨⟨_, _, h3, _⟩, _, he⟩ := rule_n h
  match l, h3, he with
  | t :: l, h3, he =>
    have hl : isLim t = true := by
      cases hl : isLim t with
      | true => rfl
      | false =>
        change (stepN t 0).bind (evalN l) = some 1 at he
        unfold stepN at he
        rw [hl, if_neg (by decide)] at he
        by_cases h5 : t.1 = 5
        · rw [if_pos h5, if_pos rfl] at he; cases he
        · rw [if_neg h5, if_pos (by decide)] at he; cases he
    have ht : tRight t 0 = false := by
      unfold tRight
      rw [if_pos hl]
      exact decide_eq_false (by omega)
    unfold ruleB
    rw [List.all_cons, ht, Bool.false_and, Bool.and_false, Bool.false_and]
def upd (c : Cl) : Cl := (c.1, c.2.1, 77)
def mAft (cs m : List Cl) (L : List Int) : List Cl := L.foldl (fun m ch => m.set ch.toNat (upd (cs.getD ch.toNat (0, 0, 0)))) m
theorem mAft_len (cs : List Cl) (L : List Int) : ∀ m : List Cl, (mAft cs m L).length = m.length := by
  induction L with
  | nil => intro m; rfl
  | cons ch L ih => intro m; show (mAft cs (m.set _ _) L).length = _; rw [ih, List.length_set]
theorem mAft_snoc (cs m : List Cl) (L : List Int) (ch : Int) : mAft cs m (L ++ [ch]) = (mAft cs m L).set ch.toNat (upd (cs.getD ch.toNat (0, 0, 0))) := by simp [mAft]
theorem mAft_at (cs : List Cl) (k : Nat) (L : List Int) : ∀ m : List Cl, k < m.length → (m.getD k (0, 0, 0) = upd (cs.getD k (0, 0, 0)) ∨ k ∈ L.map Int.toNat) → (mAft cs m L).getD k (0, 0, 0) = upd (cs.getD k (0, 0, 0)) := by
  induction L with
  | nil =>
    intro m _ h
    rcases h with h | h
    · exact h
    · cases h
  | cons ch L ih =>
    intro m hk h
    show (mAft cs (m.set ch.toNat (upd (cs.getD ch.toNat (0, 0, 0)))) L).getD k (0, 0, 0) = _
    refine ih _ (by rw [List.length_set]; exact hk) ?_
    by_cases he : ch.toNat = k
    · left
      subst he
      rw [List.getD_eq_getElem?_getD, List.getElem?_set_self hk]
      rfl
    · rcases h with h | h
      · left
        rw [List.getD_eq_getElem?_getD, List.getElem?_set_ne he, ← List.getD_eq_getElem?_getD]
        exact h
      · right
        rw [List.map_cons, List.mem_cons] at h
        rcases h with h | h
        · exact absurd h.symm he
        · exact h
theorem says_upd {l : List T} {cs m : List Cl} (h : ∀ t ∈ l, isLim t = true → m.getD t.2.1.toNat (0, 0, 0) = upd (cs.getD t.2.1.toNat (0, 0, 0))) : saysR l m = saysR l cs := by
  unfold saysR saidO
  rw [eval_congr (gOf m) (gOf cs) l [] (fun t ht hl => by unfold gOf; rw [h t ht hl]; rfl)]
theorem c3c_cons (b : Cl) (ms : List Cl) : c3c (b :: ms) = .int .i64 b.1 :: .int .i64 b.2.1 :: .int .i64 b.2.2 :: c3c ms := by simp [c3c]
theorem c3c_set (ms : List Cl) : ∀ (k : Nat) (a : Cl), c3c (ms.set k a) = (((c3c ms).set (k * 3) (.int .i64 a.1)).set (k * 3 + 1) (.int .i64 a.2.1)).set (k * 3 + 2) (.int .i64 a.2.2) := by
  induction ms with
  | nil => intro k a; simp [c3c]
  | cons b ms ih =>
    intro k a
    cases k with
    | zero => simp [c3c_cons]
    | succ k =>
      rw [List.set_cons_succ, c3c_cons, c3c_cons, ih, show (k + 1) * 3 = k * 3 + 1 + 1 + 1 by omega, show k * 3 + 1 + 1 + 1 + 2 = k * 3 + 2 + 1 + 1 + 1 by omega]
      simp only [List.set_cons_succ]
theorem stepM {cur : Array Value} {n k : Nat} {ms : List Cl} (h : cur.toList.take (n * 3) = c3c ms) (x y z : Int) :
    ((((cur.setIfInBounds (k * 3) (.int .i64 x)).setIfInBounds (k * 3 + 1) (.int .i64 y)).setIfInBounds (k * 3 + 2) (.int .i64 z)).setIfInBounds (k * 3 + 2) (.int .i64 77)).toList.take (n * 3) = c3c (ms.set k (x, y, 77)) := by
  simp only [Array.toList_setIfInBounds, List.take_set, h, c3c_set, List.set_set]
theorem curAt {cur : Array Value} {n k : Nat} {ms : List Cl} (h : cur.toList.take (n * 3) = c3c ms) (hl : ms.length = n) (hk : k < n) : ∀ i, i < 3 → ∃ u, cur[k * 3 + i]? = some u := by
  intro i hi
  refine ⟨_, Array.getElem?_eq_getElem (show k * 3 + i < cur.size from ?_)⟩
  have h2 := congrArg List.length h
  rw [List.length_take, c3c_len, hl, Array.length_toList] at h2
  omega
theorem curLt {cur : Array Value} {n k : Nat} {ms : List Cl} (h : cur.toList.take (n * 3) = c3c ms) (hl : ms.length = n) (hk : k < n) : k * 3 + 2 < cur.size := by
  have h2 := congrArg List.length h
  rw [List.length_take, c3c_len, hl, Array.length_toList] at h2
  omega
theorem Blk.some_ {w : World} {g j : Nat} {t : TypeId} {c : Array Value} (h : Blk w g t c) (hj : j < c.size) : ∃ u, w.cell? ⟨g, j, none⟩ = some u := ⟨c[j], by rw [h.cells, Array.getElem?_eq_getElem hj]⟩
theorem mAft_step {cs ms : List Cl} {L : List Int} {j k : Nat} {a : Cl} (hch : L[j]? = some (k : Int)) (ha : cs[k]? = some a) : mAft cs ms (L.take (j + 1)) = (mAft cs ms (L.take j)).set k (a.1, a.2.1, 77) := by
  rw [List.take_add_one, hch]
  show mAft cs ms (L.take j ++ [(k : Int)]) = _
  rw [mAft_snoc, Int.toNat_natCast, List.getD_eq_getElem?_getD, ha]
  rfl
theorem upd_all {l : List T} {cs ms : List Cl} (htr : ∀ t ∈ l, tRight t (cs.length : Int) = true) (hl : ms.length = cs.length) : saysR l (mAft cs ms (chO l)) = saysR l cs := by
  refine says_upd fun t ht hlim => mAft_at cs _ _ ms ?_ (.inr ?_)
  · have := tright_ch (htr t ht) hlim
    omega
  · exact List.mem_map.2 ⟨t.2.1, (chO_mem l _).2 ((chs_mem l _).2 ⟨t, ht, hlim, rfl⟩), rfl⟩
theorem chO_in {l : List T} {n : Nat} (htr : ∀ t ∈ l, tRight t (n : Int) = true) {ch : Int} (h : ch ∈ chO l) : 0 ≤ ch ∧ ch < (n : Int) := by
  obtain ⟨t, ht, hl, rfl⟩ := (chs_mem l ch).1 ((chO_mem l ch).1 h)
  exact tright_ch (htr t ht) hl
theorem chO_pos {hold n : Int} {l : List T} (h : ruleB hold l n = true) : 0 < (chO l).length := by
  obtain ⟨⟨_, _, h3, _⟩, _, he⟩ := rule_n h
  match l, h3, he with
  | t :: l, h3, he =>
    have hl : isLim t = true := by
      cases hl : isLim t with
      | true => rfl
      | false =>
        change (stepN t 0).bind (evalN l) = some 1 at he
        unfold stepN at he
        rw [hl, if_neg (by decide)] at he
        by_cases h5 : t.1 = 5
        · rw [if_pos h5, if_pos rfl] at he; cases he
        · rw [if_neg h5, if_pos (by decide)] at he; cases he
    exact List.length_pos_of_mem ((chO_mem _ _).2 ((chs_mem _ t.2.1).2 ⟨t, by simp, hl, rfl⟩))
theorem chO_step {l : List T} {p : Nat} {x y : Int} (hx : (chO l)[p]? = some x) (hy : (chO l)[p + 1]? = some y) : x < y := by
  obtain ⟨h1, e1⟩ := List.getElem?_eq_some_iff.1 hx
  obtain ⟨h2, e2⟩ := List.getElem?_eq_some_iff.1 hy
  have := (List.pairwise_iff_getElem.1 (chO_lt l)) p (p + 1) h1 h2 (by omega)
  rw [e1, e2] at this
  exact this
set_option maxRecDepth 100000 in
set_option maxHeartbeats 16000000 in
theorem walkH_RuleChannels (hd : Hd) (v : Value) (z : Int × Bool × List T) (vc : Value) (cs : List Cl) (v2 : Value) (os : List Cl) (w : World) (h0 : RuleV w v z) (h1 : CellsV w vc cs) (h2 : CellsV w v2 os) :
    Calls Try.prog 5 #[v, vc, v2] w fun e w' => e = .returned (.bool true) ∧ Below w.heap.size w w' := by
  obtain ⟨hold, latch, l⟩ := z
  obtain ⟨A, rc, rfl, hrow⟩ := h0.ex
  obtain ⟨CA, cc, rfl, hcr⟩ := h1
  have HROW := Lib.hid hrow
  have HC := Lib.hid hcr
  clear h0 hrow hcr
  obtain ⟨OA, oc, rfl, hor⟩ := h2
  have HO := Lib.hid hor
  clear hor
  go_enter Try.func5, Try.ntmps5
  go_wp2_with fail
  refine calls_world (fun W => Below w.heap.size w W ∧ Blk W w.heap.size 24 #[.slice A l.length rc, .int .i64 hold, .bool latch]) ⟨by go_grown, Blk.new _ _ _ _ rfl⟩ fun W1 ⟨hb1, hB1⟩ => ?_
  have HB1 := Lib.hid hB1
  clear hB1
  refine (hd W1).mono ?_
  rintro e W2 ⟨rfl, hk⟩
  have hb2 := Btrans hb1 hk
  have HB2 := Lib.hid (HB1.out.below hk)
  have cB := HB2.out.cells
  have lB := HB2.out.lt
  clear hk hb1 HB1
  go_wp2_with fail
  refine (good_any _ _ (hold, latch, l) cs _ ⟨A, rc, rfl, HROW.out.below hb2⟩ ⟨CA, cc, rfl, HC.out.below hb2⟩).mono ?_
  rintro e W3 ⟨rfl, hk⟩
  have hb3 := Btrans hb2 hk
  have HB3 := Lib.hid (HB2.out.below hk)
  clear hk hb2 HB2 cB lB
  have cB := HB3.out.cells
  have lB := HB3.out.lt
  obtain ⟨gd, hgd⟩ : ∃ b, b = goodB (hold, latch, l) cs := ⟨_, rfl⟩
  rw [← hgd]
  cases gd with
  | false =>
    clear hgd
    go_wp2
    go_ret
    exact ⟨by first | rfl | simp, hb3⟩
  | true =>
    obtain ⟨hl16, hl1, hcs, hrb, htr, hev⟩ := good_facts hgd.symm
    dsimp only at hl16 hl1 hrb htr hev
    have HRB := Lib.hid hrb
    have HTR := Lib.hid htr
    have HEV := Lib.hid hev
    clear hgd hrb htr hev
    by_cases hsh : os.length < cs.length
    · have g1 : decide (((os.length : Nat) : Int) < (cs.length : Int)) = true := decide_eq_true (by omega)
      go_wp2
      go_ret
      exact ⟨by first | rfl | simp, hb3⟩
    have g1 : decide (((os.length : Nat) : Int) < (cs.length : Int)) = false := decide_eq_false (by omega)
    have hn1 : 1 ≤ cs.length := by
      by_cases h0 : cs.length = 0
      · have := spoil_noneX HRB.out
        have h2 := HRB.out
        rw [h0] at h2
        rw [show ((0 : Nat) : Int) = 0 from rfl] at h2
        rw [h2] at this
        cases this
      · omega
    have HPOS := Lib.hid (chO_pos HRB.out)
    go_wp2_with fail
    refine (channels_any _ hold latch l _ ⟨A, rc, rfl, HROW.out.below hb3⟩ (by omega)).mono ?_
    rintro e W4 ⟨LA, lc, rfl, hch, hk⟩
    have hb4 := Btrans hb3 hk
    have HB4 := Lib.hid (HB3.out.below hk)
    have HL := Lib.hid (show Row W4 (.slice LA (chO l).length lc) ((chO l).map (.int .i64)) from Row.of_own hch)
    obtain ⟨o0, ho0⟩ : ∃ o, os[0]? = some o := ⟨_, List.getElem?_eq_getElem (by omega)⟩
    obtain ⟨oad, rfl, hoad, _, _, _⟩ := row3_at (HO.out.below hb4) ho0
    obtain ⟨hocap, hocm⟩ := HO.out.caps
    have hole : (cs.length : Int) ≤ (oc : Int) := by omega
    have HPR := Lib.hid (show RowN 3 W4 (.slice (some oad) cs.length oc) cs.length (c3c (os.take cs.length)) by rw [c3_take os cs.length (by omega)]; exact (HO.out.below hb4).pre (by omega))
    clear hch hk hb3 HB3 cB lB g1 ho0 hoad
    have cB := HB4.out.cells
    have lB := HB4.out.lt
    go_wp2_with (at_builtin; refine wpList_appN elC rfl (.tmp 26) (.tmp 30) rfl W4.heap.size _ 0 [] rfl (own_emptyN _ _ _ _ _ (Nat.le_refl _) rfl) _ cs.length (c3c (os.take cs.length)) rfl (HPR.out.below ((Below.refl _ _).alloc (Nat.le_refl _) _)) (c3_one _) (by unfold maxLen; omega) (by omega) (by simp) ?_)
    intro v5 WA hO5 hg5 _
    have hbA : Below W4.heap.size W4 WA := below_app ((Below.refl W4.heap.size W4).alloc (Nat.le_refl _) _) (by simp) (own_emptyN _ _ _ 3 _ (Nat.le_refl _) rfl) hg5 (Nat.le_refl _)
    first | rw [Nat.zero_add, List.nil_append] at hO5 | skip
    obtain ⟨hln, hO6⟩ := hO5
    rcases hO6 with ⟨_, h0⟩ | ⟨g, mc, cur0, rfl, hlo, hg0, hmc, hmm, _, htk0⟩
    · omega
    have HCUR0 := Lib.hid (show Blk WA g 35 cur0 from hg0)
    have HTK0 := Lib.hid htk0
    have HLEN := Lib.hid (show (os.take cs.length).length = cs.length by rw [List.length_take]; omega)
    clear hln hg0 htk0 hg5 HPR cB lB hole
    go_wp2_with fail
    go_loopw [10] (fun i wr => ∃ j : Nat, j ≤ (chO l).length ∧ i = .int .i64 j ∧ Below W4.heap.size W4 wr ∧ ∃ cur, Blk wr g 35 cur ∧ cur.toList.take (cs.length * 3) = c3c (mAft cs (os.take cs.length) ((chO l).take j))) (fun i _ => (chO l).length - (intOf i).toNat)
    case atStart => exact ⟨0, by omega, rfl, hbA, cur0, HCUR0.out, HTK0.out⟩
    case round =>
      obtain ⟨j, hj, rfl, hbj, cur, hcur, htk⟩ := hrel
      have HTK := Lib.hid htk
      have HCU := Lib.hid hcur
      clear htk
      by_cases hlt : j < (chO l).length
      · obtain ⟨ch, hch⟩ : ∃ ch, (chO l)[j]? = some ch := ⟨_, List.getElem?_eq_getElem hlt⟩
        obtain ⟨hc0, hcn⟩ := chO_in HTR.out (List.mem_of_getElem? hch)
        obtain ⟨k, rfl⟩ : ∃ k : Nat, ch = (k : Int) := ⟨ch.toNat, by omega⟩
        obtain ⟨ld, lc2, e1, hcl, _⟩ := HL.out.at_new (show ((chO l).map (Value.int .i64))[j]? = some (.int .i64 (k : Int)) by rw [List.getElem?_map, hch]; rfl)
        obtain ⟨rfl, -⟩ : LA = some ld ∧ True := by injection e1 with e1; exact ⟨e1, trivial⟩
        obtain ⟨a, ha⟩ : ∃ a, cs[k]? = some a := ⟨_, List.getElem?_eq_getElem (by omega)⟩
        obtain ⟨cad, rfl, hcad, c0, c1, c2⟩ := row3_at (HC.out.below hb4) ha
        have lld : (ld.add j).block < W4.heap.size := lt_of_cell hcl
        have lcd : (cad.add (k * 3)).block < W4.heap.size := by rw [block_add]; exact hcad
        have dL : ∀ w', Below W4.heap.size W4 w' → w'.cell? (ld.add j) = some (.int .i64 (k : Int)) := fun w' hb => (hb.cell lld).trans hcl
        have d0 : ∀ w', Below W4.heap.size W4 w' → w'.cell? (cad.add (k * 3)) = some (.int .i64 a.1) := fun w' hb => (hb.cell lcd).trans c0
        have d1 : ∀ w', Below W4.heap.size W4 w' → w'.cell? ⟨(cad.add (k * 3)).block, (cad.add (k * 3)).off + 1, none⟩ = some (.int .i64 a.2.1) := fun w' hb => (hb.cell (p := ⟨(cad.add (k * 3)).block, (cad.add (k * 3)).off + 1, none⟩) lcd).trans c1
        have d2 : ∀ w', Below W4.heap.size W4 w' → w'.cell? ⟨(cad.add (k * 3)).block, (cad.add (k * 3)).off + 2, none⟩ = some (.int .i64 a.2.2) := fun w' hb => (hb.cell (p := ⟨(cad.add (k * 3)).block, (cad.add (k * 3)).off + 2, none⟩) lcd).trans c2
        have hjl : (j : Int) < ((chO l).length : Int) := by omega
        have q0 : decide ((k : Int) < 0) = false := decide_eq_false (by omega)
        have qn : decide ((k : Int) ≥ (cs.length : Int)) = false := decide_eq_false (by omega)
        have qn' : decide ((cs.length : Int) ≤ (k : Int)) = false := decide_eq_false (by omega)
        have qn3 : decide (cs.length ≤ k) = false := decide_eq_false (by omega)
        have hkn : (k : Int) < (cs.length : Int) := by omega
        have hkm : k < cs.length := by omega
        have HCH := Lib.hid hch
        have HAK := Lib.hid ha
        clear e1 hcl c0 c1 c2 hch ha
        by_cases hj0 : j = 0
        · subst hj0
          have qj : decide (((0 : Nat) : Int) > 0) = false := by decide
          have e0 : ld.add 0 = ld := by first | rfl | simp | (unfold Addr.add; simp)
          simp only [e0] at dL
          clear e0
          go_wp2_with fail
          refine wp_region_held_drew (S := fun w' => Below W4.heap.size W4 w') (by kernel_rfl) (hbj.drew) (fun hHeld => ?_)
          refine takeD 0 (some 38) (v := ?_) rfl rfl (by kernel_rfl) (by kernel_rfl) (by kernel_rfl) (fun _ _ _ h => h) (by rfl) ?_ (by assumption) ?_
          rotate_left
          · intro w hSw
            (try dsimp only at hSw)
            go_simp
            try with_reducible rfl
          try simp only [Act.put, List.setIfInBounds_toArray, List.set_cons_zero, List.set_cons_succ]
          refine takeD 1 (some 39) (v := ?_) rfl rfl (by kernel_rfl) (by kernel_rfl) (by kernel_rfl) (fun _ _ _ h => h) (by rfl) ?_ (by assumption) ?_
          rotate_left
          · intro w hSw
            (try dsimp only at hSw)
            go_simp
            try with_reducible rfl
          try simp only [Act.put, List.setIfInBounds_toArray, List.set_cons_zero, List.set_cons_succ]
          refine takeD 2 (some 40) (v := ?_) rfl rfl (by kernel_rfl) (by kernel_rfl) (by kernel_rfl) (fun _ _ _ h => h) (by rfl) ?_ (by assumption) ?_
          rotate_left
          · intro w hSw
            (try dsimp only at hSw)
            go_simp
            try with_reducible rfl
          try simp only [Act.put, List.setIfInBounds_toArray, List.set_cons_zero, List.set_cons_succ]
          refine takeD 3 (some 41) (v := ?_) rfl rfl (by kernel_rfl) (by kernel_rfl) (by kernel_rfl) (fun _ _ _ h => h) (by rfl) ?_ (by assumption) ?_
          rotate_left
          · intro w hSw
            (try dsimp only at hSw)
            go_simp
            try with_reducible rfl
          try simp only [Act.put, List.setIfInBounds_toArray, List.set_cons_zero, List.set_cons_succ]
          refine takeD 4 (some 42) (v := ?_) rfl rfl (by kernel_rfl) (by kernel_rfl) (by kernel_rfl) (fun _ _ _ h => h) (by rfl) ?_ (by assumption) ?_
          rotate_left
          · intro w hSw
            (try dsimp only at hSw)
            go_simp
            try with_reducible rfl
          try simp only [Act.put, List.setIfInBounds_toArray, List.set_cons_zero, List.set_cons_succ]
          refine takeD 5 (some 43) (v := ?_) rfl rfl (by kernel_rfl) (by kernel_rfl) (by kernel_rfl) (fun _ _ _ h => h) (by rfl) ?_ (by assumption) ?_
          rotate_left
          · intro w hSw
            (try dsimp only at hSw)
            go_simp
            try with_reducible rfl
          try simp only [Act.put, List.setIfInBounds_toArray, List.set_cons_zero, List.set_cons_succ]
          refine takeD 6 (some 44) (v := ?_) rfl rfl (by kernel_rfl) (by kernel_rfl) (by kernel_rfl) (fun _ _ _ h => h) (by rfl) ?_ (by assumption) ?_
          rotate_left
          · intro w hSw
            (try dsimp only at hSw)
            go_simp
            try with_reducible rfl
          try simp only [Act.put, List.setIfInBounds_toArray, List.set_cons_zero, List.set_cons_succ]
          refine takeD 7 (some 45) (v := ?_) rfl rfl (by kernel_rfl) (by kernel_rfl) (by kernel_rfl) (fun _ _ _ h => h) (by rfl) ?_ (by assumption) ?_
          rotate_left
          · intro w hSw
            (try dsimp only at hSw)
            go_simp
            try with_reducible rfl
          try simp only [Act.put, List.setIfInBounds_toArray, List.set_cons_zero, List.set_cons_succ]
          refine takeD 8 (some 46) (v := ?_) rfl rfl (by kernel_rfl) (by kernel_rfl) (by kernel_rfl) (fun _ _ _ h => h) (by rfl) ?_ (by assumption) ?_
          rotate_left
          · intro w hSw
            (try dsimp only at hSw)
            go_simp
            try with_reducible rfl
          try simp only [Act.put, List.setIfInBounds_toArray, List.set_cons_zero, List.set_cons_succ]
          refine takeD 9 (some 47) (v := ?_) rfl rfl (by kernel_rfl) (by kernel_rfl) (by kernel_rfl) (fun _ _ _ h => h) (by rfl) ?_ (by assumption) ?_
          rotate_left
          · intro w hSw
            (try dsimp only at hSw)
            go_simp
            try with_reducible rfl
          try simp only [Act.put, List.setIfInBounds_toArray, List.set_cons_zero, List.set_cons_succ]
          refine takeD 10 (some 48) (v := ?_) rfl rfl (by kernel_rfl) (by kernel_rfl) (by kernel_rfl) (fun _ _ _ h => h) (by rfl) ?_ (by assumption) ?_
          rotate_left
          · intro w hSw
            (try dsimp only at hSw)
            go_simp
            try with_reducible rfl
          try simp only [Act.put, List.setIfInBounds_toArray, List.set_cons_zero, List.set_cons_succ]
          refine takeD 11 (some 49) (v := ?_) rfl rfl (by kernel_rfl) (by kernel_rfl) (by kernel_rfl) (fun _ _ _ h => h) (by rfl) ?_ (by assumption) ?_
          rotate_left
          · intro w hSw
            (try dsimp only at hSw)
            go_simp
            try with_reducible rfl
          try simp only [Act.put, List.setIfInBounds_toArray, List.set_cons_zero, List.set_cons_succ]
          refine takeD 12 (some 50) (v := ?_) rfl rfl (by kernel_rfl) (by kernel_rfl) (by kernel_rfl) (fun _ _ _ h => h) (by rfl) ?_ (by assumption) ?_
          rotate_left
          · intro w hSw
            (try dsimp only at hSw)
            go_simp
            try with_reducible rfl
          try simp only [Act.put, List.setIfInBounds_toArray, List.set_cons_zero, List.set_cons_succ]
          refine takeD 13 (some 51) (v := ?_) rfl rfl (by kernel_rfl) (by kernel_rfl) (by kernel_rfl) (fun _ _ _ h => h) (by rfl) ?_ (by assumption) ?_
          rotate_left
          · intro w hSw
            (try dsimp only at hSw)
            go_simp
            try with_reducible rfl
          try simp only [Act.put, List.setIfInBounds_toArray, List.set_cons_zero, List.set_cons_succ]
          refine takeD 14 (some 52) (v := ?_) rfl rfl (by kernel_rfl) (by kernel_rfl) (by kernel_rfl) (fun _ _ _ h => h) (by rfl) ?_ (by assumption) ?_
          rotate_left
          · intro w hSw
            (try dsimp only at hSw)
            go_simp
            try with_reducible rfl
          try simp only [Act.put, List.setIfInBounds_toArray, List.set_cons_zero, List.set_cons_succ]
          refine takeD 15 (some 53) (v := ?_) rfl rfl (by kernel_rfl) (by kernel_rfl) (by kernel_rfl) (fun _ _ _ h => h) (by rfl) ?_ (by assumption) ?_
          rotate_left
          · intro w hSw
            (try dsimp only at hSw)
            go_simp
            try with_reducible rfl
          try simp only [Act.put, List.setIfInBounds_toArray, List.set_cons_zero, List.set_cons_succ]
          refine takeD 16 (some 54) (v := ?_) rfl rfl (by kernel_rfl) (by kernel_rfl) (by kernel_rfl) (fun _ _ _ h => h) (by rfl) ?_ (by assumption) ?_
          rotate_left
          · intro w hSw
            (try dsimp only at hSw)
            go_simp
            try with_reducible rfl
          try simp only [Act.put, List.setIfInBounds_toArray, List.set_cons_zero, List.set_cons_succ]
          refine takeD 17 (some 55) (v := ?_) rfl rfl (by kernel_rfl) (by kernel_rfl) (by kernel_rfl) (fun _ _ _ h => h) (by rfl) ?_ (by assumption) ?_
          rotate_left
          · intro w hSw
            (try dsimp only at hSw)
            go_simp
            try with_reducible rfl
          try simp only [Act.put, List.setIfInBounds_toArray, List.set_cons_zero, List.set_cons_succ]
          refine skipD 18 (some 56) rfl rfl (by kernel_rfl) (by kernel_rfl) (by kernel_rfl) (fun _ _ _ h => h) (by rfl) (by assumption) ?_
          try simp only [Act.put, List.setIfInBounds_toArray, List.set_cons_zero, List.set_cons_succ]
          refine skipD 19 (some 57) rfl rfl (by kernel_rfl) (by kernel_rfl) (by kernel_rfl) (fun _ _ _ h => h) (by rfl) (by assumption) ?_
          try simp only [Act.put, List.setIfInBounds_toArray, List.set_cons_zero, List.set_cons_succ]
          refine skipD 20 (some 58) rfl rfl (by kernel_rfl) (by kernel_rfl) (by kernel_rfl) (fun _ _ _ h => h) (by rfl) (by assumption) ?_
          try simp only [Act.put, List.setIfInBounds_toArray, List.set_cons_zero, List.set_cons_succ]
          refine skipD 21 (some 59) rfl rfl (by kernel_rfl) (by kernel_rfl) (by kernel_rfl) (fun _ _ _ h => h) (by rfl) (by assumption) ?_
          try simp only [Act.put, List.setIfInBounds_toArray, List.set_cons_zero, List.set_cons_succ]
          refine skipD 22 (some 60) rfl rfl (by kernel_rfl) (by kernel_rfl) (by kernel_rfl) (fun _ _ _ h => h) (by rfl) (by assumption) ?_
          try simp only [Act.put, List.setIfInBounds_toArray, List.set_cons_zero, List.set_cons_succ]
          refine skipD 23 (some 61) rfl rfl (by kernel_rfl) (by kernel_rfl) (by kernel_rfl) (fun _ _ _ h => h) (by rfl) (by assumption) ?_
          try simp only [Act.put, List.setIfInBounds_toArray, List.set_cons_zero, List.set_cons_succ]
          refine skipD 24 (some 62) rfl rfl (by kernel_rfl) (by kernel_rfl) (by kernel_rfl) (fun _ _ _ h => h) (by rfl) (by assumption) ?_
          try simp only [Act.put, List.setIfInBounds_toArray, List.set_cons_zero, List.set_cons_succ]
          refine skipD 25 (some 63) rfl rfl (by kernel_rfl) (by kernel_rfl) (by kernel_rfl) (fun _ _ _ h => h) (by rfl) (by assumption) ?_
          try simp only [Act.put, List.setIfInBounds_toArray, List.set_cons_zero, List.set_cons_succ]
          refine skipD 26 (some 64) rfl rfl (by kernel_rfl) (by kernel_rfl) (by kernel_rfl) (fun _ _ _ h => h) (by rfl) (by assumption) ?_
          try simp only [Act.put, List.setIfInBounds_toArray, List.set_cons_zero, List.set_cons_succ]
          refine skipD 27 (some 65) rfl rfl (by kernel_rfl) (by kernel_rfl) (by kernel_rfl) (fun _ _ _ h => h) (by rfl) (by assumption) ?_
          try simp only [Act.put, List.setIfInBounds_toArray, List.set_cons_zero, List.set_cons_succ]
          refine takeD 28 (some 66) (v := ?_) rfl rfl (by kernel_rfl) (by kernel_rfl) (by kernel_rfl) (fun _ _ _ h => h) (by rfl) ?_ (by assumption) ?_
          rotate_left
          · intro w hSw
            (try dsimp only at hSw)
            go_simp
            try with_reducible rfl
          try simp only [Act.put, List.setIfInBounds_toArray, List.set_cons_zero, List.set_cons_succ]
          refine takeD 29 (some 67) (v := ?_) rfl rfl (by kernel_rfl) (by kernel_rfl) (by kernel_rfl) (fun _ _ _ h => h) (by rfl) ?_ (by assumption) ?_
          rotate_left
          · intro w hSw
            (try dsimp only at hSw)
            go_simp
            try with_reducible rfl
          try simp only [Act.put, List.setIfInBounds_toArray, List.set_cons_zero, List.set_cons_succ]
          refine wpAnyH_done (by kernel_rfl) ?_ _
          go_wp2_with fail
          refine wp_world (fun W => Below W4.heap.size W4 W ∧ Blk W g 35 cur) ⟨hbj.drew, hcur.drw⟩ fun W5 ⟨hb5, hq5⟩ => ?_
          have HB5 := Lib.hid hb5
          have HQ := Lib.hid hq5
          clear hb5 hq5
          refine wp_region_held_drew (S := fun w' => Below W4.heap.size W4 w') (by kernel_rfl) (HB5.out.drew) (fun hHeld => ?_)
          refine takeD 0 (some 68) (v := ?_) rfl rfl (by kernel_rfl) (by kernel_rfl) (by kernel_rfl) (fun _ _ _ h => h) (by rfl) ?_ (by assumption) ?_
          rotate_left
          · intro w hSw
            (try dsimp only at hSw)
            go_simp
            try with_reducible rfl
          try simp only [Act.put, List.setIfInBounds_toArray, List.set_cons_zero, List.set_cons_succ]
          refine takeD 1 (some 69) (v := ?_) rfl rfl (by kernel_rfl) (by kernel_rfl) (by kernel_rfl) (fun _ _ _ h => h) (by rfl) ?_ (by assumption) ?_
          rotate_left
          · intro w hSw
            (try dsimp only at hSw)
            go_simp
            try with_reducible rfl
          try simp only [Act.put, List.setIfInBounds_toArray, List.set_cons_zero, List.set_cons_succ]
          refine takeD 2 (some 70) (v := ?_) rfl rfl (by kernel_rfl) (by kernel_rfl) (by kernel_rfl) (fun _ _ _ h => h) (by rfl) ?_ (by assumption) ?_
          rotate_left
          · intro w hSw
            (try dsimp only at hSw)
            go_simp
            try with_reducible rfl
          try simp only [Act.put, List.setIfInBounds_toArray, List.set_cons_zero, List.set_cons_succ]
          refine takeD 3 (some 71) (v := ?_) rfl rfl (by kernel_rfl) (by kernel_rfl) (by kernel_rfl) (fun _ _ _ h => h) (by rfl) ?_ (by assumption) ?_
          rotate_left
          · intro w hSw
            (try dsimp only at hSw)
            go_simp
            try with_reducible rfl
          try simp only [Act.put, List.setIfInBounds_toArray, List.set_cons_zero, List.set_cons_succ]
          refine takeD 4 (some 72) (v := ?_) rfl rfl (by kernel_rfl) (by kernel_rfl) (by kernel_rfl) (fun _ _ _ h => h) (by rfl) ?_ (by assumption) ?_
          rotate_left
          · intro w hSw
            (try dsimp only at hSw)
            go_simp
            try with_reducible rfl
          try simp only [Act.put, List.setIfInBounds_toArray, List.set_cons_zero, List.set_cons_succ]
          refine takeD 5 (some 73) (v := ?_) rfl rfl (by kernel_rfl) (by kernel_rfl) (by kernel_rfl) (fun _ _ _ h => h) (by rfl) ?_ (by assumption) ?_
          rotate_left
          · intro w hSw
            (try dsimp only at hSw)
            go_simp
            try with_reducible rfl
          try simp only [Act.put, List.setIfInBounds_toArray, List.set_cons_zero, List.set_cons_succ]
          refine takeD 6 (some 74) (v := ?_) rfl rfl (by kernel_rfl) (by kernel_rfl) (by kernel_rfl) (fun _ _ _ h => h) (by rfl) ?_ (by assumption) ?_
          rotate_left
          · intro w hSw
            (try dsimp only at hSw)
            go_simp
            try with_reducible rfl
          try simp only [Act.put, List.setIfInBounds_toArray, List.set_cons_zero, List.set_cons_succ]
          refine takeD 7 (some 75) (v := ?_) rfl rfl (by kernel_rfl) (by kernel_rfl) (by kernel_rfl) (fun _ _ _ h => h) (by rfl) ?_ (by assumption) ?_
          rotate_left
          · intro w hSw
            (try dsimp only at hSw)
            go_simp
            try with_reducible rfl
          try simp only [Act.put, List.setIfInBounds_toArray, List.set_cons_zero, List.set_cons_succ]
          refine takeD 8 (some 76) (v := ?_) rfl rfl (by kernel_rfl) (by kernel_rfl) (by kernel_rfl) (fun _ _ _ h => h) (by rfl) ?_ (by assumption) ?_
          rotate_left
          · intro w hSw
            (try dsimp only at hSw)
            go_simp
            try with_reducible rfl
          try simp only [Act.put, List.setIfInBounds_toArray, List.set_cons_zero, List.set_cons_succ]
          refine takeD 9 (some 77) (v := ?_) rfl rfl (by kernel_rfl) (by kernel_rfl) (by kernel_rfl) (fun _ _ _ h => h) (by rfl) ?_ (by assumption) ?_
          rotate_left
          · intro w hSw
            (try dsimp only at hSw)
            go_simp
            try with_reducible rfl
          try simp only [Act.put, List.setIfInBounds_toArray, List.set_cons_zero, List.set_cons_succ]
          refine takeD 10 (some 78) (v := ?_) rfl rfl (by kernel_rfl) (by kernel_rfl) (by kernel_rfl) (fun _ _ _ h => h) (by rfl) ?_ (by assumption) ?_
          rotate_left
          · intro w hSw
            (try dsimp only at hSw)
            go_simp
            try with_reducible rfl
          try simp only [Act.put, List.setIfInBounds_toArray, List.set_cons_zero, List.set_cons_succ]
          refine takeD 11 (some 79) (v := ?_) rfl rfl (by kernel_rfl) (by kernel_rfl) (by kernel_rfl) (fun _ _ _ h => h) (by rfl) ?_ (by assumption) ?_
          rotate_left
          · intro w hSw
            (try dsimp only at hSw)
            go_simp
            try with_reducible rfl
          try simp only [Act.put, List.setIfInBounds_toArray, List.set_cons_zero, List.set_cons_succ]
          refine takeD 12 (some 80) (v := ?_) rfl rfl (by kernel_rfl) (by kernel_rfl) (by kernel_rfl) (fun _ _ _ h => h) (by rfl) ?_ (by assumption) ?_
          rotate_left
          · intro w hSw
            (try dsimp only at hSw)
            go_simp
            try with_reducible rfl
          try simp only [Act.put, List.setIfInBounds_toArray, List.set_cons_zero, List.set_cons_succ]
          refine wpAnyH_ready (rs := [13]) (by kernel_rfl) (by simp) ?_
          refine AllReadyH.cons rfl (fun K hK => ?_) AllReadyH.nil
          rw [if_pos (by rfl)]
          have hsz : k * 3 + 2 < cur.size := curLt HTK.out (by rw [mAft_len, HLEN.out]) hkm
          have HD0 := Lib.hid HQ.out
          have HD1 := Lib.hid (HD0.out.set (k * 3) (.int .i64 a.1))
          have HD2 := Lib.hid (HD1.out.set (k * 3 + 1) (.int .i64 a.2.1))
          have HD3 := Lib.hid (HD2.out.set (k * 3 + 2) (.int .i64 a.2.2))
          obtain ⟨u0, s0⟩ := HD0.out.some_ (j := k * 3) (by omega)
          obtain ⟨u1, s1⟩ := HD1.out.some_ (j := k * 3 + 1) (by simp; omega)
          obtain ⟨u2, s2⟩ := HD2.out.some_ (j := k * 3 + 2) (by simp; omega)
          have f0 := HD0.out.froz (k * 3)
          have f1 := HD1.out.froz (k * 3 + 1)
          have f2 := HD2.out.froz (k * 3 + 2)
          go_simp
          clear s0 s1 s2 f0 f1 f2 HD0 HD1 HD2
          have hS : Below W4.heap.size W4 _ := (((HB5.out.setCell (p := ⟨g, k * 3, none⟩) hlo (.int .i64 a.1)).setCell (p := ⟨g, k * 3 + 1, none⟩) hlo (.int .i64 a.2.1)).setCell (p := ⟨g, k * 3 + 2, none⟩) hlo (.int .i64 a.2.2)).drew
          refine hK.out _ _ ?_ (fun hHeld2 => ?_)
          · clear hK; exact hS
          clear hK K hHeld hS
          have hHeld := hHeld2
          clear hHeld2
          try simp only [Act.put, List.setIfInBounds_toArray, List.set_cons_zero, List.set_cons_succ]
          refine wpAnyH_done (by kernel_rfl) ?_ _
          refine nmW (fun W => Below W4.heap.size W4 W ∧ Blk W g 35 (((cur.setIfInBounds (k * 3) (.int .i64 a.1)).setIfInBounds (k * 3 + 1) (.int .i64 a.2.1)).setIfInBounds (k * 3 + 2) (.int .i64 a.2.2))) ⟨hHeld, HD3.out.drw⟩ fun W6 ⟨hb6, hq6⟩ => ?_
          have HQ6 := Lib.hid hq6
          have HD4 := Lib.hid (hq6.set (k * 3 + 2) (.int .i64 77))
          obtain ⟨u3, s3⟩ := hq6.some_ (j := k * 3 + 2) (by simp; omega)
          have f3 := hq6.froz (k * 3 + 2)
          have hdl := dL W6 hb6
          clear hq6 hHeld dL d0 d1 d2 HD3
          go_wp2
          go_roundw
          case rel => exact ⟨_, by first | exact hlt | omega, by go_num, hb6.setCell (p := ⟨g, k * 3 + 2, none⟩) hlo _, _, HD4.out, by rw [mAft_step HCH.out HAK.out]; exact stepM HTK.out a.1 a.2.1 a.2.2⟩
          case measure => simp [intOf]; omega
        · obtain ⟨p, hp⟩ : ∃ p, j = p + 1 := ⟨j - 1, by omega⟩
          obtain ⟨ch', hch'⟩ : ∃ ch, (chO l)[p]? = some ch := ⟨_, List.getElem?_eq_getElem (by omega)⟩
          have hstep := chO_step hch' (by rw [← hp]; exact HCH.out)
          obtain ⟨ld2, lc3, e1, hcl', _⟩ := HL.out.at_new (show ((chO l).map (Value.int .i64))[p]? = some (.int .i64 ch') by rw [List.getElem?_map, hch']; rfl)
          obtain ⟨rfl, -⟩ : ld = ld2 ∧ True := by injection e1 with e1; injection e1 with e1; exact ⟨e1, trivial⟩
          have lld' : (ld.add p).block < W4.heap.size := lt_of_cell hcl'
          have dL' : ∀ w', Below W4.heap.size W4 w' → w'.cell? (ld.add p) = some (.int .i64 ch') := fun w' hb => (hb.cell lld').trans hcl'
          have qj : decide (((j : Nat) : Int) > 0) = true := decide_eq_true (by omega)
          have qj3 : decide (0 < j) = true := decide_eq_true (by omega)
          have qs : decide ((k : Int) ≤ ch') = false := decide_eq_false (by omega)
          have hcl16 := chO_len l
          have hwp : IntKind.i64.wrap (((j : Nat) : Int) - 1) = (p : Int) := by rw [IntWalk.i64_in _ (by omega)]; omega
          have hpl : (p : Int) < ((chO l).length : Int) := by omega
          clear e1 hcl' hch' hstep hp
          go_wp2_with fail
          refine wp_region_held_drew (S := fun w' => Below W4.heap.size W4 w') (by kernel_rfl) (hbj.drew) (fun hHeld => ?_)
          refine takeD 0 (some 38) (v := ?_) rfl rfl (by kernel_rfl) (by kernel_rfl) (by kernel_rfl) (fun _ _ _ h => h) (by rfl) ?_ (by assumption) ?_
          rotate_left
          · intro w hSw
            (try dsimp only at hSw)
            go_simp
            try with_reducible rfl
          try simp only [Act.put, List.setIfInBounds_toArray, List.set_cons_zero, List.set_cons_succ]
          refine takeD 1 (some 39) (v := ?_) rfl rfl (by kernel_rfl) (by kernel_rfl) (by kernel_rfl) (fun _ _ _ h => h) (by rfl) ?_ (by assumption) ?_
          rotate_left
          · intro w hSw
            (try dsimp only at hSw)
            go_simp
            try with_reducible rfl
          try simp only [Act.put, List.setIfInBounds_toArray, List.set_cons_zero, List.set_cons_succ]
          refine takeD 2 (some 40) (v := ?_) rfl rfl (by kernel_rfl) (by kernel_rfl) (by kernel_rfl) (fun _ _ _ h => h) (by rfl) ?_ (by assumption) ?_
          rotate_left
          · intro w hSw
            (try dsimp only at hSw)
            go_simp
            try with_reducible rfl
          try simp only [Act.put, List.setIfInBounds_toArray, List.set_cons_zero, List.set_cons_succ]
          refine takeD 3 (some 41) (v := ?_) rfl rfl (by kernel_rfl) (by kernel_rfl) (by kernel_rfl) (fun _ _ _ h => h) (by rfl) ?_ (by assumption) ?_
          rotate_left
          · intro w hSw
            (try dsimp only at hSw)
            go_simp
            try with_reducible rfl
          try simp only [Act.put, List.setIfInBounds_toArray, List.set_cons_zero, List.set_cons_succ]
          refine takeD 4 (some 42) (v := ?_) rfl rfl (by kernel_rfl) (by kernel_rfl) (by kernel_rfl) (fun _ _ _ h => h) (by rfl) ?_ (by assumption) ?_
          rotate_left
          · intro w hSw
            (try dsimp only at hSw)
            go_simp
            try with_reducible rfl
          try simp only [Act.put, List.setIfInBounds_toArray, List.set_cons_zero, List.set_cons_succ]
          refine takeD 5 (some 43) (v := ?_) rfl rfl (by kernel_rfl) (by kernel_rfl) (by kernel_rfl) (fun _ _ _ h => h) (by rfl) ?_ (by assumption) ?_
          rotate_left
          · intro w hSw
            (try dsimp only at hSw)
            go_simp
            try with_reducible rfl
          try simp only [Act.put, List.setIfInBounds_toArray, List.set_cons_zero, List.set_cons_succ]
          refine takeD 6 (some 44) (v := ?_) rfl rfl (by kernel_rfl) (by kernel_rfl) (by kernel_rfl) (fun _ _ _ h => h) (by rfl) ?_ (by assumption) ?_
          rotate_left
          · intro w hSw
            (try dsimp only at hSw)
            go_simp
            try with_reducible rfl
          try simp only [Act.put, List.setIfInBounds_toArray, List.set_cons_zero, List.set_cons_succ]
          refine takeD 7 (some 45) (v := ?_) rfl rfl (by kernel_rfl) (by kernel_rfl) (by kernel_rfl) (fun _ _ _ h => h) (by rfl) ?_ (by assumption) ?_
          rotate_left
          · intro w hSw
            (try dsimp only at hSw)
            go_simp
            try with_reducible rfl
          try simp only [Act.put, List.setIfInBounds_toArray, List.set_cons_zero, List.set_cons_succ]
          refine takeD 8 (some 46) (v := ?_) rfl rfl (by kernel_rfl) (by kernel_rfl) (by kernel_rfl) (fun _ _ _ h => h) (by rfl) ?_ (by assumption) ?_
          rotate_left
          · intro w hSw
            (try dsimp only at hSw)
            go_simp
            try with_reducible rfl
          try simp only [Act.put, List.setIfInBounds_toArray, List.set_cons_zero, List.set_cons_succ]
          refine takeD 9 (some 47) (v := ?_) rfl rfl (by kernel_rfl) (by kernel_rfl) (by kernel_rfl) (fun _ _ _ h => h) (by rfl) ?_ (by assumption) ?_
          rotate_left
          · intro w hSw
            (try dsimp only at hSw)
            go_simp
            try with_reducible rfl
          try simp only [Act.put, List.setIfInBounds_toArray, List.set_cons_zero, List.set_cons_succ]
          refine takeD 10 (some 48) (v := ?_) rfl rfl (by kernel_rfl) (by kernel_rfl) (by kernel_rfl) (fun _ _ _ h => h) (by rfl) ?_ (by assumption) ?_
          rotate_left
          · intro w hSw
            (try dsimp only at hSw)
            go_simp
            try with_reducible rfl
          try simp only [Act.put, List.setIfInBounds_toArray, List.set_cons_zero, List.set_cons_succ]
          refine takeD 11 (some 49) (v := ?_) rfl rfl (by kernel_rfl) (by kernel_rfl) (by kernel_rfl) (fun _ _ _ h => h) (by rfl) ?_ (by assumption) ?_
          rotate_left
          · intro w hSw
            (try dsimp only at hSw)
            go_simp
            try with_reducible rfl
          try simp only [Act.put, List.setIfInBounds_toArray, List.set_cons_zero, List.set_cons_succ]
          refine takeD 12 (some 50) (v := ?_) rfl rfl (by kernel_rfl) (by kernel_rfl) (by kernel_rfl) (fun _ _ _ h => h) (by rfl) ?_ (by assumption) ?_
          rotate_left
          · intro w hSw
            (try dsimp only at hSw)
            go_simp
            try with_reducible rfl
          try simp only [Act.put, List.setIfInBounds_toArray, List.set_cons_zero, List.set_cons_succ]
          refine takeD 13 (some 51) (v := ?_) rfl rfl (by kernel_rfl) (by kernel_rfl) (by kernel_rfl) (fun _ _ _ h => h) (by rfl) ?_ (by assumption) ?_
          rotate_left
          · intro w hSw
            (try dsimp only at hSw)
            go_simp
            try with_reducible rfl
          try simp only [Act.put, List.setIfInBounds_toArray, List.set_cons_zero, List.set_cons_succ]
          refine takeD 14 (some 52) (v := ?_) rfl rfl (by kernel_rfl) (by kernel_rfl) (by kernel_rfl) (fun _ _ _ h => h) (by rfl) ?_ (by assumption) ?_
          rotate_left
          · intro w hSw
            (try dsimp only at hSw)
            go_simp
            try with_reducible rfl
          try simp only [Act.put, List.setIfInBounds_toArray, List.set_cons_zero, List.set_cons_succ]
          refine takeD 15 (some 53) (v := ?_) rfl rfl (by kernel_rfl) (by kernel_rfl) (by kernel_rfl) (fun _ _ _ h => h) (by rfl) ?_ (by assumption) ?_
          rotate_left
          · intro w hSw
            (try dsimp only at hSw)
            go_simp
            try with_reducible rfl
          try simp only [Act.put, List.setIfInBounds_toArray, List.set_cons_zero, List.set_cons_succ]
          refine takeD 16 (some 54) (v := ?_) rfl rfl (by kernel_rfl) (by kernel_rfl) (by kernel_rfl) (fun _ _ _ h => h) (by rfl) ?_ (by assumption) ?_
          rotate_left
          · intro w hSw
            (try dsimp only at hSw)
            go_simp
            try with_reducible rfl
          try simp only [Act.put, List.setIfInBounds_toArray, List.set_cons_zero, List.set_cons_succ]
          refine takeD 17 (some 55) (v := ?_) rfl rfl (by kernel_rfl) (by kernel_rfl) (by kernel_rfl) (fun _ _ _ h => h) (by rfl) ?_ (by assumption) ?_
          rotate_left
          · intro w hSw
            (try dsimp only at hSw)
            go_simp
            try with_reducible rfl
          try simp only [Act.put, List.setIfInBounds_toArray, List.set_cons_zero, List.set_cons_succ]
          refine takeD 18 (some 56) (v := ?_) rfl rfl (by kernel_rfl) (by kernel_rfl) (by kernel_rfl) (fun _ _ _ h => h) (by rfl) ?_ (by assumption) ?_
          rotate_left
          · intro w hSw
            (try dsimp only at hSw)
            go_simp
            try with_reducible rfl
          try simp only [Act.put, List.setIfInBounds_toArray, List.set_cons_zero, List.set_cons_succ]
          refine takeD 19 (some 57) (v := ?_) rfl rfl (by kernel_rfl) (by kernel_rfl) (by kernel_rfl) (fun _ _ _ h => h) (by rfl) ?_ (by assumption) ?_
          rotate_left
          · intro w hSw
            (try dsimp only at hSw)
            go_simp
            try with_reducible rfl
          try simp only [Act.put, List.setIfInBounds_toArray, List.set_cons_zero, List.set_cons_succ]
          refine takeD 20 (some 58) (v := ?_) rfl rfl (by kernel_rfl) (by kernel_rfl) (by kernel_rfl) (fun _ _ _ h => h) (by rfl) ?_ (by assumption) ?_
          rotate_left
          · intro w hSw
            (try dsimp only at hSw)
            go_simp
            try with_reducible rfl
          try simp only [Act.put, List.setIfInBounds_toArray, List.set_cons_zero, List.set_cons_succ]
          refine takeD 21 (some 59) (v := ?_) rfl rfl (by kernel_rfl) (by kernel_rfl) (by kernel_rfl) (fun _ _ _ h => h) (by rfl) ?_ (by assumption) ?_
          rotate_left
          · intro w hSw
            (try dsimp only at hSw)
            go_simp
            try with_reducible rfl
          try simp only [Act.put, List.setIfInBounds_toArray, List.set_cons_zero, List.set_cons_succ]
          refine takeD 22 (some 60) (v := ?_) rfl rfl (by kernel_rfl) (by kernel_rfl) (by kernel_rfl) (fun _ _ _ h => h) (by rfl) ?_ (by assumption) ?_
          rotate_left
          · intro w hSw
            (try dsimp only at hSw)
            go_simp
            try with_reducible rfl
          try simp only [Act.put, List.setIfInBounds_toArray, List.set_cons_zero, List.set_cons_succ]
          refine takeD 23 (some 61) (v := ?_) rfl rfl (by kernel_rfl) (by kernel_rfl) (by kernel_rfl) (fun _ _ _ h => h) (by rfl) ?_ (by assumption) ?_
          rotate_left
          · intro w hSw
            (try dsimp only at hSw)
            go_simp
            try with_reducible rfl
          try simp only [Act.put, List.setIfInBounds_toArray, List.set_cons_zero, List.set_cons_succ]
          refine takeD 24 (some 62) (v := ?_) rfl rfl (by kernel_rfl) (by kernel_rfl) (by kernel_rfl) (fun _ _ _ h => h) (by rfl) ?_ (by assumption) ?_
          rotate_left
          · intro w hSw
            (try dsimp only at hSw)
            go_simp
            try with_reducible rfl
          try simp only [Act.put, List.setIfInBounds_toArray, List.set_cons_zero, List.set_cons_succ]
          refine takeD 25 (some 63) (v := ?_) rfl rfl (by kernel_rfl) (by kernel_rfl) (by kernel_rfl) (fun _ _ _ h => h) (by rfl) ?_ (by assumption) ?_
          rotate_left
          · intro w hSw
            (try dsimp only at hSw)
            go_simp
            try with_reducible rfl
          try simp only [Act.put, List.setIfInBounds_toArray, List.set_cons_zero, List.set_cons_succ]
          refine takeD 26 (some 64) (v := ?_) rfl rfl (by kernel_rfl) (by kernel_rfl) (by kernel_rfl) (fun _ _ _ h => h) (by rfl) ?_ (by assumption) ?_
          rotate_left
          · intro w hSw
            (try dsimp only at hSw)
            go_simp
            try with_reducible rfl
          try simp only [Act.put, List.setIfInBounds_toArray, List.set_cons_zero, List.set_cons_succ]
          refine takeD 27 (some 65) (v := ?_) rfl rfl (by kernel_rfl) (by kernel_rfl) (by kernel_rfl) (fun _ _ _ h => h) (by rfl) ?_ (by assumption) ?_
          rotate_left
          · intro w hSw
            (try dsimp only at hSw)
            go_simp
            try with_reducible rfl
          try simp only [Act.put, List.setIfInBounds_toArray, List.set_cons_zero, List.set_cons_succ]
          refine takeD 28 (some 66) (v := ?_) rfl rfl (by kernel_rfl) (by kernel_rfl) (by kernel_rfl) (fun _ _ _ h => h) (by rfl) ?_ (by assumption) ?_
          rotate_left
          · intro w hSw
            (try dsimp only at hSw)
            go_simp
            try with_reducible rfl
          try simp only [Act.put, List.setIfInBounds_toArray, List.set_cons_zero, List.set_cons_succ]
          refine takeD 29 (some 67) (v := ?_) rfl rfl (by kernel_rfl) (by kernel_rfl) (by kernel_rfl) (fun _ _ _ h => h) (by rfl) ?_ (by assumption) ?_
          rotate_left
          · intro w hSw
            (try dsimp only at hSw)
            go_simp
            try with_reducible rfl
          try simp only [Act.put, List.setIfInBounds_toArray, List.set_cons_zero, List.set_cons_succ]
          refine wpAnyH_done (by kernel_rfl) ?_ _
          go_wp2_with fail
          refine wp_world (fun W => Below W4.heap.size W4 W ∧ Blk W g 35 cur) ⟨hbj.drew, hcur.drw⟩ fun W5 ⟨hb5, hq5⟩ => ?_
          have HB5 := Lib.hid hb5
          have HQ := Lib.hid hq5
          clear hb5 hq5
          refine wp_region_held_drew (S := fun w' => Below W4.heap.size W4 w') (by kernel_rfl) (HB5.out.drew) (fun hHeld => ?_)
          refine takeD 0 (some 68) (v := ?_) rfl rfl (by kernel_rfl) (by kernel_rfl) (by kernel_rfl) (fun _ _ _ h => h) (by rfl) ?_ (by assumption) ?_
          rotate_left
          · intro w hSw
            (try dsimp only at hSw)
            go_simp
            try with_reducible rfl
          try simp only [Act.put, List.setIfInBounds_toArray, List.set_cons_zero, List.set_cons_succ]
          refine takeD 1 (some 69) (v := ?_) rfl rfl (by kernel_rfl) (by kernel_rfl) (by kernel_rfl) (fun _ _ _ h => h) (by rfl) ?_ (by assumption) ?_
          rotate_left
          · intro w hSw
            (try dsimp only at hSw)
            go_simp
            try with_reducible rfl
          try simp only [Act.put, List.setIfInBounds_toArray, List.set_cons_zero, List.set_cons_succ]
          refine takeD 2 (some 70) (v := ?_) rfl rfl (by kernel_rfl) (by kernel_rfl) (by kernel_rfl) (fun _ _ _ h => h) (by rfl) ?_ (by assumption) ?_
          rotate_left
          · intro w hSw
            (try dsimp only at hSw)
            go_simp
            try with_reducible rfl
          try simp only [Act.put, List.setIfInBounds_toArray, List.set_cons_zero, List.set_cons_succ]
          refine takeD 3 (some 71) (v := ?_) rfl rfl (by kernel_rfl) (by kernel_rfl) (by kernel_rfl) (fun _ _ _ h => h) (by rfl) ?_ (by assumption) ?_
          rotate_left
          · intro w hSw
            (try dsimp only at hSw)
            go_simp
            try with_reducible rfl
          try simp only [Act.put, List.setIfInBounds_toArray, List.set_cons_zero, List.set_cons_succ]
          refine takeD 4 (some 72) (v := ?_) rfl rfl (by kernel_rfl) (by kernel_rfl) (by kernel_rfl) (fun _ _ _ h => h) (by rfl) ?_ (by assumption) ?_
          rotate_left
          · intro w hSw
            (try dsimp only at hSw)
            go_simp
            try with_reducible rfl
          try simp only [Act.put, List.setIfInBounds_toArray, List.set_cons_zero, List.set_cons_succ]
          refine takeD 5 (some 73) (v := ?_) rfl rfl (by kernel_rfl) (by kernel_rfl) (by kernel_rfl) (fun _ _ _ h => h) (by rfl) ?_ (by assumption) ?_
          rotate_left
          · intro w hSw
            (try dsimp only at hSw)
            go_simp
            try with_reducible rfl
          try simp only [Act.put, List.setIfInBounds_toArray, List.set_cons_zero, List.set_cons_succ]
          refine takeD 6 (some 74) (v := ?_) rfl rfl (by kernel_rfl) (by kernel_rfl) (by kernel_rfl) (fun _ _ _ h => h) (by rfl) ?_ (by assumption) ?_
          rotate_left
          · intro w hSw
            (try dsimp only at hSw)
            go_simp
            try with_reducible rfl
          try simp only [Act.put, List.setIfInBounds_toArray, List.set_cons_zero, List.set_cons_succ]
          refine takeD 7 (some 75) (v := ?_) rfl rfl (by kernel_rfl) (by kernel_rfl) (by kernel_rfl) (fun _ _ _ h => h) (by rfl) ?_ (by assumption) ?_
          rotate_left
          · intro w hSw
            (try dsimp only at hSw)
            go_simp
            try with_reducible rfl
          try simp only [Act.put, List.setIfInBounds_toArray, List.set_cons_zero, List.set_cons_succ]
          refine takeD 8 (some 76) (v := ?_) rfl rfl (by kernel_rfl) (by kernel_rfl) (by kernel_rfl) (fun _ _ _ h => h) (by rfl) ?_ (by assumption) ?_
          rotate_left
          · intro w hSw
            (try dsimp only at hSw)
            go_simp
            try with_reducible rfl
          try simp only [Act.put, List.setIfInBounds_toArray, List.set_cons_zero, List.set_cons_succ]
          refine takeD 9 (some 77) (v := ?_) rfl rfl (by kernel_rfl) (by kernel_rfl) (by kernel_rfl) (fun _ _ _ h => h) (by rfl) ?_ (by assumption) ?_
          rotate_left
          · intro w hSw
            (try dsimp only at hSw)
            go_simp
            try with_reducible rfl
          try simp only [Act.put, List.setIfInBounds_toArray, List.set_cons_zero, List.set_cons_succ]
          refine takeD 10 (some 78) (v := ?_) rfl rfl (by kernel_rfl) (by kernel_rfl) (by kernel_rfl) (fun _ _ _ h => h) (by rfl) ?_ (by assumption) ?_
          rotate_left
          · intro w hSw
            (try dsimp only at hSw)
            go_simp
            try with_reducible rfl
          try simp only [Act.put, List.setIfInBounds_toArray, List.set_cons_zero, List.set_cons_succ]
          refine takeD 11 (some 79) (v := ?_) rfl rfl (by kernel_rfl) (by kernel_rfl) (by kernel_rfl) (fun _ _ _ h => h) (by rfl) ?_ (by assumption) ?_
          rotate_left
          · intro w hSw
            (try dsimp only at hSw)
            go_simp
            try with_reducible rfl
          try simp only [Act.put, List.setIfInBounds_toArray, List.set_cons_zero, List.set_cons_succ]
          refine takeD 12 (some 80) (v := ?_) rfl rfl (by kernel_rfl) (by kernel_rfl) (by kernel_rfl) (fun _ _ _ h => h) (by rfl) ?_ (by assumption) ?_
          rotate_left
          · intro w hSw
            (try dsimp only at hSw)
            go_simp
            try with_reducible rfl
          try simp only [Act.put, List.setIfInBounds_toArray, List.set_cons_zero, List.set_cons_succ]
          refine wpAnyH_ready (rs := [13]) (by kernel_rfl) (by simp) ?_
          refine AllReadyH.cons rfl (fun K hK => ?_) AllReadyH.nil
          rw [if_pos (by rfl)]
          have hsz : k * 3 + 2 < cur.size := curLt HTK.out (by rw [mAft_len, HLEN.out]) hkm
          have HD0 := Lib.hid HQ.out
          have HD1 := Lib.hid (HD0.out.set (k * 3) (.int .i64 a.1))
          have HD2 := Lib.hid (HD1.out.set (k * 3 + 1) (.int .i64 a.2.1))
          have HD3 := Lib.hid (HD2.out.set (k * 3 + 2) (.int .i64 a.2.2))
          obtain ⟨u0, s0⟩ := HD0.out.some_ (j := k * 3) (by omega)
          obtain ⟨u1, s1⟩ := HD1.out.some_ (j := k * 3 + 1) (by simp; omega)
          obtain ⟨u2, s2⟩ := HD2.out.some_ (j := k * 3 + 2) (by simp; omega)
          have f0 := HD0.out.froz (k * 3)
          have f1 := HD1.out.froz (k * 3 + 1)
          have f2 := HD2.out.froz (k * 3 + 2)
          go_simp
          clear s0 s1 s2 f0 f1 f2 HD0 HD1 HD2
          have hS : Below W4.heap.size W4 _ := (((HB5.out.setCell (p := ⟨g, k * 3, none⟩) hlo (.int .i64 a.1)).setCell (p := ⟨g, k * 3 + 1, none⟩) hlo (.int .i64 a.2.1)).setCell (p := ⟨g, k * 3 + 2, none⟩) hlo (.int .i64 a.2.2)).drew
          refine hK.out _ _ ?_ (fun hHeld2 => ?_)
          · clear hK; exact hS
          clear hK K hHeld hS
          have hHeld := hHeld2
          clear hHeld2
          try simp only [Act.put, List.setIfInBounds_toArray, List.set_cons_zero, List.set_cons_succ]
          refine wpAnyH_done (by kernel_rfl) ?_ _
          refine nmW (fun W => Below W4.heap.size W4 W ∧ Blk W g 35 (((cur.setIfInBounds (k * 3) (.int .i64 a.1)).setIfInBounds (k * 3 + 1) (.int .i64 a.2.1)).setIfInBounds (k * 3 + 2) (.int .i64 a.2.2))) ⟨hHeld, HD3.out.drw⟩ fun W6 ⟨hb6, hq6⟩ => ?_
          have HQ6 := Lib.hid hq6
          have HD4 := Lib.hid (hq6.set (k * 3 + 2) (.int .i64 77))
          obtain ⟨u3, s3⟩ := hq6.some_ (j := k * 3 + 2) (by simp; omega)
          have f3 := hq6.froz (k * 3 + 2)
          have hdl := dL W6 hb6
          clear hq6 hHeld dL d0 d1 d2 HD3
          go_wp2
          go_roundw
          case rel => exact ⟨_, by first | exact hlt | omega, by go_num, hb6.setCell (p := ⟨g, k * 3 + 2, none⟩) hlo _, _, HD4.out, by rw [mAft_step HCH.out HAK.out]; exact stepM HTK.out a.1 a.2.1 a.2.2⟩
          case measure => simp [intOf]; omega
      · obtain rfl : j = (chO l).length := by omega
        have HMR := Lib.hid (show RowN 3 wr (.slice (some ⟨g, 0, none⟩) (mAft cs (os.take cs.length) (chO l)).length mc) (mAft cs (os.take cs.length) (chO l)).length (c3c (mAft cs (os.take cs.length) (chO l))) by
          rw [mAft_len, HLEN.out]
          refine RowN.of_blk hcur ?_ ?_ hmc hmm
          · have := HTK.out
            rw [List.take_length] at this
            exact this
          · rw [c3c_len, mAft_len, HLEN.out])
        have HML := Lib.hid (show (mAft cs (os.take cs.length) (chO l)).length = cs.length by rw [mAft_len, HLEN.out])
        have HUP := Lib.hid (upd_all (ms := os.take cs.length) HTR.out HLEN.out)
        have qp : decide ((((chO l).length : Nat) : Int) > 0) = true := decide_eq_true (by have := HPOS.out; omega)
        have qp3 : decide (0 < (chO l).length) = true := decide_eq_true HPOS.out
        have qp4 : 0 < (chO l).length := HPOS.out
        have HBR := Lib.hid (HB4.out.below hbj)
        have hbw := Btrans hb4 hbj
        have HBW := Lib.hid hbw
        have dB : ∀ w', Below wr.heap.size wr w' → ∀ i, w'.cell? ⟨w.heap.size, i, none⟩ = (#[.slice A l.length rc, .int .i64 hold, .bool latch] : Array Value)[i]? := fun w' hb i => (HBR.out.below hb).cells i
        clear hcur hlt
        go_wp2_with fail
        refine wp_region_held_drew (S := fun w' => Below wr.heap.size wr w') (by kernel_rfl) ((Below.refl _ _).drew) (fun hHeld => ?_)
        refine takeD 0 (some 88) (v := ?_) rfl rfl (by kernel_rfl) (by kernel_rfl) (by kernel_rfl) (fun _ _ _ h => h) (by rfl) ?_ (by assumption) ?_
        rotate_left
        · intro w hSw
          (try dsimp only at hSw)
          go_simp
          try with_reducible rfl
        try simp only [Act.put, List.setIfInBounds_toArray, List.set_cons_zero, List.set_cons_succ]
        refine takeD 1 (some 89) (v := ?_) rfl rfl (by kernel_rfl) (by kernel_rfl) (by kernel_rfl) (fun _ _ _ h => h) (by rfl) ?_ (by assumption) ?_
        rotate_left
        · intro w hSw
          (try dsimp only at hSw)
          go_simp
          try with_reducible rfl
        try simp only [Act.put, List.setIfInBounds_toArray, List.set_cons_zero, List.set_cons_succ]
        refine takeD 2 (some 90) (v := ?_) rfl rfl (by kernel_rfl) (by kernel_rfl) (by kernel_rfl) (fun _ _ _ h => h) (by rfl) ?_ (by assumption) ?_
        rotate_left
        · intro w hSw
          (try dsimp only at hSw)
          go_simp
          try with_reducible rfl
        try simp only [Act.put, List.setIfInBounds_toArray, List.set_cons_zero, List.set_cons_succ]
        refine takeD 3 (some 91) (v := ?_) rfl rfl (by kernel_rfl) (by kernel_rfl) (by kernel_rfl) (fun _ _ _ h => h) (by rfl) ?_ (by assumption) ?_
        rotate_left
        · intro w hSw
          (try dsimp only at hSw)
          go_simp
          try with_reducible rfl
        try simp only [Act.put, List.setIfInBounds_toArray, List.set_cons_zero, List.set_cons_succ]
        refine takeD 4 (some 92) (v := ?_) rfl rfl (by kernel_rfl) (by kernel_rfl) (by kernel_rfl) (fun _ _ _ h => h) (by rfl) ?_ (by assumption) ?_
        rotate_left
        · intro w hSw
          (try dsimp only at hSw)
          go_simp
          try with_reducible rfl
        try simp only [Act.put, List.setIfInBounds_toArray, List.set_cons_zero, List.set_cons_succ]
        refine takeD 5 (some 93) (v := ?_) rfl rfl (by kernel_rfl) (by kernel_rfl) (by kernel_rfl) (fun _ _ _ h => h) (by rfl) ?_ (by assumption) ?_
        rotate_left
        · intro w hSw
          (try dsimp only at hSw)
          go_simp
          try with_reducible rfl
        try simp only [Act.put, List.setIfInBounds_toArray, List.set_cons_zero, List.set_cons_succ]
        refine takeD 6 (some 94) (v := ?_) rfl rfl (by kernel_rfl) (by kernel_rfl) (by kernel_rfl) (fun _ _ _ h => h) (by rfl) ?_ (by assumption) ?_
        rotate_left
        · intro w hSw
          (try dsimp only at hSw)
          go_simp
          try with_reducible rfl
        try simp only [Act.put, List.setIfInBounds_toArray, List.set_cons_zero, List.set_cons_succ]
        refine takeD 7 (some 95) (v := ?_) rfl rfl (by kernel_rfl) (by kernel_rfl) (by kernel_rfl) (fun _ _ _ h => h) (by rfl) ?_ (by assumption) ?_
        rotate_left
        · intro w hSw
          (try dsimp only at hSw)
          go_simp
          try with_reducible rfl
        try simp only [Act.put, List.setIfInBounds_toArray, List.set_cons_zero, List.set_cons_succ]
        refine takeD 8 (some 96) (v := ?_) rfl rfl (by kernel_rfl) (by kernel_rfl) (by kernel_rfl) (fun _ _ _ h => h) (by rfl) ?_ (by assumption) ?_
        rotate_left
        · intro w hSw
          (try dsimp only at hSw)
          go_simp
          try with_reducible rfl
        try simp only [Act.put, List.setIfInBounds_toArray, List.set_cons_zero, List.set_cons_succ]
        refine takeD 10 (some 98) (v := ?_) rfl rfl (by kernel_rfl) (by kernel_rfl) (by kernel_rfl) (fun _ _ _ h => h) (by rfl) ?_ (by assumption) ?_
        rotate_left
        · intro w hSw
          (try dsimp only at hSw)
          go_simp
          try with_reducible rfl
        try simp only [Act.put, List.setIfInBounds_toArray, List.set_cons_zero, List.set_cons_succ]
        refine takeD 11 (some 99) (v := ?_) rfl rfl (by kernel_rfl) (by kernel_rfl) (by kernel_rfl) (fun _ _ _ h => h) (by rfl) ?_ (by assumption) ?_
        rotate_left
        · intro w hSw
          (try dsimp only at hSw)
          go_simp
          try with_reducible rfl
        try simp only [Act.put, List.setIfInBounds_toArray, List.set_cons_zero, List.set_cons_succ]
        refine wpAnyH_ready (rs := [9]) (by kernel_rfl) (by simp) ?_
        refine AllReadyH.cons rfl (fun K hK => ?_) AllReadyH.nil
        rw [if_pos (by rfl)]
        go_simp
        have hsl : Value.slice (some ⟨g, 0, none⟩) cs.length mc = Value.slice (some ⟨g, 0, none⟩) (mAft cs (os.take cs.length) (chO l)).length mc := by rw [HML.out]
        go_at_call 16
        rw [hsl]
        refine (says_any _ hold latch l (some ⟨g, 0, none⟩) mc (mAft cs (os.take cs.length) (chO l)) _ ⟨A, rc, rfl, HROW.out.below (HBW.out.trans (hHeld.mono HBW.out.size))⟩ (HMR.out.below hHeld) (by rw [HML.out]; exact HTR.out) (by omega)).mono ?_
        rintro e w1 ⟨rfl, hk⟩
        rw [HUP.out]
        clear hsl
        have hS : Below wr.heap.size wr _ := hHeld.trans (hk.mono hHeld.size)
        clear hk
        go_wp2_with fail
        refine hK.out _ _ ?_ (fun hHeld2 => ?_)
        · clear hK; exact hS
        clear hK K hHeld hS
        have hHeld := hHeld2
        clear hHeld2
        try simp only [Act.put, List.setIfInBounds_toArray, List.set_cons_zero, List.set_cons_succ]
        refine wpAnyH_ready (rs := [12]) (by kernel_rfl) (by simp) ?_
        refine AllReadyH.cons rfl (fun K hK => ?_) AllReadyH.nil
        rw [if_pos (by rfl)]
        go_simp
        go_at_call 16
        refine (says_any _ hold latch l CA cc cs _ ⟨A, rc, rfl, HROW.out.below (HBW.out.trans (hHeld.mono HBW.out.size))⟩ (HC.out.below (HBW.out.trans (hHeld.mono HBW.out.size))) HTR.out (by omega)).mono ?_
        rintro e w1 ⟨rfl, hk⟩
        have hS : Below wr.heap.size wr _ := hHeld.trans (hk.mono hHeld.size)
        clear hk
        go_wp2_with fail
        refine hK.out _ _ ?_ (fun hHeld2 => ?_)
        · clear hK; exact hS
        clear hK K hHeld hS
        have hHeld := hHeld2
        clear hHeld2
        try simp only [Act.put, List.setIfInBounds_toArray, List.set_cons_zero, List.set_cons_succ]
        refine takeD 13 (some 101) (v := ?_) rfl rfl (by kernel_rfl) (by kernel_rfl) (by kernel_rfl) (fun _ _ _ h => h) (by rfl) ?_ (by assumption) ?_
        rotate_left
        · intro w hSw
          (try dsimp only at hSw)
          go_simp
          try with_reducible rfl
        try simp only [Act.put, List.setIfInBounds_toArray, List.set_cons_zero, List.set_cons_succ]
        refine takeD 14 (some 102) (v := ?_) rfl rfl (by kernel_rfl) (by kernel_rfl) (by kernel_rfl) (fun _ _ _ h => h) (by rfl) ?_ (by assumption) ?_
        rotate_left
        · intro w hSw
          (try dsimp only at hSw)
          go_simp
          try with_reducible rfl
        try simp only [Act.put, List.setIfInBounds_toArray, List.set_cons_zero, List.set_cons_succ]
        refine takeD 15 (some 6) (v := ?_) rfl rfl (by kernel_rfl) (by kernel_rfl) (by kernel_rfl) (fun _ _ _ h => h) (by rfl) ?_ (by assumption) ?_
        rotate_left
        · intro w hSw
          (try dsimp only at hSw)
          go_simp
          try with_reducible rfl
        try simp only [Act.put, List.setIfInBounds_toArray, List.set_cons_zero, List.set_cons_succ]
        refine wpAnyH_done (by kernel_rfl) ?_ _
        have hfin := (HBW.out.trans (hHeld.mono HBW.out.size))
        clear dB
        go_wp2
        go_ret
        exact ⟨by first | rfl | simp, hfin⟩

end Go.Proofs.Ytkipocfdgekkfaa
