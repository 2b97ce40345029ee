/- Layer 13: the document's grid in memory. -/
import Derived.Test.YtoiaagdpckgpoaaGridP
import Derived.StillTailTactics
namespace Go.Proofs.Ytoiaagdpckgpoaa
open Go.ChangeShapes Go.WideShapes Go.ChangeAt Go.RowKit
set_option linter.unusedVariables false
set_option linter.unusedSimpArgs false

theorem addk (a : Addr) (k : Nat) (h : 0 < k) : a.add k = ⟨a.block, a.off + k, none⟩ := by
  unfold Addr.add
  split
  · omega
  · rfl
theorem own_onlyB {w w' : World} {s : List Nat} {base : Nat} {e : TypeId} {k n : Nat} {v : Value} {xs : List Value} (h : w.ownsRow base e k v n xs) (ho : Only s w w') (hs : ∀ x ∈ s, x < base) : w'.ownsRow base e k v n xs := by
  obtain ⟨h1, h2⟩ := h
  rcases h2 with h2 | ⟨g, cap, cur, hv, hbg, hgg, hrest⟩
  · exact ⟨h1, .inl h2⟩
  · exact ⟨h1, .inr ⟨g, cap, cur, hv, hbg, (ho.block g (Array.getElem?_eq_some_iff.1 hgg).1 (fun hm => by have := hs _ hm; omega)).trans hgg, hrest⟩⟩
theorem own_typed {w w' : World} {base b : Nat} {e t : TypeId} {k n : Nat} {v : Value} {xs : List Value} {cs : Array Value} (h : w.ownsRow base e k v n xs) (hb : Blk w b t cs) (ht : t ≠ e) (ho : Only [b] w w') : w'.ownsRow base e k v n xs := by
  obtain ⟨h1, h2⟩ := h
  rcases h2 with h2 | ⟨g, cap, cur, hv, hbg, hgg, hrest⟩
  · exact ⟨h1, .inl h2⟩
  · have hne : g ≠ b := by
      rintro rfl
      have := hgg.symm.trans hb
      injection this with this
      injection this with _ h2 _
      exact ht h2.symm
    exact ⟨h1, .inr ⟨g, cap, cur, hv, hbg, (ho.block g (Array.getElem?_eq_some_iff.1 hgg).1 (by simpa using hne)).trans hgg, hrest⟩⟩
theorem own_lower {w : World} {base b2 : Nat} {e : TypeId} {k n : Nat} {v : Value} {xs : List Value} (h : w.ownsRow base e k v n xs) (hl : b2 ≤ base) : w.ownsRow b2 e k v n xs := by
  obtain ⟨h1, h2⟩ := h
  rcases h2 with h2 | ⟨g, cap, cur, hv, hbg, hrest⟩
  · exact ⟨h1, .inl h2⟩
  · exact ⟨h1, .inr ⟨g, cap, cur, hv, by omega, hrest⟩⟩
theorem own_emptyN (w : World) (base n k : Nat) (e : TypeId) (hb : base ≤ w.heap.size) (hn : n = w.heap.size) : (w.alloc (.cells #[] e)).ownsRow base e k (.slice (some ⟨n, 0, none⟩) 0 0) 0 [] := by
  subst hn
  exact ⟨by simp, .inr ⟨w.heap.size, 0, #[], rfl, hb, heap_alloc_new _ _, Nat.le_refl _, Nat.zero_le _, by simp, by simp⟩⟩
theorem nameW {K : Act → World → Prop} {a : Act} {W0 : World} (R : World → Prop) (h0 : R W0) (h : ∀ W, R W → K a W) : K a W0 := h _ h0

structure RG (w : World) (base gb N k nx : Nat) (sp : List Sp) : Prop where
  ex : ∃ A c, Blk w gb 36 #[.int .i64 N, .int .i64 k, .int .i64 nx, .slice A sp.length c] ∧ w.ownsRow base 69 4 (.slice A sp.length c) sp.length (s4 sp)
  lo : base ≤ gb
theorem RG.only {w w' : World} {base gb N k nx : Nat} {sp : List Sp} {s : List Nat} (h : RG w base gb N k nx sp) (ho : Only s w w') (hs : ∀ x ∈ s, x < base) : RG w' base gb N k nx sp := by
  obtain ⟨A, c, h1, h2⟩ := h.ex
  have := h.lo
  exact ⟨⟨A, c, h1.only ho (fun hm => by have := hs _ hm; omega), own_onlyB h2 ho hs⟩, h.lo⟩
theorem RG.below {w w' : World} {base gb N k nx : Nat} {sp : List Sp} (h : RG w base gb N k nx sp) (hb : Below w.heap.size w w') : RG w' base gb N k nx sp := h.only (Only.of_below [] hb) (by simp)
theorem RG.lt {w : World} {base gb N k nx : Nat} {sp : List Sp} (h : RG w base gb N k nx sp) : gb < w.heap.size := by
  obtain ⟨A, c, h1, h2⟩ := h.ex
  exact h1.lt
theorem RG.next {w : World} {base gb N k nx : Nat} {sp : List Sp} (h : RG w base gb N k nx sp) : w.cell? ⟨gb, 2, none⟩ = some (.int .i64 nx) := by
  obtain ⟨A, c, h1, h2⟩ := h.ex
  rw [h1.cells]
  rfl
theorem elS : Elem Try.prog 34 69 4 32 := Elem.mk' (z := .agg #[.int .i64 0, .int .i64 0, .int .i64 0, .int .i64 0]) (by kernel_rfl) (by kernel_rfl) rfl (by decide)
theorem elC : Elem Try.prog 45 51 3 24 := Elem.mk' (z := .agg #[.int .i64 0, .int .i64 0, .int .i64 0]) (by kernel_rfl) (by kernel_rfl) rfl (by decide)
theorem find_take {sp : List Sp} {f : Sp → Bool} {j : Nat} {s : Sp} (hs : sp[j]? = some s) (h : (sp.take j).find? f = none) : (f s = true → sp.find? f = some s) ∧ (f s = false → (sp.take (j + 1)).find? f = none) := by
  have e : sp = sp.take j ++ (s :: sp.drop (j + 1)) := by
    conv => lhs; rw [← List.take_append_drop j sp]
    rw [List.drop_eq_getElem_cons (List.getElem?_eq_some_iff.1 hs).1]
    congr 2
    exact (List.getElem?_eq_some_iff.1 hs).2
  refine ⟨fun hf => ?_, fun hf => ?_⟩
  · rw [e, List.find?_append, h]
    simp [hf]
  · rw [List.take_add_one, hs, List.find?_append, h]
    simp [hf]

set_option maxRecDepth 100000 in
set_option maxHeartbeats 4000000 in
theorem rgat_any (w : World) (base gb N k nx : Nat) (sp : List Sp) (ch kk : Int) (h : RG w base gb N k nx sp) :
    Calls Try.prog 29 #[.pointer (some ⟨gb, 0, none⟩), .int .i64 ch, .int .i64 kk] w fun e w' => e = .returned (.tuple #[.agg #[.int .i64 ((spotOf sp ch kk).getD (0, 0)).1, .int .i64 ((spotOf sp ch kk).getD (0, 0)).2], .bool (spotOf sp ch kk).isSome]) ∧ Below w.heap.size w w' := by
  obtain ⟨A, c, h1, h2⟩ := h.ex
  have H1 := Lib.hid (h1.al (.cells #[.int .i64 0, .int .i64 0] 39))
  have R0 := Lib.hid (Blk.new w 39 #[.int .i64 0, .int .i64 0] w.heap.size rfl)
  have hr := RowN.of_own (own_below h2 ((Below.refl _ _).alloc (Nat.le_refl _) (.cells #[.int .i64 0, .int .i64 0] 39)))
  obtain ⟨_, A', c', e1, hcl, hcm, hA⟩ := hr
  injection e1 with e1 e2 e3
  subst e1 e3
  have HA := Lib.hid hA
  unfold maxLen at hcm
  have hx := H1.out.cells
  clear h h1 h2 hA
  go_enter Try.func29, Try.ntmps29
  go_wp2_with fail
  go_loopw [8] (fun i wr => ∃ j : Nat, j ≤ sp.length ∧ i = .int .i64 j ∧ wr = w.alloc (.cells #[.int .i64 0, .int .i64 0] 39) ∧ (sp.take j).find? (isSp ch kk) = none) (fun i _ => sp.length - (intOf i).toNat)
  case atStart => exact ⟨0, by omega, rfl, rfl, rfl⟩
  case round =>
    obtain ⟨j, hj, rfl, rfl, hn⟩ := hrel
    have HN := Lib.hid hn
    clear hn
    by_cases hlt : j < sp.length
    · obtain ⟨s, hs⟩ : ∃ s, sp[j]? = some s := ⟨_, List.getElem?_eq_getElem hlt⟩
      have HF := Lib.hid (find_take hs HN.out)
      obtain ⟨q0, q1, q2, q3⟩ := s4_at sp j s hs
      obtain ⟨ad, rfl, hcell⟩ : ∃ ad, A = some ad ∧ ∀ i x, (s4 sp)[i]? = some x → (w.alloc (.cells #[.int .i64 0, .int .i64 0] 39)).cell? (ad.add i) = some x := by
        rcases HA.out with ⟨_, h0⟩ | ⟨ad, e1, _, e3⟩
        · omega
        · exact ⟨ad, e1, e3⟩
      have c0 := hcell _ _ q0
      have c1 := hcell _ _ q1
      have c2 := hcell _ _ q2
      have c3_ := hcell _ _ q3
      rw [← Go.Deep.add_add, addk _ 1 (by decide)] at c1
      rw [← Go.Deep.add_add, addk _ 2 (by decide)] at c2
      rw [← Go.Deep.add_add, addk _ 3 (by decide)] at c3_
      have hjl : (j : Int) < (sp.length : Int) := by omega
      obtain ⟨s0, s1, s2, s3⟩ := s
      dsimp only at c0 c1 c2 c3_
      clear q0 q1 q2 q3 hcell hs
      by_cases hc : s0 = ch
      · have g1 : (s0 == ch) = true := by rw [beq_iff_eq]; exact hc
        by_cases hd : s1 = kk
        · have g2 : (s1 == kk) = true := by rw [beq_iff_eq]; exact hd
          have hf := HF.out.1 ((isSp_iff _ _ _).2 ⟨hc, hd⟩)
          have hsp : spotOf sp ch kk = some (s2, s3) := by unfold spotOf; rw [hf]; rfl
          have HSP := Lib.hid hsp
          have hxr := R0.out.cells
          have hfr := R0.out.froz
          clear hf hsp hc hd
          go_wp2
          have hq := ((R0.out.set 0 (.int .i64 s2)).set 1 (.int .i64 s3)).cells
          refine bodyPost_ret (v := .tuple #[.agg #[.int .i64 s2, .int .i64 s3], .bool true]) (by simp [results, Try.results29, go_sem, hq]) rfl ⟨by rw [HSP.out]; rfl, by go_grown⟩
        · have g2 : (s1 == kk) = false := beq_false_of_ne hd
          have HG := Lib.hid (HF.out.2 (by rw [Bool.eq_false_iff]; exact fun h => hd ((isSp_iff _ _ _).1 h).2))
          clear hd hc
          go_wp2
          go_roundw
          case rel => exact ⟨j + 1, by omega, by go_num, by first | rfl | trivial, HG.out⟩
          case measure => simp [intOf]; omega
      · have g1 : (s0 == ch) = false := beq_false_of_ne hc
        have HG := Lib.hid (HF.out.2 (by rw [Bool.eq_false_iff]; exact fun h => hc ((isSp_iff _ _ _).1 h).1))
        clear hc
        go_wp2
        go_roundw
        case rel => exact ⟨j + 1, by omega, by go_num, by first | rfl | trivial, HG.out⟩
        case measure => simp [intOf]; omega
    · have he : j = sp.length := by omega
      subst he
      have hn := HN.out
      rw [List.take_length] at hn
      have hsp : spotOf sp ch kk = none := by unfold spotOf; rw [hn]; rfl
      have HSP := Lib.hid hsp
      have hxr := R0.out.cells
      have hfr := R0.out.froz
      clear hn hsp
      go_wp2
      have hq := ((R0.out.set 0 (.int .i64 0)).set 1 (.int .i64 0)).cells
      refine bodyPost_ret (v := .tuple #[.agg #[.int .i64 0, .int .i64 0], .bool false]) (by simp [results, Try.results29, go_sem, hq]) rfl ⟨by rw [HSP.out]; rfl, by go_grown⟩

set_option maxRecDepth 100000 in
set_option maxHeartbeats 4000000 in
theorem rgnew_any (v : Value) (c : Cf) (w : World) (h : IsConf w v c) (N k : Nat) (hN : N = (chansOf c.rows).length) (hk : c.C = (k : Int)) (hN2 : N ≤ 2500) :
    Calls Try.prog 12 #[v] w fun e w' => ∃ gb, e = .returned (.pointer (some ⟨gb, 0, none⟩)) ∧ RG w' w.heap.size gb N k 0 [] ∧ Below w.heap.size w w' := by
  obtain ⟨s, r, rfl, hs⟩ := h
  have HS := Lib.hid hs
  obtain ⟨A, cp, rfl, _, _, q⟩ := hs.src
  have HNN := Lib.hid hN
  have HCK := Lib.hid hk
  clear hs q hN hk
  go_enter Try.func12, Try.ntmps12
  go_wp2_with fail
  refine wp_world (fun W => Below w.heap.size w W ∧ Blk W w.heap.size 25 #[.int .i64 c.P, .int .i64 c.H, .int .i64 c.C, .int .i64 c.Mn, .int .i64 c.Mx, .int .i64 c.Rho, .int .i64 c.Bd, .int .i64 c.Win, .int .i64 c.St, .slice A c.rows.length cp, r]) ⟨by go_grown, Blk.new _ _ _ _ rfl⟩ fun W ⟨hbW, hBW⟩ => ?_
  have HB := Lib.hid hBW
  have lB := hBW.lt
  have dB : ∀ w', Below W.heap.size W w' → ∀ i, w'.cell? ⟨w.heap.size, i, none⟩ = (#[.int .i64 c.P, .int .i64 c.H, .int .i64 c.C, .int .i64 c.Mn, .int .i64 c.Mx, .int .i64 c.Rho, .int .i64 c.Bd, .int .i64 c.Win, .int .i64 c.St, .slice A c.rows.length cp, r] : Array Value)[i]? := fun w' hb i => (HB.out.below hb).cells i
  clear hBW
  refine wp_region_held_drew (S := fun w' => Below W.heap.size W w') (by kernel_rfl) (by go_grown) (fun hHeld => ?_)
  refine takeD 0 (some 3) (v := ?_) rfl rfl (by kernel_rfl) (by kernel_rfl) (by kernel_rfl) (fun _ _ _ h => h) (by rfl) ?_ (by assumption) ?_
  rotate_left
  · intro w hSw
    (try dsimp only at hSw)
    go_simp
    try with_reducible rfl
  try simp only [Act.put, List.setIfInBounds_toArray, List.set_cons_zero, List.set_cons_succ]
  refine takeD 2 (some 5) (v := ?_) rfl rfl (by kernel_rfl) (by kernel_rfl) (by kernel_rfl) (fun _ _ _ h => h) (by rfl) ?_ (by assumption) ?_
  rotate_left
  · intro w hSw
    (try dsimp only at hSw)
    go_simp
    try with_reducible rfl
  try simp only [Act.put, List.setIfInBounds_toArray, List.set_cons_zero, List.set_cons_succ]
  refine takeD 3 (some 6) (v := ?_) rfl rfl (by kernel_rfl) (by kernel_rfl) (by kernel_rfl) (fun _ _ _ h => h) (by rfl) ?_ (by assumption) ?_
  rotate_left
  · intro w hSw
    (try dsimp only at hSw)
    go_simp
    try with_reducible rfl
  try simp only [Act.put, List.setIfInBounds_toArray, List.set_cons_zero, List.set_cons_succ]
  refine wpAnyH_ready (rs := [1]) (by kernel_rfl) (by simp) ?_
  refine AllReadyH.cons rfl (fun K hK => ?_) AllReadyH.nil
  rw [if_pos (by rfl)]
  go_simp
  go_at_call 20
  refine (rmany_any _ c _ ⟨_, _, rfl, HS.out.below (hbW.trans (hHeld.mono hbW.size))⟩ (by rw [← HNN.out]; omega)).mono ?_
  rintro e w1 ⟨rfl, hk⟩
  rw [← HNN.out]
  go_wp2_with fail
  refine hK.out _ _ ?_ (fun hHeld2 => ?_)
  · first | exact hHeld.trans (hk.mono hHeld.size) | (clear hK; have hz := hHeld.size; go_grown)
  clear hK K hHeld
  have hHeld := hHeld2
  clear hHeld2
  try clear hk
  try simp only [Act.put, List.setIfInBounds_toArray, List.set_cons_zero, List.set_cons_succ]
  refine takeD 4 (some 7) (v := ?_) rfl rfl (by kernel_rfl) (by kernel_rfl) (by kernel_rfl) (fun _ _ _ h => h) (by rfl) ?_ (by assumption) ?_
  rotate_left
  · intro w hSw
    (try dsimp only at hSw)
    go_simp
    try with_reducible rfl
  try simp only [Act.put, List.setIfInBounds_toArray, List.set_cons_zero, List.set_cons_succ]
  refine wpAnyH_ready (rs := [5]) (by kernel_rfl) (by simp) ?_
  refine AllReadyH.cons rfl (fun K hK => ?_) AllReadyH.nil
  rw [if_pos (by rfl)]
  go_simp
  refine hK.out _ _ ?_ (fun hHeld2 => ?_)
  · first | exact hHeld.trans (hk.mono hHeld.size) | (clear hK; have hz := hHeld.size; go_grown)
  clear hK K hHeld
  have hHeld := hHeld2
  clear hHeld2
  try clear hk
  try simp only [Act.put, List.setIfInBounds_toArray, List.set_cons_zero, List.set_cons_succ]
  refine takeD 6 (some 2) (v := ?_) rfl rfl (by kernel_rfl) (by kernel_rfl) (by kernel_rfl) (fun _ _ _ h => h) (by rfl) ?_ (by assumption) ?_
  rotate_left
  · intro w hSw
    (try dsimp only at hSw)
    go_simp
    try with_reducible rfl
  try simp only [Act.put, List.setIfInBounds_toArray, List.set_cons_zero, List.set_cons_succ]
  refine wpAnyH_done (by kernel_rfl) ?_ _
  go_wp2
  go_ret
  rw [HCK.out] at hHeld ⊢
  have hz := hHeld.size
  rw [World.size_alloc] at hz
  refine ⟨_, rfl, ⟨⟨none, 0, Blk.new _ _ _ _ rfl, own_nilN _ _⟩, ?_⟩, ?_⟩
  · omega
  · exact hbW.trans (hHeld.mono hbW.size)

set_option maxRecDepth 100000 in
set_option maxHeartbeats 8000000 in
theorem rgput_any (w : World) (base gb N k nx : Nat) (sp : List Sp) (ch p : Int) (x : Int × Int) (h : RG w base gb N k nx sp) (hb : -1000000 ≤ p ∧ p ≤ 1000000) (hn : nx ≤ 1000000) (hsp : sp.length ≤ 1000000) (hN : N ≤ 2500) (hk : k ≤ 64) (hbase : base ≤ w.heap.size) :
    Calls Try.prog 19 #[.pointer (some ⟨gb, 0, none⟩), .int .i64 ch, .int .i64 ((nx : Int) + p), .agg #[.int .i64 x.1, .int .i64 x.2]] w fun e w' => e = .returned (.int .i64 (rcode N k nx sp ch p)) ∧ RG w' base gb N k nx (rnext N k nx sp ch p x.1 x.2) ∧ Only [gb] w w' := by
  obtain ⟨kk, hkk⟩ : ∃ kk, kk = (nx : Int) + p := ⟨_, rfl⟩
  rw [← hkk]
  obtain ⟨A, c, h1, h2⟩ := h.ex
  have hBl := (Below.refl w.heap.size w).alloc (Nat.le_refl _) (.cells #[.int .i64 x.1, .int .i64 x.2] 39)
  have HRG0 := Lib.hid (h.below hBl)
  have HOW0 := Lib.hid (Only.of_below [gb] hBl)
  have HLO := Lib.hid h.lo
  have lG0 : gb < w.heap.size := h.lt
  have hx := (h1.below hBl).cells
  have lG := (h1.below hBl).lt
  have hxb := (Blk.new w 39 #[.int .i64 x.1, .int .i64 x.2] w.heap.size rfl).cells
  have HXB := Lib.hid (Blk.new w 39 #[.int .i64 x.1, .int .i64 x.2] w.heap.size rfl)
  clear h h1 h2
  by_cases c1 : ch < 0
  · have e : rcode N k nx sp ch p = 0 := if_pos (.inl c1)
    have e2 : rnext N k nx sp ch p x.1 x.2 = sp := by rw [rnext, e]; rfl
    have f1 : decide (ch < 0) = true := decide_eq_true c1
    rw [e, e2]
    clear e e2
    go_enter Try.func19, Try.ntmps19
    go_wp2
    go_ret
    exact ⟨by first | rfl | simp, HRG0.out, HOW0.out⟩
  have f1 : decide (ch < 0) = false := decide_eq_false c1
  by_cases c2 : (N : Int) ≤ ch
  · have e : rcode N k nx sp ch p = 0 := if_pos (.inr c2)
    have e2 : rnext N k nx sp ch p x.1 x.2 = sp := by rw [rnext, e]; rfl
    have f2 : decide (ch ≥ (N : Int)) = true := decide_eq_true c2
    rw [e, e2]
    clear e e2
    go_enter Try.func19, Try.ntmps19
    go_wp2
    go_ret
    exact ⟨by first | rfl | simp, HRG0.out, HOW0.out⟩
  have f2 : decide (ch ≥ (N : Int)) = false := decide_eq_false (by omega)
  have cc : ¬ (ch < 0 ∨ (N : Int) ≤ ch) := by omega
  by_cases c3_ : p < 0
  · have e : rcode N k nx sp ch p = 6 := by rw [rcode, if_neg cc, if_pos c3_]
    have e2 : rnext N k nx sp ch p x.1 x.2 = sp := by rw [rnext, e]; rfl
    have f3 : decide (kk < (nx : Int)) = true := decide_eq_true (by omega)
    rw [e, e2]
    clear e e2 hkk
    go_enter Try.func19, Try.ntmps19
    go_wp2
    go_ret
    exact ⟨by first | rfl | simp, HRG0.out, HOW0.out⟩
  have f3 : decide (kk < (nx : Int)) = false := decide_eq_false (by omega)
  have hw : IntKind.i64.wrap (kk - (nx : Int)) = kk - (nx : Int) := IntWalk.i64_in _ (by omega)
  by_cases c4 : (k : Int) ≤ p
  · have e : rcode N k nx sp ch p = 7 := by rw [rcode, if_neg cc, if_neg c3_, if_pos c4]
    have e2 : rnext N k nx sp ch p x.1 x.2 = sp := by rw [rnext, e]; rfl
    have f4 : decide (kk - (nx : Int) ≥ (k : Int)) = true := decide_eq_true (by omega)
    rw [e, e2]
    clear e e2 hkk
    go_enter Try.func19, Try.ntmps19
    go_wp2_with fail
    refine wp_world (fun W => RG W base gb N k nx sp ∧ Only [gb] w W ∧ Blk W w.heap.size 39 #[.int .i64 x.1, .int .i64 x.2]) ⟨HRG0.out, HOW0.out, HXB.out⟩ fun U ⟨hrgU, hoU, hxU⟩ => ?_
    have HRGU := Lib.hid hrgU
    have HOU := Lib.hid hoU
    have HXU := Lib.hid hxU
    obtain ⟨AU, cU, u1, u2⟩ := hrgU.ex
    clear hx hxb u2 hrgU hoU hxU HRG0 HOW0 HXB
    have hx := u1.cells
    have hxb := HXU.out.cells
    clear u1
    go_still_tail 10, (by kernel_rfl)
    go_wp2
    go_ret
    exact ⟨by first | rfl | simp, HRGU.out.below (Bdrew (Below.refl _ _) 1), HOU.out.drew 1⟩
  have f4 : decide (kk - (nx : Int) ≥ (k : Int)) = false := decide_eq_false (by omega)
  have e : rcode N k nx sp ch p = if (spotOf sp ch kk).isSome then 8 else 9 := by rw [rcode, if_neg cc, if_neg c3_, if_neg c4, hkk]
  obtain ⟨i, rfl⟩ : ∃ i : Nat, ch = (i : Int) := ⟨ch.toNat, by omega⟩
  cases hs : (spotOf sp (i : Int) kk).isSome with
  | true =>
    rw [hs, if_pos rfl] at e
    have e2 : rnext N k nx sp (i : Int) p x.1 x.2 = sp := by rw [rnext, e]; rfl
    rw [e, e2]
    have HS := Lib.hid hs
    clear e e2 hkk hs
    go_enter Try.func19, Try.ntmps19
    go_wp2_with fail
    refine wp_world (fun W => RG W base gb N k nx sp ∧ Only [gb] w W ∧ Blk W w.heap.size 39 #[.int .i64 x.1, .int .i64 x.2]) ⟨HRG0.out, HOW0.out, HXB.out⟩ fun U ⟨hrgU, hoU, hxU⟩ => ?_
    have HRGU := Lib.hid hrgU
    have HOU := Lib.hid hoU
    have HXU := Lib.hid hxU
    obtain ⟨AU, cU, u1, u2⟩ := hrgU.ex
    clear hx hxb u2 hrgU hoU hxU HRG0 HOW0 HXB
    have hx := u1.cells
    have hxb := HXU.out.cells
    clear u1
    go_still_tail 10, (by kernel_rfl)
    go_wp2_with fail
    refine (rgat_any _ base gb N k nx sp (i : Int) kk (HRGU.out.below (Bdrew (Below.refl _ _) 1))).mono ?_
    rintro e w1 ⟨rfl, hk1⟩
    rw [HS.out]
    clear hx hxb
    go_wp2
    go_ret
    have hk2 := (hk1.alloc hk1.size (.cells #[.int .i64 ((spotOf sp (i : Int) kk).getD (0, 0)).1, .int .i64 ((spotOf sp (i : Int) kk).getD (0, 0)).2] 39))
    have hk3 := (Bdrew (Below.refl _ _) 1).trans hk2
    exact ⟨by first | rfl | simp, HRGU.out.below hk3, HOU.out.trans (Only.of_below _ hk3)⟩
  | false =>
    rw [hs, if_neg (by decide)] at e
    have e2 : rnext N k nx sp (i : Int) p x.1 x.2 = sp ++ [((i : Int), kk, x.1, x.2)] := by rw [rnext, e, if_pos rfl, hkk]
    rw [e, e2]
    have HS := Lib.hid hs
    clear e e2 hkk hs
    go_enter Try.func19, Try.ntmps19
    go_wp2_with fail
    refine wp_world (fun W => RG W base gb N k nx sp ∧ Only [gb] w W ∧ Blk W w.heap.size 39 #[.int .i64 x.1, .int .i64 x.2]) ⟨HRG0.out, HOW0.out, HXB.out⟩ fun U ⟨hrgU, hoU, hxU⟩ => ?_
    have HRGU := Lib.hid hrgU
    have HOU := Lib.hid hoU
    have HXU := Lib.hid hxU
    obtain ⟨AU, cU, u1, u2⟩ := hrgU.ex
    clear hx hxb u2 hrgU hoU hxU HRG0 HOW0 HXB
    have hx := u1.cells
    have hxb := HXU.out.cells
    clear u1
    go_still_tail 10, (by kernel_rfl)
    go_wp2_with fail
    refine (rgat_any _ base gb N k nx sp (i : Int) kk (HRGU.out.below (Bdrew (Below.refl _ _) 1))).mono ?_
    rintro e w1 ⟨rfl, hk1⟩
    rw [HS.out]
    clear hx hxb
    go_wp2_with fail
    have hk2 := (hk1.alloc hk1.size (.cells #[.int .i64 ((spotOf sp (i : Int) kk).getD (0, 0)).1, .int .i64 ((spotOf sp (i : Int) kk).getD (0, 0)).2] 39))
    have hk3 := (Bdrew (Below.refl _ _) 1).trans hk2
    refine wp_world (fun W => RG W base gb N k nx sp ∧ Only [gb] w W ∧ Blk W w.heap.size 39 #[.int .i64 x.1, .int .i64 x.2]) ⟨HRGU.out.below hk3, HOU.out.trans (Only.of_below _ hk3), HXU.out.below hk3⟩ fun W ⟨hrgW, hoW, hxW⟩ => ?_
    have HOW := Lib.hid hoW
    obtain ⟨A, c, h1, h2⟩ := hrgW.ex
    have HG := Lib.hid h1
    have HOS := Lib.hid h2
    have HX := Lib.hid hxW
    have lG := h1.lt
    have hgx : w.heap.size ≠ gb := by omega
    have dX : ∀ w', Only [gb] W w' → ∀ i, w'.cell? ⟨w.heap.size, i, none⟩ = (#[.int .i64 x.1, .int .i64 x.2] : Array Value)[i]? := fun w' hh i => (HX.out.only hh (by simpa using hgx)).cells i
    have hbW : Below W.heap.size W W := Below.refl _ _
    have hzW := Nat.le_trans hbase hoW.size
    clear h1 h2 hrgW hoW hxW hk1 hk2 hk3 HRGU HOU HXU hw f1 f2 f3 f4 cc c1 c2 c3_ c4
    refine wp_region_held_drew (S := fun w' => Only [gb] W w') (by kernel_rfl) ((Only.refl _ _).drew 1) (fun hHeld => ?_)
    refine takeD 0 (some 46) (v := ?_) rfl rfl (by kernel_rfl) (by kernel_rfl) (by kernel_rfl) (fun _ _ _ h => h) (by rfl) ?_ (by assumption) ?_
    rotate_left
    · intro w hSw
      (try dsimp only at hSw)
      go_simp
      try with_reducible rfl
    try simp only [Act.put, List.setIfInBounds_toArray, List.set_cons_zero, List.set_cons_succ]
    refine takeD 2 (some 48) (v := ?_) rfl rfl (by kernel_rfl) (by kernel_rfl) (by kernel_rfl) (fun _ _ _ h => h) (by rfl) ?_ (by assumption) ?_
    rotate_left
    · intro w hSw
      (try dsimp only at hSw)
      go_simp
      try with_reducible rfl
    try simp only [Act.put, List.setIfInBounds_toArray, List.set_cons_zero, List.set_cons_succ]
    refine takeD 3 (some 49) (v := ?_) rfl rfl (by kernel_rfl) (by kernel_rfl) (by kernel_rfl) (fun _ _ _ h => h) (by rfl) ?_ (by assumption) ?_
    rotate_left
    · intro w hSw
      (try dsimp only at hSw)
      go_simp
      try with_reducible rfl
    try simp only [Act.put, List.setIfInBounds_toArray, List.set_cons_zero, List.set_cons_succ]
    refine takeD 4 (some 50) (v := ?_) rfl rfl (by kernel_rfl) (by kernel_rfl) (by kernel_rfl) (fun _ _ _ h => h) (by rfl) ?_ (by assumption) ?_
    rotate_left
    · intro w hSw
      (try dsimp only at hSw)
      go_simp
      try with_reducible rfl
    try simp only [Act.put, List.setIfInBounds_toArray, List.set_cons_zero, List.set_cons_succ]
    refine takeD 7 (some 53) (v := ?_) rfl rfl (by kernel_rfl) (by kernel_rfl) (by kernel_rfl) (fun _ _ _ h => h) (by rfl) ?_ (by assumption) ?_
    rotate_left
    · intro w hSw
      (try dsimp only at hSw)
      go_simp
      try with_reducible rfl
    try simp only [Act.put, List.setIfInBounds_toArray, List.set_cons_zero, List.set_cons_succ]
    refine takeD 8 (some 54) (v := ?_) rfl rfl (by kernel_rfl) (by kernel_rfl) (by kernel_rfl) (fun _ _ _ h => h) (by rfl) ?_ (by assumption) ?_
    rotate_left
    · intro w hSw
      (try dsimp only at hSw)
      go_simp
      try with_reducible rfl
    try simp only [Act.put, List.setIfInBounds_toArray, List.set_cons_zero, List.set_cons_succ]
    refine takeD 9 (some 55) (v := ?_) rfl rfl (by kernel_rfl) (by kernel_rfl) (by kernel_rfl) (fun _ _ _ h => h) (by rfl) ?_ (by assumption) ?_
    rotate_left
    · intro w hSw
      (try dsimp only at hSw)
      go_simp
      try with_reducible rfl
    try simp only [Act.put, List.setIfInBounds_toArray, List.set_cons_zero, List.set_cons_succ]
    refine takeD 10 (some 56) (v := ?_) rfl rfl (by kernel_rfl) (by kernel_rfl) (by kernel_rfl) (fun _ _ _ h => h) (by rfl) ?_ (by assumption) ?_
    rotate_left
    · intro w hSw
      (try dsimp only at hSw)
      go_simp
      try with_reducible rfl
    try simp only [Act.put, List.setIfInBounds_toArray, List.set_cons_zero, List.set_cons_succ]
    refine wpAnyH_ready (rs := [1, 5, 11]) (by kernel_rfl) (by simp) ?_
    refine AllReadyH.cons rfl (fun K hK => ?_) (AllReadyH.cons rfl (fun K hK => ?_) (AllReadyH.cons rfl (fun K hK => ?_) AllReadyH.nil))
    · rw [if_pos (by rfl)]
      go_simp
      refine nameW (fun V1 => Below W.heap.size W V1 ∧ World.ownsRow V1 W.heap.size 69 4 (.slice (some ⟨W.heap.size, 0, none⟩) 0 0) 0 [] ∧ W.heap.size < V1.heap.size) ⟨(hbW.alloc hbW.size _).drew, World.ownsRow.drew (own_emptyN _ _ _ _ _ hbW.size rfl), by simp⟩ fun V1 ⟨hbW2, qHE, qHL1⟩ => ?_
      have hbW := hbW2
      clear hbW2
      have HE := Lib.hid qHE
      clear qHE
      have HL1 := Lib.hid qHL1
      clear qHL1
      have hS := Only.of_below [gb] hbW
      refine hK.out _ _ ?_ (fun hHeld2 => ?_)
      · clear hK; exact hS
      clear hK K hHeld hS
      have hHeld := hHeld2
      clear hHeld2
      try simp only [Act.put, List.setIfInBounds_toArray, List.set_cons_zero, List.set_cons_succ]
      refine wpAnyH_ready (rs := [5, 11]) (by kernel_rfl) (by simp) ?_
      refine AllReadyH.cons rfl (fun K hK => ?_) (AllReadyH.cons rfl (fun K hK => ?_) AllReadyH.nil)
      · rw [if_pos (by rfl)]
        have cG := (HG.out.below hbW).cells
        go_simp
        clear cG
        have hS := hHeld
        refine hK.out _ _ ?_ (fun hHeld2 => ?_)
        · clear hK; exact hS
        clear hK K hHeld hS
        have hHeld := hHeld2
        clear hHeld2
        try simp only [Act.put, List.setIfInBounds_toArray, List.set_cons_zero, List.set_cons_succ]
        refine wpAnyH_ready (rs := [6, 11]) (by kernel_rfl) (by simp) ?_
        refine AllReadyH.cons rfl (fun K hK => ?_) (AllReadyH.cons rfl (fun K hK => ?_) AllReadyH.nil)
        · rw [if_pos (by rfl)]
          refine wp_appN elS (.tmp 47) (.tmp 51) rfl W.heap.size _ 0 [] rfl HE.out _ sp.length (s4 sp) rfl (RowN.of_own (own_below HOS.out hbW)) (s4_one sp) (by unfold maxLen; omega) (by omega) hbW.size ?_
          intro v2 V2 hO2 hg2 _
          have hbW2 := below_app hbW hbW.size HE.out hg2 (Nat.le_refl _)
          rw [Nat.zero_add, List.nil_append] at hO2
          obtain ⟨A2, c2, rfl⟩ := own_shape hO2
          have HV2 := Lib.hid hO2
          clear hO2 hg2 HE HL1 hbW
          have hbW := hbW2
          clear hbW2
          have hS := Only.of_below [gb] hbW
          refine hK.out _ _ ?_ (fun hHeld2 => ?_)
          · clear hK; exact hS
          clear hK K hHeld hS
          have hHeld := hHeld2
          clear hHeld2
          try simp only [Act.put, List.setIfInBounds_toArray, List.set_cons_zero, List.set_cons_succ]
          refine wpAnyH_ready (rs := [11]) (by kernel_rfl) (by simp) ?_
          refine AllReadyH.cons rfl (fun K hK => ?_) AllReadyH.nil
          rw [if_pos (by rfl)]
          go_simp
          refine nameW (fun V3 => Below W.heap.size W V3 ∧ World.ownsRow V3 W.heap.size 69 4 (.slice A2 sp.length c2) sp.length (s4 sp) ∧ Blk V3 V2.heap.size 69 #[.int .i64 i, .int .i64 kk, .int .i64 x.1, .int .i64 x.2]) ⟨hbW.alloc hbW.size _, (own_below HV2.out ((Below.refl _ _).alloc (Nat.le_refl _) _)), Blk.new _ _ _ _ rfl⟩ fun V3 ⟨hbW2, qHV2, qHN⟩ => ?_
          clear HV2
          have hbW := hbW2
          clear hbW2
          have HV2 := Lib.hid qHV2
          clear qHV2
          have HN := Lib.hid qHN
          clear qHN
          have hS := Only.of_below [gb] hbW
          refine hK.out _ _ ?_ (fun hHeld2 => ?_)
          · clear hK; exact hS
          clear hK K hHeld hS
          have hHeld := hHeld2
          clear hHeld2
          try simp only [Act.put, List.setIfInBounds_toArray, List.set_cons_zero, List.set_cons_succ]
          refine wpAnyH_ready (rs := [12]) (by kernel_rfl) (by simp) ?_
          refine AllReadyH.cons rfl (fun K hK => ?_) AllReadyH.nil
          rw [if_pos (by rfl)]
          refine wp_appN elS (.tmp 52) (.tmp 57) rfl W.heap.size _ sp.length (s4 sp) rfl HV2.out _ 1 (s4 [((i : Int), kk, x.1, x.2)]) rfl (RowN.of_blk HN.out rfl rfl (Nat.le_refl _) (by decide)) (s4_one _) (by unfold maxLen; omega) (by omega) hbW.size ?_
          intro v3 V4 hO3 hg3 _
          have hbW2 := below_app hbW hbW.size HV2.out hg3 (Nat.le_refl _)
          rw [← s4_app] at hO3
          obtain ⟨A3, c3_, rfl⟩ := own_shape hO3
          have HV3 := Lib.hid hO3
          clear hO3 hg3 HV2 HN hbW
          have hbW := hbW2
          clear hbW2
          have hG3 := HG.out.below hbW
          have cG := hG3.cells
          have fG := hG3.froz
          have hS := Only.of_below [gb] hbW
          refine hK.out _ _ ?_ (fun hHeld2 => ?_)
          · clear hK; exact hS
          clear hK K hHeld hS
          have hHeld := hHeld2
          clear hHeld2
          try simp only [Act.put, List.setIfInBounds_toArray, List.set_cons_zero, List.set_cons_succ]
          refine takeD 13 (some 59) (v := ?_) rfl rfl (by kernel_rfl) (by kernel_rfl) (by kernel_rfl) (fun _ _ _ h => h) (by rfl) ?_ (by assumption) ?_
          rotate_left
          · intro w hSw
            (try dsimp only at hSw)
            go_simp
            try with_reducible rfl
          try simp only [Act.put, List.setIfInBounds_toArray, List.set_cons_zero, List.set_cons_succ]
          refine takeD 14 (some 60) (v := ?_) rfl rfl (by kernel_rfl) (by kernel_rfl) (by kernel_rfl) (fun _ _ _ h => h) (by rfl) ?_ (by assumption) ?_
          rotate_left
          · intro w hSw
            (try dsimp only at hSw)
            go_simp
            try with_reducible rfl
          try simp only [Act.put, List.setIfInBounds_toArray, List.set_cons_zero, List.set_cons_succ]
          refine wpAnyH_ready (rs := [15]) (by kernel_rfl) (by simp) ?_
          refine AllReadyH.cons rfl (fun K hK => ?_) AllReadyH.nil
          rw [if_pos (by rfl)]
          go_simp
          have hS := (Only.of_below [gb] hbW).setCell (p := ⟨gb, 3, none⟩) (by simp) (.slice A3 (sp.length + 1) c3_)
          refine hK.out _ _ ?_ (fun hHeld2 => ?_)
          · clear hK; exact hS
          clear hK K hHeld hS
          have hHeld := hHeld2
          clear hHeld2
          try simp only [Act.put, List.setIfInBounds_toArray, List.set_cons_zero, List.set_cons_succ]
          refine wpAnyH_done (by kernel_rfl) ?_ _
          have hG4 := hG3.set 3 (.slice A3 (sp.length + 1) c3_)
          have hO4 := own_typed HV3.out hG3 (by decide) ((Only.refl [gb] _).setCell (p := ⟨gb, 3, none⟩) (by simp) (.slice A3 (sp.length + 1) c3_))
          go_wp2
          go_ret
          refine ⟨by first | rfl | simp, ⟨⟨A3, c3_, ?_, ?_⟩, HLO.out⟩, HOW.out.trans hHeld⟩
          · rw [List.length_append]; exact hG4
          · rw [List.length_append]; exact own_lower hO4 (by omega)
        · rw [if_pos (by rfl)]
          go_simp
          refine nameW (fun V2 => Below W.heap.size W V2 ∧ World.ownsRow V2 W.heap.size 69 4 (.slice (some ⟨W.heap.size, 0, none⟩) 0 0) 0 [] ∧ W.heap.size < V2.heap.size ∧ Blk V2 V1.heap.size 69 #[.int .i64 i, .int .i64 kk, .int .i64 x.1, .int .i64 x.2]) ⟨hbW.alloc hbW.size _, (own_below HE.out ((Below.refl _ _).alloc (Nat.le_refl _) _)), (Nat.lt_of_lt_of_le HL1.out (by simp)), Blk.new _ _ _ _ rfl⟩ fun V2 ⟨hbW2, qHE, qHL1, qHN⟩ => ?_
          have HNE := Lib.hid (show V1.heap.size ≠ W.heap.size by have := HL1.out; omega)
          clear HE HL1
          have hbW := hbW2
          clear hbW2
          have HE := Lib.hid qHE
          clear qHE
          have HL1 := Lib.hid qHL1
          clear qHL1
          have HN := Lib.hid qHN
          clear qHN
          have hS := Only.of_below [gb] hbW
          refine hK.out _ _ ?_ (fun hHeld2 => ?_)
          · clear hK; exact hS
          clear hK K hHeld hS
          have hHeld := hHeld2
          clear hHeld2
          try simp only [Act.put, List.setIfInBounds_toArray, List.set_cons_zero, List.set_cons_succ]
          refine wpAnyH_ready (rs := [6]) (by kernel_rfl) (by simp) ?_
          refine AllReadyH.cons rfl (fun K hK => ?_) AllReadyH.nil
          rw [if_pos (by rfl)]
          refine wp_appN elS (.tmp 47) (.tmp 51) rfl W.heap.size _ 0 [] rfl HE.out _ sp.length (s4 sp) rfl (RowN.of_own (own_below HOS.out hbW)) (s4_one sp) (by unfold maxLen; omega) (by omega) hbW.size ?_
          intro v2 V3 hO2 hg2 _
          have hbW2 := below_app hbW hbW.size HE.out hg2 (Nat.le_refl _)
          rw [Nat.zero_add, List.nil_append] at hO2
          obtain ⟨A2, c2, rfl⟩ := own_shape hO2
          have HV2 := Lib.hid hO2
          have HN2 := Lib.hid (show Blk _ _ _ _ from (hg2.block _ HN.out.lt (by intro h; injection h with h; exact HNE.out h)).trans HN.out)
          clear HN
          have HN := Lib.hid HN2.out
          clear HN2 HNE
          clear hO2 hg2 HE HL1 hbW
          have hbW := hbW2
          clear hbW2
          have hS := Only.of_below [gb] hbW
          refine hK.out _ _ ?_ (fun hHeld2 => ?_)
          · clear hK; exact hS
          clear hK K hHeld hS
          have hHeld := hHeld2
          clear hHeld2
          try simp only [Act.put, List.setIfInBounds_toArray, List.set_cons_zero, List.set_cons_succ]
          refine wpAnyH_ready (rs := [12]) (by kernel_rfl) (by simp) ?_
          refine AllReadyH.cons rfl (fun K hK => ?_) AllReadyH.nil
          rw [if_pos (by rfl)]
          refine wp_appN elS (.tmp 52) (.tmp 57) rfl W.heap.size _ sp.length (s4 sp) rfl HV2.out _ 1 (s4 [((i : Int), kk, x.1, x.2)]) rfl (RowN.of_blk HN.out rfl rfl (Nat.le_refl _) (by decide)) (s4_one _) (by unfold maxLen; omega) (by omega) hbW.size ?_
          intro v3 V4 hO3 hg3 _
          have hbW2 := below_app hbW hbW.size HV2.out hg3 (Nat.le_refl _)
          rw [← s4_app] at hO3
          obtain ⟨A3, c3_, rfl⟩ := own_shape hO3
          have HV3 := Lib.hid hO3
          clear hO3 hg3 HV2 HN hbW
          have hbW := hbW2
          clear hbW2
          have hG3 := HG.out.below hbW
          have cG := hG3.cells
          have fG := hG3.froz
          have hS := Only.of_below [gb] hbW
          refine hK.out _ _ ?_ (fun hHeld2 => ?_)
          · clear hK; exact hS
          clear hK K hHeld hS
          have hHeld := hHeld2
          clear hHeld2
          try simp only [Act.put, List.setIfInBounds_toArray, List.set_cons_zero, List.set_cons_succ]
          refine takeD 13 (some 59) (v := ?_) rfl rfl (by kernel_rfl) (by kernel_rfl) (by kernel_rfl) (fun _ _ _ h => h) (by rfl) ?_ (by assumption) ?_
          rotate_left
          · intro w hSw
            (try dsimp only at hSw)
            go_simp
            try with_reducible rfl
          try simp only [Act.put, List.setIfInBounds_toArray, List.set_cons_zero, List.set_cons_succ]
          refine takeD 14 (some 60) (v := ?_) rfl rfl (by kernel_rfl) (by kernel_rfl) (by kernel_rfl) (fun _ _ _ h => h) (by rfl) ?_ (by assumption) ?_
          rotate_left
          · intro w hSw
            (try dsimp only at hSw)
            go_simp
            try with_reducible rfl
          try simp only [Act.put, List.setIfInBounds_toArray, List.set_cons_zero, List.set_cons_succ]
          refine wpAnyH_ready (rs := [15]) (by kernel_rfl) (by simp) ?_
          refine AllReadyH.cons rfl (fun K hK => ?_) AllReadyH.nil
          rw [if_pos (by rfl)]
          go_simp
          have hS := (Only.of_below [gb] hbW).setCell (p := ⟨gb, 3, none⟩) (by simp) (.slice A3 (sp.length + 1) c3_)
          refine hK.out _ _ ?_ (fun hHeld2 => ?_)
          · clear hK; exact hS
          clear hK K hHeld hS
          have hHeld := hHeld2
          clear hHeld2
          try simp only [Act.put, List.setIfInBounds_toArray, List.set_cons_zero, List.set_cons_succ]
          refine wpAnyH_done (by kernel_rfl) ?_ _
          have hG4 := hG3.set 3 (.slice A3 (sp.length + 1) c3_)
          have hO4 := own_typed HV3.out hG3 (by decide) ((Only.refl [gb] _).setCell (p := ⟨gb, 3, none⟩) (by simp) (.slice A3 (sp.length + 1) c3_))
          go_wp2
          go_ret
          refine ⟨by first | rfl | simp, ⟨⟨A3, c3_, ?_, ?_⟩, HLO.out⟩, HOW.out.trans hHeld⟩
          · rw [List.length_append]; exact hG4
          · rw [List.length_append]; exact own_lower hO4 (by omega)
      · rw [if_pos (by rfl)]
        go_simp
        refine nameW (fun V2 => Below W.heap.size W V2 ∧ World.ownsRow V2 W.heap.size 69 4 (.slice (some ⟨W.heap.size, 0, none⟩) 0 0) 0 [] ∧ W.heap.size < V2.heap.size ∧ Blk V2 V1.heap.size 69 #[.int .i64 i, .int .i64 kk, .int .i64 x.1, .int .i64 x.2]) ⟨hbW.alloc hbW.size _, (own_below HE.out ((Below.refl _ _).alloc (Nat.le_refl _) _)), (Nat.lt_of_lt_of_le HL1.out (by simp)), Blk.new _ _ _ _ rfl⟩ fun V2 ⟨hbW2, qHE, qHL1, qHN⟩ => ?_
        have HNE := Lib.hid (show V1.heap.size ≠ W.heap.size by have := HL1.out; omega)
        clear HE HL1
        have hbW := hbW2
        clear hbW2
        have HE := Lib.hid qHE
        clear qHE
        have HL1 := Lib.hid qHL1
        clear qHL1
        have HN := Lib.hid qHN
        clear qHN
        have hS := Only.of_below [gb] hbW
        refine hK.out _ _ ?_ (fun hHeld2 => ?_)
        · clear hK; exact hS
        clear hK K hHeld hS
        have hHeld := hHeld2
        clear hHeld2
        try simp only [Act.put, List.setIfInBounds_toArray, List.set_cons_zero, List.set_cons_succ]
        refine wpAnyH_ready (rs := [5]) (by kernel_rfl) (by simp) ?_
        refine AllReadyH.cons rfl (fun K hK => ?_) AllReadyH.nil
        rw [if_pos (by rfl)]
        have cG := (HG.out.below hbW).cells
        go_simp
        clear cG
        have hS := hHeld
        refine hK.out _ _ ?_ (fun hHeld2 => ?_)
        · clear hK; exact hS
        clear hK K hHeld hS
        have hHeld := hHeld2
        clear hHeld2
        try simp only [Act.put, List.setIfInBounds_toArray, List.set_cons_zero, List.set_cons_succ]
        refine wpAnyH_ready (rs := [6]) (by kernel_rfl) (by simp) ?_
        refine AllReadyH.cons rfl (fun K hK => ?_) AllReadyH.nil
        rw [if_pos (by rfl)]
        refine wp_appN elS (.tmp 47) (.tmp 51) rfl W.heap.size _ 0 [] rfl HE.out _ sp.length (s4 sp) rfl (RowN.of_own (own_below HOS.out hbW)) (s4_one sp) (by unfold maxLen; omega) (by omega) hbW.size ?_
        intro v2 V3 hO2 hg2 _
        have hbW2 := below_app hbW hbW.size HE.out hg2 (Nat.le_refl _)
        rw [Nat.zero_add, List.nil_append] at hO2
        obtain ⟨A2, c2, rfl⟩ := own_shape hO2
        have HV2 := Lib.hid hO2
        have HN2 := Lib.hid (show Blk _ _ _ _ from (hg2.block _ HN.out.lt (by intro h; injection h with h; exact HNE.out h)).trans HN.out)
        clear HN
        have HN := Lib.hid HN2.out
        clear HN2 HNE
        clear hO2 hg2 HE HL1 hbW
        have hbW := hbW2
        clear hbW2
        have hS := Only.of_below [gb] hbW
        refine hK.out _ _ ?_ (fun hHeld2 => ?_)
        · clear hK; exact hS
        clear hK K hHeld hS
        have hHeld := hHeld2
        clear hHeld2
        try simp only [Act.put, List.setIfInBounds_toArray, List.set_cons_zero, List.set_cons_succ]
        refine wpAnyH_ready (rs := [12]) (by kernel_rfl) (by simp) ?_
        refine AllReadyH.cons rfl (fun K hK => ?_) AllReadyH.nil
        rw [if_pos (by rfl)]
        refine wp_appN elS (.tmp 52) (.tmp 57) rfl W.heap.size _ sp.length (s4 sp) rfl HV2.out _ 1 (s4 [((i : Int), kk, x.1, x.2)]) rfl (RowN.of_blk HN.out rfl rfl (Nat.le_refl _) (by decide)) (s4_one _) (by unfold maxLen; omega) (by omega) hbW.size ?_
        intro v3 V4 hO3 hg3 _
        have hbW2 := below_app hbW hbW.size HV2.out hg3 (Nat.le_refl _)
        rw [← s4_app] at hO3
        obtain ⟨A3, c3_, rfl⟩ := own_shape hO3
        have HV3 := Lib.hid hO3
        clear hO3 hg3 HV2 HN hbW
        have hbW := hbW2
        clear hbW2
        have hG3 := HG.out.below hbW
        have cG := hG3.cells
        have fG := hG3.froz
        have hS := Only.of_below [gb] hbW
        refine hK.out _ _ ?_ (fun hHeld2 => ?_)
        · clear hK; exact hS
        clear hK K hHeld hS
        have hHeld := hHeld2
        clear hHeld2
        try simp only [Act.put, List.setIfInBounds_toArray, List.set_cons_zero, List.set_cons_succ]
        refine takeD 13 (some 59) (v := ?_) rfl rfl (by kernel_rfl) (by kernel_rfl) (by kernel_rfl) (fun _ _ _ h => h) (by rfl) ?_ (by assumption) ?_
        rotate_left
        · intro w hSw
          (try dsimp only at hSw)
          go_simp
          try with_reducible rfl
        try simp only [Act.put, List.setIfInBounds_toArray, List.set_cons_zero, List.set_cons_succ]
        refine takeD 14 (some 60) (v := ?_) rfl rfl (by kernel_rfl) (by kernel_rfl) (by kernel_rfl) (fun _ _ _ h => h) (by rfl) ?_ (by assumption) ?_
        rotate_left
        · intro w hSw
          (try dsimp only at hSw)
          go_simp
          try with_reducible rfl
        try simp only [Act.put, List.setIfInBounds_toArray, List.set_cons_zero, List.set_cons_succ]
        refine wpAnyH_ready (rs := [15]) (by kernel_rfl) (by simp) ?_
        refine AllReadyH.cons rfl (fun K hK => ?_) AllReadyH.nil
        rw [if_pos (by rfl)]
        go_simp
        have hS := (Only.of_below [gb] hbW).setCell (p := ⟨gb, 3, none⟩) (by simp) (.slice A3 (sp.length + 1) c3_)
        refine hK.out _ _ ?_ (fun hHeld2 => ?_)
        · clear hK; exact hS
        clear hK K hHeld hS
        have hHeld := hHeld2
        clear hHeld2
        try simp only [Act.put, List.setIfInBounds_toArray, List.set_cons_zero, List.set_cons_succ]
        refine wpAnyH_done (by kernel_rfl) ?_ _
        have hG4 := hG3.set 3 (.slice A3 (sp.length + 1) c3_)
        have hO4 := own_typed HV3.out hG3 (by decide) ((Only.refl [gb] _).setCell (p := ⟨gb, 3, none⟩) (by simp) (.slice A3 (sp.length + 1) c3_))
        go_wp2
        go_ret
        refine ⟨by first | rfl | simp, ⟨⟨A3, c3_, ?_, ?_⟩, HLO.out⟩, HOW.out.trans hHeld⟩
        · rw [List.length_append]; exact hG4
        · rw [List.length_append]; exact own_lower hO4 (by omega)
    · rw [if_pos (by rfl)]
      have cG := (HG.out.below hbW).cells
      go_simp
      clear cG
      have hS := hHeld
      refine hK.out _ _ ?_ (fun hHeld2 => ?_)
      · clear hK; exact hS
      clear hK K hHeld hS
      have hHeld := hHeld2
      clear hHeld2
      try simp only [Act.put, List.setIfInBounds_toArray, List.set_cons_zero, List.set_cons_succ]
      refine wpAnyH_ready (rs := [1, 11]) (by kernel_rfl) (by simp) ?_
      refine AllReadyH.cons rfl (fun K hK => ?_) (AllReadyH.cons rfl (fun K hK => ?_) AllReadyH.nil)
      · rw [if_pos (by rfl)]
        go_simp
        refine nameW (fun V1 => Below W.heap.size W V1 ∧ World.ownsRow V1 W.heap.size 69 4 (.slice (some ⟨W.heap.size, 0, none⟩) 0 0) 0 [] ∧ W.heap.size < V1.heap.size) ⟨(hbW.alloc hbW.size _).drew, World.ownsRow.drew (own_emptyN _ _ _ _ _ hbW.size rfl), by simp⟩ fun V1 ⟨hbW2, qHE, qHL1⟩ => ?_
        have hbW := hbW2
        clear hbW2
        have HE := Lib.hid qHE
        clear qHE
        have HL1 := Lib.hid qHL1
        clear qHL1
        have hS := Only.of_below [gb] hbW
        refine hK.out _ _ ?_ (fun hHeld2 => ?_)
        · clear hK; exact hS
        clear hK K hHeld hS
        have hHeld := hHeld2
        clear hHeld2
        try simp only [Act.put, List.setIfInBounds_toArray, List.set_cons_zero, List.set_cons_succ]
        refine wpAnyH_ready (rs := [6, 11]) (by kernel_rfl) (by simp) ?_
        refine AllReadyH.cons rfl (fun K hK => ?_) (AllReadyH.cons rfl (fun K hK => ?_) AllReadyH.nil)
        · rw [if_pos (by rfl)]
          refine wp_appN elS (.tmp 47) (.tmp 51) rfl W.heap.size _ 0 [] rfl HE.out _ sp.length (s4 sp) rfl (RowN.of_own (own_below HOS.out hbW)) (s4_one sp) (by unfold maxLen; omega) (by omega) hbW.size ?_
          intro v2 V2 hO2 hg2 _
          have hbW2 := below_app hbW hbW.size HE.out hg2 (Nat.le_refl _)
          rw [Nat.zero_add, List.nil_append] at hO2
          obtain ⟨A2, c2, rfl⟩ := own_shape hO2
          have HV2 := Lib.hid hO2
          clear hO2 hg2 HE HL1 hbW
          have hbW := hbW2
          clear hbW2
          have hS := Only.of_below [gb] hbW
          refine hK.out _ _ ?_ (fun hHeld2 => ?_)
          · clear hK; exact hS
          clear hK K hHeld hS
          have hHeld := hHeld2
          clear hHeld2
          try simp only [Act.put, List.setIfInBounds_toArray, List.set_cons_zero, List.set_cons_succ]
          refine wpAnyH_ready (rs := [11]) (by kernel_rfl) (by simp) ?_
          refine AllReadyH.cons rfl (fun K hK => ?_) AllReadyH.nil
          rw [if_pos (by rfl)]
          go_simp
          refine nameW (fun V3 => Below W.heap.size W V3 ∧ World.ownsRow V3 W.heap.size 69 4 (.slice A2 sp.length c2) sp.length (s4 sp) ∧ Blk V3 V2.heap.size 69 #[.int .i64 i, .int .i64 kk, .int .i64 x.1, .int .i64 x.2]) ⟨hbW.alloc hbW.size _, (own_below HV2.out ((Below.refl _ _).alloc (Nat.le_refl _) _)), Blk.new _ _ _ _ rfl⟩ fun V3 ⟨hbW2, qHV2, qHN⟩ => ?_
          clear HV2
          have hbW := hbW2
          clear hbW2
          have HV2 := Lib.hid qHV2
          clear qHV2
          have HN := Lib.hid qHN
          clear qHN
          have hS := Only.of_below [gb] hbW
          refine hK.out _ _ ?_ (fun hHeld2 => ?_)
          · clear hK; exact hS
          clear hK K hHeld hS
          have hHeld := hHeld2
          clear hHeld2
          try simp only [Act.put, List.setIfInBounds_toArray, List.set_cons_zero, List.set_cons_succ]
          refine wpAnyH_ready (rs := [12]) (by kernel_rfl) (by simp) ?_
          refine AllReadyH.cons rfl (fun K hK => ?_) AllReadyH.nil
          rw [if_pos (by rfl)]
          refine wp_appN elS (.tmp 52) (.tmp 57) rfl W.heap.size _ sp.length (s4 sp) rfl HV2.out _ 1 (s4 [((i : Int), kk, x.1, x.2)]) rfl (RowN.of_blk HN.out rfl rfl (Nat.le_refl _) (by decide)) (s4_one _) (by unfold maxLen; omega) (by omega) hbW.size ?_
          intro v3 V4 hO3 hg3 _
          have hbW2 := below_app hbW hbW.size HV2.out hg3 (Nat.le_refl _)
          rw [← s4_app] at hO3
          obtain ⟨A3, c3_, rfl⟩ := own_shape hO3
          have HV3 := Lib.hid hO3
          clear hO3 hg3 HV2 HN hbW
          have hbW := hbW2
          clear hbW2
          have hG3 := HG.out.below hbW
          have cG := hG3.cells
          have fG := hG3.froz
          have hS := Only.of_below [gb] hbW
          refine hK.out _ _ ?_ (fun hHeld2 => ?_)
          · clear hK; exact hS
          clear hK K hHeld hS
          have hHeld := hHeld2
          clear hHeld2
          try simp only [Act.put, List.setIfInBounds_toArray, List.set_cons_zero, List.set_cons_succ]
          refine takeD 13 (some 59) (v := ?_) rfl rfl (by kernel_rfl) (by kernel_rfl) (by kernel_rfl) (fun _ _ _ h => h) (by rfl) ?_ (by assumption) ?_
          rotate_left
          · intro w hSw
            (try dsimp only at hSw)
            go_simp
            try with_reducible rfl
          try simp only [Act.put, List.setIfInBounds_toArray, List.set_cons_zero, List.set_cons_succ]
          refine takeD 14 (some 60) (v := ?_) rfl rfl (by kernel_rfl) (by kernel_rfl) (by kernel_rfl) (fun _ _ _ h => h) (by rfl) ?_ (by assumption) ?_
          rotate_left
          · intro w hSw
            (try dsimp only at hSw)
            go_simp
            try with_reducible rfl
          try simp only [Act.put, List.setIfInBounds_toArray, List.set_cons_zero, List.set_cons_succ]
          refine wpAnyH_ready (rs := [15]) (by kernel_rfl) (by simp) ?_
          refine AllReadyH.cons rfl (fun K hK => ?_) AllReadyH.nil
          rw [if_pos (by rfl)]
          go_simp
          have hS := (Only.of_below [gb] hbW).setCell (p := ⟨gb, 3, none⟩) (by simp) (.slice A3 (sp.length + 1) c3_)
          refine hK.out _ _ ?_ (fun hHeld2 => ?_)
          · clear hK; exact hS
          clear hK K hHeld hS
          have hHeld := hHeld2
          clear hHeld2
          try simp only [Act.put, List.setIfInBounds_toArray, List.set_cons_zero, List.set_cons_succ]
          refine wpAnyH_done (by kernel_rfl) ?_ _
          have hG4 := hG3.set 3 (.slice A3 (sp.length + 1) c3_)
          have hO4 := own_typed HV3.out hG3 (by decide) ((Only.refl [gb] _).setCell (p := ⟨gb, 3, none⟩) (by simp) (.slice A3 (sp.length + 1) c3_))
          go_wp2
          go_ret
          refine ⟨by first | rfl | simp, ⟨⟨A3, c3_, ?_, ?_⟩, HLO.out⟩, HOW.out.trans hHeld⟩
          · rw [List.length_append]; exact hG4
          · rw [List.length_append]; exact own_lower hO4 (by omega)
        · rw [if_pos (by rfl)]
          go_simp
          refine nameW (fun V2 => Below W.heap.size W V2 ∧ World.ownsRow V2 W.heap.size 69 4 (.slice (some ⟨W.heap.size, 0, none⟩) 0 0) 0 [] ∧ W.heap.size < V2.heap.size ∧ Blk V2 V1.heap.size 69 #[.int .i64 i, .int .i64 kk, .int .i64 x.1, .int .i64 x.2]) ⟨hbW.alloc hbW.size _, (own_below HE.out ((Below.refl _ _).alloc (Nat.le_refl _) _)), (Nat.lt_of_lt_of_le HL1.out (by simp)), Blk.new _ _ _ _ rfl⟩ fun V2 ⟨hbW2, qHE, qHL1, qHN⟩ => ?_
          have HNE := Lib.hid (show V1.heap.size ≠ W.heap.size by have := HL1.out; omega)
          clear HE HL1
          have hbW := hbW2
          clear hbW2
          have HE := Lib.hid qHE
          clear qHE
          have HL1 := Lib.hid qHL1
          clear qHL1
          have HN := Lib.hid qHN
          clear qHN
          have hS := Only.of_below [gb] hbW
          refine hK.out _ _ ?_ (fun hHeld2 => ?_)
          · clear hK; exact hS
          clear hK K hHeld hS
          have hHeld := hHeld2
          clear hHeld2
          try simp only [Act.put, List.setIfInBounds_toArray, List.set_cons_zero, List.set_cons_succ]
          refine wpAnyH_ready (rs := [6]) (by kernel_rfl) (by simp) ?_
          refine AllReadyH.cons rfl (fun K hK => ?_) AllReadyH.nil
          rw [if_pos (by rfl)]
          refine wp_appN elS (.tmp 47) (.tmp 51) rfl W.heap.size _ 0 [] rfl HE.out _ sp.length (s4 sp) rfl (RowN.of_own (own_below HOS.out hbW)) (s4_one sp) (by unfold maxLen; omega) (by omega) hbW.size ?_
          intro v2 V3 hO2 hg2 _
          have hbW2 := below_app hbW hbW.size HE.out hg2 (Nat.le_refl _)
          rw [Nat.zero_add, List.nil_append] at hO2
          obtain ⟨A2, c2, rfl⟩ := own_shape hO2
          have HV2 := Lib.hid hO2
          have HN2 := Lib.hid (show Blk _ _ _ _ from (hg2.block _ HN.out.lt (by intro h; injection h with h; exact HNE.out h)).trans HN.out)
          clear HN
          have HN := Lib.hid HN2.out
          clear HN2 HNE
          clear hO2 hg2 HE HL1 hbW
          have hbW := hbW2
          clear hbW2
          have hS := Only.of_below [gb] hbW
          refine hK.out _ _ ?_ (fun hHeld2 => ?_)
          · clear hK; exact hS
          clear hK K hHeld hS
          have hHeld := hHeld2
          clear hHeld2
          try simp only [Act.put, List.setIfInBounds_toArray, List.set_cons_zero, List.set_cons_succ]
          refine wpAnyH_ready (rs := [12]) (by kernel_rfl) (by simp) ?_
          refine AllReadyH.cons rfl (fun K hK => ?_) AllReadyH.nil
          rw [if_pos (by rfl)]
          refine wp_appN elS (.tmp 52) (.tmp 57) rfl W.heap.size _ sp.length (s4 sp) rfl HV2.out _ 1 (s4 [((i : Int), kk, x.1, x.2)]) rfl (RowN.of_blk HN.out rfl rfl (Nat.le_refl _) (by decide)) (s4_one _) (by unfold maxLen; omega) (by omega) hbW.size ?_
          intro v3 V4 hO3 hg3 _
          have hbW2 := below_app hbW hbW.size HV2.out hg3 (Nat.le_refl _)
          rw [← s4_app] at hO3
          obtain ⟨A3, c3_, rfl⟩ := own_shape hO3
          have HV3 := Lib.hid hO3
          clear hO3 hg3 HV2 HN hbW
          have hbW := hbW2
          clear hbW2
          have hG3 := HG.out.below hbW
          have cG := hG3.cells
          have fG := hG3.froz
          have hS := Only.of_below [gb] hbW
          refine hK.out _ _ ?_ (fun hHeld2 => ?_)
          · clear hK; exact hS
          clear hK K hHeld hS
          have hHeld := hHeld2
          clear hHeld2
          try simp only [Act.put, List.setIfInBounds_toArray, List.set_cons_zero, List.set_cons_succ]
          refine takeD 13 (some 59) (v := ?_) rfl rfl (by kernel_rfl) (by kernel_rfl) (by kernel_rfl) (fun _ _ _ h => h) (by rfl) ?_ (by assumption) ?_
          rotate_left
          · intro w hSw
            (try dsimp only at hSw)
            go_simp
            try with_reducible rfl
          try simp only [Act.put, List.setIfInBounds_toArray, List.set_cons_zero, List.set_cons_succ]
          refine takeD 14 (some 60) (v := ?_) rfl rfl (by kernel_rfl) (by kernel_rfl) (by kernel_rfl) (fun _ _ _ h => h) (by rfl) ?_ (by assumption) ?_
          rotate_left
          · intro w hSw
            (try dsimp only at hSw)
            go_simp
            try with_reducible rfl
          try simp only [Act.put, List.setIfInBounds_toArray, List.set_cons_zero, List.set_cons_succ]
          refine wpAnyH_ready (rs := [15]) (by kernel_rfl) (by simp) ?_
          refine AllReadyH.cons rfl (fun K hK => ?_) AllReadyH.nil
          rw [if_pos (by rfl)]
          go_simp
          have hS := (Only.of_below [gb] hbW).setCell (p := ⟨gb, 3, none⟩) (by simp) (.slice A3 (sp.length + 1) c3_)
          refine hK.out _ _ ?_ (fun hHeld2 => ?_)
          · clear hK; exact hS
          clear hK K hHeld hS
          have hHeld := hHeld2
          clear hHeld2
          try simp only [Act.put, List.setIfInBounds_toArray, List.set_cons_zero, List.set_cons_succ]
          refine wpAnyH_done (by kernel_rfl) ?_ _
          have hG4 := hG3.set 3 (.slice A3 (sp.length + 1) c3_)
          have hO4 := own_typed HV3.out hG3 (by decide) ((Only.refl [gb] _).setCell (p := ⟨gb, 3, none⟩) (by simp) (.slice A3 (sp.length + 1) c3_))
          go_wp2
          go_ret
          refine ⟨by first | rfl | simp, ⟨⟨A3, c3_, ?_, ?_⟩, HLO.out⟩, HOW.out.trans hHeld⟩
          · rw [List.length_append]; exact hG4
          · rw [List.length_append]; exact own_lower hO4 (by omega)
      · rw [if_pos (by rfl)]
        go_simp
        refine nameW (fun V1 => Below W.heap.size W V1 ∧ Blk V1 W.heap.size 69 #[.int .i64 i, .int .i64 kk, .int .i64 x.1, .int .i64 x.2]) ⟨(hbW.alloc hbW.size _).drew, Blk.drw (Blk.new _ _ _ _ rfl)⟩ fun V1 ⟨hbW2, qHN⟩ => ?_
        have hbW := hbW2
        clear hbW2
        have HN := Lib.hid qHN
        clear qHN
        have hS := Only.of_below [gb] hbW
        refine hK.out _ _ ?_ (fun hHeld2 => ?_)
        · clear hK; exact hS
        clear hK K hHeld hS
        have hHeld := hHeld2
        clear hHeld2
        try simp only [Act.put, List.setIfInBounds_toArray, List.set_cons_zero, List.set_cons_succ]
        refine wpAnyH_ready (rs := [1]) (by kernel_rfl) (by simp) ?_
        refine AllReadyH.cons rfl (fun K hK => ?_) AllReadyH.nil
        rw [if_pos (by rfl)]
        go_simp
        refine nameW (fun V2 => Below W.heap.size W V2 ∧ World.ownsRow V2 W.heap.size 69 4 (.slice (some ⟨V1.heap.size, 0, none⟩) 0 0) 0 [] ∧ V1.heap.size < V2.heap.size ∧ Blk V2 W.heap.size 69 #[.int .i64 i, .int .i64 kk, .int .i64 x.1, .int .i64 x.2]) ⟨hbW.alloc hbW.size _, own_emptyN _ _ _ _ _ hbW.size rfl, by simp, (HN.out.al _)⟩ fun V2 ⟨hbW2, qHE, qHL1, qHN⟩ => ?_
        have HNE := Lib.hid (show W.heap.size ≠ V1.heap.size by have := HN.out.lt; omega)
        clear HN
        have hbW := hbW2
        clear hbW2
        have HE := Lib.hid qHE
        clear qHE
        have HL1 := Lib.hid qHL1
        clear qHL1
        have HN := Lib.hid qHN
        clear qHN
        have hS := Only.of_below [gb] hbW
        refine hK.out _ _ ?_ (fun hHeld2 => ?_)
        · clear hK; exact hS
        clear hK K hHeld hS
        have hHeld := hHeld2
        clear hHeld2
        try simp only [Act.put, List.setIfInBounds_toArray, List.set_cons_zero, List.set_cons_succ]
        refine wpAnyH_ready (rs := [6]) (by kernel_rfl) (by simp) ?_
        refine AllReadyH.cons rfl (fun K hK => ?_) AllReadyH.nil
        rw [if_pos (by rfl)]
        refine wp_appN elS (.tmp 47) (.tmp 51) rfl W.heap.size _ 0 [] rfl HE.out _ sp.length (s4 sp) rfl (RowN.of_own (own_below HOS.out hbW)) (s4_one sp) (by unfold maxLen; omega) (by omega) hbW.size ?_
        intro v2 V3 hO2 hg2 _
        have hbW2 := below_app hbW hbW.size HE.out hg2 (Nat.le_refl _)
        rw [Nat.zero_add, List.nil_append] at hO2
        obtain ⟨A2, c2, rfl⟩ := own_shape hO2
        have HV2 := Lib.hid hO2
        have HN2 := Lib.hid (show Blk _ _ _ _ from (hg2.block _ HN.out.lt (by intro h; injection h with h; exact HNE.out h)).trans HN.out)
        clear HN
        have HN := Lib.hid HN2.out
        clear HN2 HNE
        clear hO2 hg2 HE HL1 hbW
        have hbW := hbW2
        clear hbW2
        have hS := Only.of_below [gb] hbW
        refine hK.out _ _ ?_ (fun hHeld2 => ?_)
        · clear hK; exact hS
        clear hK K hHeld hS
        have hHeld := hHeld2
        clear hHeld2
        try simp only [Act.put, List.setIfInBounds_toArray, List.set_cons_zero, List.set_cons_succ]
        refine wpAnyH_ready (rs := [12]) (by kernel_rfl) (by simp) ?_
        refine AllReadyH.cons rfl (fun K hK => ?_) AllReadyH.nil
        rw [if_pos (by rfl)]
        refine wp_appN elS (.tmp 52) (.tmp 57) rfl W.heap.size _ sp.length (s4 sp) rfl HV2.out _ 1 (s4 [((i : Int), kk, x.1, x.2)]) rfl (RowN.of_blk HN.out rfl rfl (Nat.le_refl _) (by decide)) (s4_one _) (by unfold maxLen; omega) (by omega) hbW.size ?_
        intro v3 V4 hO3 hg3 _
        have hbW2 := below_app hbW hbW.size HV2.out hg3 (Nat.le_refl _)
        rw [← s4_app] at hO3
        obtain ⟨A3, c3_, rfl⟩ := own_shape hO3
        have HV3 := Lib.hid hO3
        clear hO3 hg3 HV2 HN hbW
        have hbW := hbW2
        clear hbW2
        have hG3 := HG.out.below hbW
        have cG := hG3.cells
        have fG := hG3.froz
        have hS := Only.of_below [gb] hbW
        refine hK.out _ _ ?_ (fun hHeld2 => ?_)
        · clear hK; exact hS
        clear hK K hHeld hS
        have hHeld := hHeld2
        clear hHeld2
        try simp only [Act.put, List.setIfInBounds_toArray, List.set_cons_zero, List.set_cons_succ]
        refine takeD 13 (some 59) (v := ?_) rfl rfl (by kernel_rfl) (by kernel_rfl) (by kernel_rfl) (fun _ _ _ h => h) (by rfl) ?_ (by assumption) ?_
        rotate_left
        · intro w hSw
          (try dsimp only at hSw)
          go_simp
          try with_reducible rfl
        try simp only [Act.put, List.setIfInBounds_toArray, List.set_cons_zero, List.set_cons_succ]
        refine takeD 14 (some 60) (v := ?_) rfl rfl (by kernel_rfl) (by kernel_rfl) (by kernel_rfl) (fun _ _ _ h => h) (by rfl) ?_ (by assumption) ?_
        rotate_left
        · intro w hSw
          (try dsimp only at hSw)
          go_simp
          try with_reducible rfl
        try simp only [Act.put, List.setIfInBounds_toArray, List.set_cons_zero, List.set_cons_succ]
        refine wpAnyH_ready (rs := [15]) (by kernel_rfl) (by simp) ?_
        refine AllReadyH.cons rfl (fun K hK => ?_) AllReadyH.nil
        rw [if_pos (by rfl)]
        go_simp
        have hS := (Only.of_below [gb] hbW).setCell (p := ⟨gb, 3, none⟩) (by simp) (.slice A3 (sp.length + 1) c3_)
        refine hK.out _ _ ?_ (fun hHeld2 => ?_)
        · clear hK; exact hS
        clear hK K hHeld hS
        have hHeld := hHeld2
        clear hHeld2
        try simp only [Act.put, List.setIfInBounds_toArray, List.set_cons_zero, List.set_cons_succ]
        refine wpAnyH_done (by kernel_rfl) ?_ _
        have hG4 := hG3.set 3 (.slice A3 (sp.length + 1) c3_)
        have hO4 := own_typed HV3.out hG3 (by decide) ((Only.refl [gb] _).setCell (p := ⟨gb, 3, none⟩) (by simp) (.slice A3 (sp.length + 1) c3_))
        go_wp2
        go_ret
        refine ⟨by first | rfl | simp, ⟨⟨A3, c3_, ?_, ?_⟩, HLO.out⟩, HOW.out.trans hHeld⟩
        · rw [List.length_append]; exact hG4
        · rw [List.length_append]; exact own_lower hO4 (by omega)
    · rw [if_pos (by rfl)]
      go_simp
      refine nameW (fun V1 => Below W.heap.size W V1 ∧ Blk V1 W.heap.size 69 #[.int .i64 i, .int .i64 kk, .int .i64 x.1, .int .i64 x.2]) ⟨(hbW.alloc hbW.size _).drew, Blk.drw (Blk.new _ _ _ _ rfl)⟩ fun V1 ⟨hbW2, qHN⟩ => ?_
      have hbW := hbW2
      clear hbW2
      have HN := Lib.hid qHN
      clear qHN
      have hS := Only.of_below [gb] hbW
      refine hK.out _ _ ?_ (fun hHeld2 => ?_)
      · clear hK; exact hS
      clear hK K hHeld hS
      have hHeld := hHeld2
      clear hHeld2
      try simp only [Act.put, List.setIfInBounds_toArray, List.set_cons_zero, List.set_cons_succ]
      refine wpAnyH_ready (rs := [1, 5]) (by kernel_rfl) (by simp) ?_
      refine AllReadyH.cons rfl (fun K hK => ?_) (AllReadyH.cons rfl (fun K hK => ?_) AllReadyH.nil)
      · rw [if_pos (by rfl)]
        go_simp
        refine nameW (fun V2 => Below W.heap.size W V2 ∧ World.ownsRow V2 W.heap.size 69 4 (.slice (some ⟨V1.heap.size, 0, none⟩) 0 0) 0 [] ∧ V1.heap.size < V2.heap.size ∧ Blk V2 W.heap.size 69 #[.int .i64 i, .int .i64 kk, .int .i64 x.1, .int .i64 x.2]) ⟨hbW.alloc hbW.size _, own_emptyN _ _ _ _ _ hbW.size rfl, by simp, (HN.out.al _)⟩ fun V2 ⟨hbW2, qHE, qHL1, qHN⟩ => ?_
        have HNE := Lib.hid (show W.heap.size ≠ V1.heap.size by have := HN.out.lt; omega)
        clear HN
        have hbW := hbW2
        clear hbW2
        have HE := Lib.hid qHE
        clear qHE
        have HL1 := Lib.hid qHL1
        clear qHL1
        have HN := Lib.hid qHN
        clear qHN
        have hS := Only.of_below [gb] hbW
        refine hK.out _ _ ?_ (fun hHeld2 => ?_)
        · clear hK; exact hS
        clear hK K hHeld hS
        have hHeld := hHeld2
        clear hHeld2
        try simp only [Act.put, List.setIfInBounds_toArray, List.set_cons_zero, List.set_cons_succ]
        refine wpAnyH_ready (rs := [5]) (by kernel_rfl) (by simp) ?_
        refine AllReadyH.cons rfl (fun K hK => ?_) AllReadyH.nil
        rw [if_pos (by rfl)]
        have cG := (HG.out.below hbW).cells
        go_simp
        clear cG
        have hS := hHeld
        refine hK.out _ _ ?_ (fun hHeld2 => ?_)
        · clear hK; exact hS
        clear hK K hHeld hS
        have hHeld := hHeld2
        clear hHeld2
        try simp only [Act.put, List.setIfInBounds_toArray, List.set_cons_zero, List.set_cons_succ]
        refine wpAnyH_ready (rs := [6]) (by kernel_rfl) (by simp) ?_
        refine AllReadyH.cons rfl (fun K hK => ?_) AllReadyH.nil
        rw [if_pos (by rfl)]
        refine wp_appN elS (.tmp 47) (.tmp 51) rfl W.heap.size _ 0 [] rfl HE.out _ sp.length (s4 sp) rfl (RowN.of_own (own_below HOS.out hbW)) (s4_one sp) (by unfold maxLen; omega) (by omega) hbW.size ?_
        intro v2 V3 hO2 hg2 _
        have hbW2 := below_app hbW hbW.size HE.out hg2 (Nat.le_refl _)
        rw [Nat.zero_add, List.nil_append] at hO2
        obtain ⟨A2, c2, rfl⟩ := own_shape hO2
        have HV2 := Lib.hid hO2
        have HN2 := Lib.hid (show Blk _ _ _ _ from (hg2.block _ HN.out.lt (by intro h; injection h with h; exact HNE.out h)).trans HN.out)
        clear HN
        have HN := Lib.hid HN2.out
        clear HN2 HNE
        clear hO2 hg2 HE HL1 hbW
        have hbW := hbW2
        clear hbW2
        have hS := Only.of_below [gb] hbW
        refine hK.out _ _ ?_ (fun hHeld2 => ?_)
        · clear hK; exact hS
        clear hK K hHeld hS
        have hHeld := hHeld2
        clear hHeld2
        try simp only [Act.put, List.setIfInBounds_toArray, List.set_cons_zero, List.set_cons_succ]
        refine wpAnyH_ready (rs := [12]) (by kernel_rfl) (by simp) ?_
        refine AllReadyH.cons rfl (fun K hK => ?_) AllReadyH.nil
        rw [if_pos (by rfl)]
        refine wp_appN elS (.tmp 52) (.tmp 57) rfl W.heap.size _ sp.length (s4 sp) rfl HV2.out _ 1 (s4 [((i : Int), kk, x.1, x.2)]) rfl (RowN.of_blk HN.out rfl rfl (Nat.le_refl _) (by decide)) (s4_one _) (by unfold maxLen; omega) (by omega) hbW.size ?_
        intro v3 V4 hO3 hg3 _
        have hbW2 := below_app hbW hbW.size HV2.out hg3 (Nat.le_refl _)
        rw [← s4_app] at hO3
        obtain ⟨A3, c3_, rfl⟩ := own_shape hO3
        have HV3 := Lib.hid hO3
        clear hO3 hg3 HV2 HN hbW
        have hbW := hbW2
        clear hbW2
        have hG3 := HG.out.below hbW
        have cG := hG3.cells
        have fG := hG3.froz
        have hS := Only.of_below [gb] hbW
        refine hK.out _ _ ?_ (fun hHeld2 => ?_)
        · clear hK; exact hS
        clear hK K hHeld hS
        have hHeld := hHeld2
        clear hHeld2
        try simp only [Act.put, List.setIfInBounds_toArray, List.set_cons_zero, List.set_cons_succ]
        refine takeD 13 (some 59) (v := ?_) rfl rfl (by kernel_rfl) (by kernel_rfl) (by kernel_rfl) (fun _ _ _ h => h) (by rfl) ?_ (by assumption) ?_
        rotate_left
        · intro w hSw
          (try dsimp only at hSw)
          go_simp
          try with_reducible rfl
        try simp only [Act.put, List.setIfInBounds_toArray, List.set_cons_zero, List.set_cons_succ]
        refine takeD 14 (some 60) (v := ?_) rfl rfl (by kernel_rfl) (by kernel_rfl) (by kernel_rfl) (fun _ _ _ h => h) (by rfl) ?_ (by assumption) ?_
        rotate_left
        · intro w hSw
          (try dsimp only at hSw)
          go_simp
          try with_reducible rfl
        try simp only [Act.put, List.setIfInBounds_toArray, List.set_cons_zero, List.set_cons_succ]
        refine wpAnyH_ready (rs := [15]) (by kernel_rfl) (by simp) ?_
        refine AllReadyH.cons rfl (fun K hK => ?_) AllReadyH.nil
        rw [if_pos (by rfl)]
        go_simp
        have hS := (Only.of_below [gb] hbW).setCell (p := ⟨gb, 3, none⟩) (by simp) (.slice A3 (sp.length + 1) c3_)
        refine hK.out _ _ ?_ (fun hHeld2 => ?_)
        · clear hK; exact hS
        clear hK K hHeld hS
        have hHeld := hHeld2
        clear hHeld2
        try simp only [Act.put, List.setIfInBounds_toArray, List.set_cons_zero, List.set_cons_succ]
        refine wpAnyH_done (by kernel_rfl) ?_ _
        have hG4 := hG3.set 3 (.slice A3 (sp.length + 1) c3_)
        have hO4 := own_typed HV3.out hG3 (by decide) ((Only.refl [gb] _).setCell (p := ⟨gb, 3, none⟩) (by simp) (.slice A3 (sp.length + 1) c3_))
        go_wp2
        go_ret
        refine ⟨by first | rfl | simp, ⟨⟨A3, c3_, ?_, ?_⟩, HLO.out⟩, HOW.out.trans hHeld⟩
        · rw [List.length_append]; exact hG4
        · rw [List.length_append]; exact own_lower hO4 (by omega)
      · rw [if_pos (by rfl)]
        have cG := (HG.out.below hbW).cells
        go_simp
        clear cG
        have hS := hHeld
        refine hK.out _ _ ?_ (fun hHeld2 => ?_)
        · clear hK; exact hS
        clear hK K hHeld hS
        have hHeld := hHeld2
        clear hHeld2
        try simp only [Act.put, List.setIfInBounds_toArray, List.set_cons_zero, List.set_cons_succ]
        refine wpAnyH_ready (rs := [1]) (by kernel_rfl) (by simp) ?_
        refine AllReadyH.cons rfl (fun K hK => ?_) AllReadyH.nil
        rw [if_pos (by rfl)]
        go_simp
        refine nameW (fun V2 => Below W.heap.size W V2 ∧ World.ownsRow V2 W.heap.size 69 4 (.slice (some ⟨V1.heap.size, 0, none⟩) 0 0) 0 [] ∧ V1.heap.size < V2.heap.size ∧ Blk V2 W.heap.size 69 #[.int .i64 i, .int .i64 kk, .int .i64 x.1, .int .i64 x.2]) ⟨hbW.alloc hbW.size _, own_emptyN _ _ _ _ _ hbW.size rfl, by simp, (HN.out.al _)⟩ fun V2 ⟨hbW2, qHE, qHL1, qHN⟩ => ?_
        have HNE := Lib.hid (show W.heap.size ≠ V1.heap.size by have := HN.out.lt; omega)
        clear HN
        have hbW := hbW2
        clear hbW2
        have HE := Lib.hid qHE
        clear qHE
        have HL1 := Lib.hid qHL1
        clear qHL1
        have HN := Lib.hid qHN
        clear qHN
        have hS := Only.of_below [gb] hbW
        refine hK.out _ _ ?_ (fun hHeld2 => ?_)
        · clear hK; exact hS
        clear hK K hHeld hS
        have hHeld := hHeld2
        clear hHeld2
        try simp only [Act.put, List.setIfInBounds_toArray, List.set_cons_zero, List.set_cons_succ]
        refine wpAnyH_ready (rs := [6]) (by kernel_rfl) (by simp) ?_
        refine AllReadyH.cons rfl (fun K hK => ?_) AllReadyH.nil
        rw [if_pos (by rfl)]
        refine wp_appN elS (.tmp 47) (.tmp 51) rfl W.heap.size _ 0 [] rfl HE.out _ sp.length (s4 sp) rfl (RowN.of_own (own_below HOS.out hbW)) (s4_one sp) (by unfold maxLen; omega) (by omega) hbW.size ?_
        intro v2 V3 hO2 hg2 _
        have hbW2 := below_app hbW hbW.size HE.out hg2 (Nat.le_refl _)
        rw [Nat.zero_add, List.nil_append] at hO2
        obtain ⟨A2, c2, rfl⟩ := own_shape hO2
        have HV2 := Lib.hid hO2
        have HN2 := Lib.hid (show Blk _ _ _ _ from (hg2.block _ HN.out.lt (by intro h; injection h with h; exact HNE.out h)).trans HN.out)
        clear HN
        have HN := Lib.hid HN2.out
        clear HN2 HNE
        clear hO2 hg2 HE HL1 hbW
        have hbW := hbW2
        clear hbW2
        have hS := Only.of_below [gb] hbW
        refine hK.out _ _ ?_ (fun hHeld2 => ?_)
        · clear hK; exact hS
        clear hK K hHeld hS
        have hHeld := hHeld2
        clear hHeld2
        try simp only [Act.put, List.setIfInBounds_toArray, List.set_cons_zero, List.set_cons_succ]
        refine wpAnyH_ready (rs := [12]) (by kernel_rfl) (by simp) ?_
        refine AllReadyH.cons rfl (fun K hK => ?_) AllReadyH.nil
        rw [if_pos (by rfl)]
        refine wp_appN elS (.tmp 52) (.tmp 57) rfl W.heap.size _ sp.length (s4 sp) rfl HV2.out _ 1 (s4 [((i : Int), kk, x.1, x.2)]) rfl (RowN.of_blk HN.out rfl rfl (Nat.le_refl _) (by decide)) (s4_one _) (by unfold maxLen; omega) (by omega) hbW.size ?_
        intro v3 V4 hO3 hg3 _
        have hbW2 := below_app hbW hbW.size HV2.out hg3 (Nat.le_refl _)
        rw [← s4_app] at hO3
        obtain ⟨A3, c3_, rfl⟩ := own_shape hO3
        have HV3 := Lib.hid hO3
        clear hO3 hg3 HV2 HN hbW
        have hbW := hbW2
        clear hbW2
        have hG3 := HG.out.below hbW
        have cG := hG3.cells
        have fG := hG3.froz
        have hS := Only.of_below [gb] hbW
        refine hK.out _ _ ?_ (fun hHeld2 => ?_)
        · clear hK; exact hS
        clear hK K hHeld hS
        have hHeld := hHeld2
        clear hHeld2
        try simp only [Act.put, List.setIfInBounds_toArray, List.set_cons_zero, List.set_cons_succ]
        refine takeD 13 (some 59) (v := ?_) rfl rfl (by kernel_rfl) (by kernel_rfl) (by kernel_rfl) (fun _ _ _ h => h) (by rfl) ?_ (by assumption) ?_
        rotate_left
        · intro w hSw
          (try dsimp only at hSw)
          go_simp
          try with_reducible rfl
        try simp only [Act.put, List.setIfInBounds_toArray, List.set_cons_zero, List.set_cons_succ]
        refine takeD 14 (some 60) (v := ?_) rfl rfl (by kernel_rfl) (by kernel_rfl) (by kernel_rfl) (fun _ _ _ h => h) (by rfl) ?_ (by assumption) ?_
        rotate_left
        · intro w hSw
          (try dsimp only at hSw)
          go_simp
          try with_reducible rfl
        try simp only [Act.put, List.setIfInBounds_toArray, List.set_cons_zero, List.set_cons_succ]
        refine wpAnyH_ready (rs := [15]) (by kernel_rfl) (by simp) ?_
        refine AllReadyH.cons rfl (fun K hK => ?_) AllReadyH.nil
        rw [if_pos (by rfl)]
        go_simp
        have hS := (Only.of_below [gb] hbW).setCell (p := ⟨gb, 3, none⟩) (by simp) (.slice A3 (sp.length + 1) c3_)
        refine hK.out _ _ ?_ (fun hHeld2 => ?_)
        · clear hK; exact hS
        clear hK K hHeld hS
        have hHeld := hHeld2
        clear hHeld2
        try simp only [Act.put, List.setIfInBounds_toArray, List.set_cons_zero, List.set_cons_succ]
        refine wpAnyH_done (by kernel_rfl) ?_ _
        have hG4 := hG3.set 3 (.slice A3 (sp.length + 1) c3_)
        have hO4 := own_typed HV3.out hG3 (by decide) ((Only.refl [gb] _).setCell (p := ⟨gb, 3, none⟩) (by simp) (.slice A3 (sp.length + 1) c3_))
        go_wp2
        go_ret
        refine ⟨by first | rfl | simp, ⟨⟨A3, c3_, ?_, ?_⟩, HLO.out⟩, HOW.out.trans hHeld⟩
        · rw [List.length_append]; exact hG4
        · rw [List.length_append]; exact own_lower hO4 (by omega)

end Go.Proofs.Ytoiaagdpckgpoaa
