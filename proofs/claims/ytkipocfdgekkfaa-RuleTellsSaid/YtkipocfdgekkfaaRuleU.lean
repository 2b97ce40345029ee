/- Layer 18: tools; two rules joined. -/
import Derived.Test.YtkipocfdgekkfaaRuleI
import Derived.Test.YtkipocfdgekkfaaReg
import Derived.StillTailTactics
namespace Go.Proofs.Ytkipocfdgekkfaa
open Go.ChangeShapes Go.WideShapes Go.ChangeAt Go.RowKit
set_option linter.unusedVariables false
set_option linter.unusedSimpArgs false

/-- Nothing but the blocks of s has turned. -/
structure Only (s : List Nat) (w w' : World) : Prop where
  os : w'.os = w.os
  tape : w'.tape = w.tape
  output : w'.output = w.output
  size : w.heap.size ≤ w'.heap.size
  block : ∀ b, b < w.heap.size → b ∉ s → w'.heap[b]? = w.heap[b]?
theorem Only.refl (s : List Nat) (w : World) : Only s w w := ⟨rfl, rfl, rfl, Nat.le_refl _, fun _ _ _ => rfl⟩
theorem Only.trans {s : List Nat} {a b c : World} (h : Only s a b) (k : Only s b c) : Only s a c :=
  ⟨k.os.trans h.os, k.tape.trans h.tape, k.output.trans h.output, Nat.le_trans h.size k.size, fun i hi hg => (k.block i (Nat.lt_of_lt_of_le hi h.size) hg).trans (h.block i hi hg)⟩
theorem Only.of_below (s : List Nat) {a b : World} (h : Below a.heap.size a b) : Only s a b := ⟨h.os, h.tape, h.output, h.size, fun i hi _ => h.block i hi⟩
theorem Only.drew {s : List Nat} {a b : World} (h : Only s a b) (n : Nat) : Only s a (b.drewN n) := ⟨h.os, h.tape, h.output, h.size, h.block⟩
theorem Only.below {s : List Nat} {B : Nat} {a b c : World} (h : Below B a b) (hB : B ≤ b.heap.size) (k : Only s b c) (hs : ∀ x ∈ s, B ≤ x) : Below B a c :=
  h.trans ⟨k.os, k.tape, k.output, k.size, fun i hi => k.block i (by omega) (fun hm => by have := hs i hm; omega)⟩
theorem Only.setCell {s : List Nat} {a b : World} (h : Only s a b) {p : Addr} (hp : p.block ∈ s) (u : Value) : Only s a (b.setCell p u) :=
  h.trans ⟨rfl, rfl, rfl, by simp [World.setCell], fun i hi hn => Below.heap_setCell _ _ _ _ (fun e => hn (e ▸ hp))⟩
theorem Blk.only {w w' : World} {s : List Nat} {b : Nat} {t : TypeId} {cs : Array Value} (h : Blk w b t cs) (k : Only s w w') (hne : b ∉ s) : Blk w' b t cs := (k.block b h.lt hne).trans h

theorem nmW {K : Act → World → Prop} {a : Act} {W0 : World} (R : World → Prop) (h0 : R W0) (h : ∀ W, R W → K a W) : K a W0 := h _ h0
theorem own_emptyN (w : World) (base n k : Nat) (e : TypeId) (hb : base ≤ w.heap.size) (hn : n = w.heap.size) : (w.alloc (.cells #[] e)).ownsRow base e k (.slice (some ⟨n, 0, none⟩) 0 0) 0 [] := by
  subst hn
  exact ⟨by simp, .inr ⟨w.heap.size, 0, #[], rfl, hb, heap_alloc_new _ _, Nat.le_refl _, Nat.zero_le _, by simp, by simp⟩⟩
theorem own_lt {w : World} {base : Nat} {e : TypeId} {k n : Nat} {v : Value} {xs : List Value} (h : w.ownsRow base e k v n xs) {g : Nat} (hg : v.ownBlock = some g) : g < w.heap.size := by
  obtain ⟨_, h2⟩ := h
  rcases h2 with ⟨rfl, _⟩ | ⟨g1, cap, cur, rfl, _, hgg, _⟩
  · simp [Value.ownBlock] at hg
  · simp [Value.ownBlock] at hg
    subst hg
    exact (Array.getElem?_eq_some_iff.1 hgg).1
theorem elT : Elem Try.prog 22 43 3 24 := Elem.mk' (z := .agg #[.int .i64 0, .int .i64 0, .int .i64 0]) (by kernel_rfl) (by kernel_rfl) rfl (by decide)
theorem c3_app (l m : List Cl) : c3c (l ++ m) = c3c l ++ c3c m := by simp [c3c]
theorem c3_one (l : List Cl) : ∀ u ∈ c3c l, u.oneCell' = true := by
  intro u hu
  obtain ⟨a, _, h⟩ := List.mem_flatMap.1 hu
  simp only [List.mem_cons, List.not_mem_nil, or_false] at h
  rcases h with rfl | rfl | rfl <;> rfl
theorem c3_take (l : List Cl) (m : Nat) (h : m ≤ l.length) : c3c (l.take m) = (c3c l).take (m * 3) := by
  have e := c3_app (l.take m) (l.drop m)
  rw [List.take_append_drop] at e
  rw [e, List.take_left']
  rw [c3c_len, List.length_take, Nat.min_eq_left h]
theorem RowN.pre {k : Nat} {w : World} {A : Option Addr} {c n m : Nat} {xs : List Value} (h : RowN k w (.slice A n c) n xs) (hm : m ≤ n) : RowN k w (.slice A m c) m (xs.take (m * k)) := by
  obtain ⟨h0, A', c', e, hc, hmx, hA⟩ := h
  injection e with e1 _ e2
  subst e1 e2
  refine ⟨by rw [List.length_take, h0]; exact Nat.min_eq_left (Nat.mul_le_mul_right k hm), A, c, rfl, by omega, hmx, ?_⟩
  rcases hA with ⟨rfl, h⟩ | ⟨ad, rfl, hb, hcell⟩
  · exact .inl ⟨rfl, by omega⟩
  · refine .inr ⟨ad, rfl, fun hp => hb ?_, fun i u hu => hcell i u ?_⟩
    · rw [List.length_take] at hp; omega
    · rw [List.getElem?_take] at hu
      split at hu
      · exact hu
      · cases hu
theorem RowN.caps {k : Nat} {w : World} {A : Option Addr} {c n : Nat} {xs : List Value} (h : RowN k w (.slice A n c) n xs) : n ≤ c ∧ c ≤ maxLen := by
  obtain ⟨_, A', c', e, hc, hm, _⟩ := h
  injection e with _ _ e2
  subst e2
  exact ⟨hc, hm⟩
theorem ne_some {w : World} {base n k g : Nat} {e : TypeId} {v : Value} {xs : List Value} (h : w.ownsRow base e k v n xs) (hg : g = w.heap.size) : some g ≠ v.ownBlock := fun he => by have := own_lt h he.symm; omega
set_option maxRecDepth 100000 in
set_option maxHeartbeats 8000000 in
theorem joined_any (va vb : Value) (ha hb op : Int) (lata latb : Bool) (la lb : List T) (w : World) (h0 : IsRule w va ha lata la) (h1 : IsRule w vb hb latb lb) (hla : la.length ≤ 1000) (hlb : lb.length ≤ 1000) :
    Calls Try.prog 18 #[va, vb, .int .i64 op] w fun e w' => (∃ A c, e = .returned (.agg #[.slice A (la.length + lb.length + 1) c, .int .i64 ha, .bool false]) ∧ RowN 3 w' (.slice A (la.length + lb.length + 1) c) (la.length + lb.length + 1) (c3c (la ++ lb ++ [(op, 0, 0)]))) ∧ Below w.heap.size w w' := by
  obtain ⟨AA, ca, rfl, hra⟩ := h0.ex
  obtain ⟨AB, cb, rfl, hrb⟩ := h1.ex
  have HRA0 := Lib.hid hra
  have HRB0 := Lib.hid hrb
  clear h0 h1 hra hrb
  go_enter Try.func18, Try.ntmps18
  go_wp2_with fail
  refine wp_world (fun W => Below w.heap.size w W ∧ Blk W w.heap.size 24 #[.slice AA la.length ca, .int .i64 ha, .bool lata] ∧ Blk W (w.heap.size + 1) 24 #[.slice AB lb.length cb, .int .i64 hb, .bool latb] ∧ Blk W (w.heap.size + 1 + 1) 24 #[.slice none 0 0, .int .i64 0, .bool false]) ⟨by go_grown, ((Blk.new _ _ _ _ rfl).al _).al _, (Blk.new _ _ _ _ (by simp)).al _, Blk.new _ _ _ _ (by simp)⟩ fun W0 ⟨hb0, hA0, hB0, hR0⟩ => ?_
  have HRA := Lib.hid (HRA0.out.below hb0)
  have HRB := Lib.hid (HRB0.out.below hb0)
  have HA := Lib.hid hA0
  have HB := Lib.hid hB0
  have H0 := Lib.hid hb0
  obtain ⟨rb, hrbe⟩ : ∃ x, x = w.heap.size + 1 + 1 := ⟨_, rfl⟩
  rw [← hrbe] at hR0
  rw [← hrbe]
  have HR := Lib.hid hR0
  have HRE := Lib.hid hrbe
  have dA : ∀ w', Only [rb] W0 w' → ∀ i, w'.cell? ⟨w.heap.size, i, none⟩ = (#[.slice AA la.length ca, .int .i64 ha, .bool lata] : Array Value)[i]? := fun w' h => (HA.out.only h (by simp; have := HRE.out; omega)).cells
  have dB : ∀ w', Only [rb] W0 w' → ∀ i, w'.cell? ⟨w.heap.size + 1, i, none⟩ = (#[.slice AB lb.length cb, .int .i64 hb, .bool latb] : Array Value)[i]? := fun w' h => (HB.out.only h (by simp; have := HRE.out; omega)).cells
  have hbW := Below.refl W0.heap.size W0
  clear hA0 hB0 hR0 hb0 HRA0 HRB0 hrbe
  refine wp_region_held_drew (S := fun w' => Only [rb] W0 w') (by kernel_rfl) ((Only.refl _ _).drew 1) (fun hHeld => ?_)
  refine takeD 0 (some 7) (v := ?_) rfl rfl (by kernel_rfl) (by kernel_rfl) (by kernel_rfl) (fun _ _ _ h => h) (by rfl) ?_ (by assumption) ?_
  rotate_left
  · intro w hSw
    (try dsimp only at hSw)
    go_simp
    try with_reducible rfl
  try simp only [Act.put, List.setIfInBounds_toArray, List.set_cons_zero, List.set_cons_succ]
  refine takeD 1 (some 8) (v := ?_) rfl rfl (by kernel_rfl) (by kernel_rfl) (by kernel_rfl) (fun _ _ _ h => h) (by rfl) ?_ (by assumption) ?_
  rotate_left
  · intro w hSw
    (try dsimp only at hSw)
    go_simp
    try with_reducible rfl
  try simp only [Act.put, List.setIfInBounds_toArray, List.set_cons_zero, List.set_cons_succ]
  refine takeD 3 (some 10) (v := ?_) rfl rfl (by kernel_rfl) (by kernel_rfl) (by kernel_rfl) (fun _ _ _ h => h) (by rfl) ?_ (by assumption) ?_
  rotate_left
  · intro w hSw
    (try dsimp only at hSw)
    go_simp
    try with_reducible rfl
  try simp only [Act.put, List.setIfInBounds_toArray, List.set_cons_zero, List.set_cons_succ]
  refine takeD 4 (some 11) (v := ?_) rfl rfl (by kernel_rfl) (by kernel_rfl) (by kernel_rfl) (fun _ _ _ h => h) (by rfl) ?_ (by assumption) ?_
  rotate_left
  · intro w hSw
    (try dsimp only at hSw)
    go_simp
    try with_reducible rfl
  try simp only [Act.put, List.setIfInBounds_toArray, List.set_cons_zero, List.set_cons_succ]
  refine takeD 6 (some 13) (v := ?_) rfl rfl (by kernel_rfl) (by kernel_rfl) (by kernel_rfl) (fun _ _ _ h => h) (by rfl) ?_ (by assumption) ?_
  rotate_left
  · intro w hSw
    (try dsimp only at hSw)
    go_simp
    try with_reducible rfl
  try simp only [Act.put, List.setIfInBounds_toArray, List.set_cons_zero, List.set_cons_succ]
  refine takeD 7 (some 14) (v := ?_) rfl rfl (by kernel_rfl) (by kernel_rfl) (by kernel_rfl) (fun _ _ _ h => h) (by rfl) ?_ (by assumption) ?_
  rotate_left
  · intro w hSw
    (try dsimp only at hSw)
    go_simp
    try with_reducible rfl
  try simp only [Act.put, List.setIfInBounds_toArray, List.set_cons_zero, List.set_cons_succ]
  refine takeD 9 (some 16) (v := ?_) rfl rfl (by kernel_rfl) (by kernel_rfl) (by kernel_rfl) (fun _ _ _ h => h) (by rfl) ?_ (by assumption) ?_
  rotate_left
  · intro w hSw
    (try dsimp only at hSw)
    go_simp
    try with_reducible rfl
  try simp only [Act.put, List.setIfInBounds_toArray, List.set_cons_zero, List.set_cons_succ]
  refine takeD 10 (some 17) (v := ?_) rfl rfl (by kernel_rfl) (by kernel_rfl) (by kernel_rfl) (fun _ _ _ h => h) (by rfl) ?_ (by assumption) ?_
  rotate_left
  · intro w hSw
    (try dsimp only at hSw)
    go_simp
    try with_reducible rfl
  try simp only [Act.put, List.setIfInBounds_toArray, List.set_cons_zero, List.set_cons_succ]
  refine wpAnyH_ready (rs := [2, 11]) (by kernel_rfl) (by simp) ?_
  refine AllReadyH.cons rfl (fun K hK => ?_) (AllReadyH.cons rfl (fun K hK => ?_) AllReadyH.nil)
  · rw [if_pos (by rfl)]
    go_simp
    refine nmW (fun V1 => Below W0.heap.size W0 V1 ∧ World.ownsRow V1 W0.heap.size 43 3 (.slice (some ⟨W0.heap.size, 0, none⟩) 0 0) 0 []) ⟨(hbW.alloc hbW.size _).drew, (World.ownsRow.drew (own_emptyN _ _ _ _ _ hbW.size rfl))⟩ fun V1 ⟨hbW2, qHC⟩ => ?_
    have hbW := hbW2
    clear hbW2
    have HC := Lib.hid qHC
    clear qHC
    have hS := Only.of_below [rb] hbW
    refine hK.out _ _ ?_ (fun hHeld2 => ?_)
    · clear hK; exact hS
    clear hK K hHeld hS
    have hHeld := hHeld2
    clear hHeld2
    try simp only [Act.put, List.setIfInBounds_toArray, List.set_cons_zero, List.set_cons_succ]
    refine wpAnyH_ready (rs := [5, 11]) (by kernel_rfl) (by simp) ?_
    refine AllReadyH.cons rfl (fun K hK => ?_) (AllReadyH.cons rfl (fun K hK => ?_) AllReadyH.nil)
    · rw [if_pos (by rfl)]
      refine wp_appN elT (.tmp 9) (.tmp 11) rfl W0.heap.size _ 0 [] rfl HC.out _ la.length (c3c la) rfl (HRA.out.below hbW) (c3_one la) (by unfold maxLen; omega) (by omega) hbW.size ?_
      intro v2 V2 hO hg hor
      have hbW2 := below_app hbW hbW.size HC.out hg (Nat.le_refl _)
      rw [Nat.zero_add, List.nil_append] at hO
      clear HC
      have HC := Lib.hid hO
      clear hO hg hor hbW
      have hbW := hbW2
      clear hbW2
      have hS := Only.of_below [rb] hbW
      refine hK.out _ _ ?_ (fun hHeld2 => ?_)
      · clear hK; exact hS
      clear hK K hHeld hS
      have hHeld := hHeld2
      clear hHeld2
      try simp only [Act.put, List.setIfInBounds_toArray, List.set_cons_zero, List.set_cons_succ]
      refine wpAnyH_ready (rs := [8, 11]) (by kernel_rfl) (by simp) ?_
      refine AllReadyH.cons rfl (fun K hK => ?_) (AllReadyH.cons rfl (fun K hK => ?_) AllReadyH.nil)
      · rw [if_pos (by rfl)]
        refine wp_appN elT (.tmp 12) (.tmp 14) rfl W0.heap.size _ la.length (c3c la) rfl HC.out _ lb.length (c3c lb) rfl (HRB.out.below hbW) (c3_one lb) (by unfold maxLen; omega) (by omega) hbW.size ?_
        intro v3 V3 hO hg hor
        have hbW2 := below_app hbW hbW.size HC.out hg (Nat.le_refl _)
        rw [← c3_app] at hO
        clear HC
        have HC := Lib.hid hO
        clear hO hg hor hbW
        have hbW := hbW2
        clear hbW2
        have hS := Only.of_below [rb] hbW
        refine hK.out _ _ ?_ (fun hHeld2 => ?_)
        · clear hK; exact hS
        clear hK K hHeld hS
        have hHeld := hHeld2
        clear hHeld2
        try simp only [Act.put, List.setIfInBounds_toArray, List.set_cons_zero, List.set_cons_succ]
        refine wpAnyH_ready (rs := [11]) (by kernel_rfl) (by simp) ?_
        refine AllReadyH.cons rfl (fun K hK => ?_) AllReadyH.nil
        rw [if_pos (by rfl)]
        go_simp
        have HNE := Lib.hid (show some V3.heap.size ≠ Value.ownBlock v3 from ne_some HC.out rfl)
        refine nmW (fun V4 => Below W0.heap.size W0 V4 ∧ World.ownsRow V4 W0.heap.size 43 3 v3 (la.length + lb.length) (c3c (la ++ lb)) ∧ Blk V4 V3.heap.size 43 #[.int .i64 op, .int .i64 0, .int .i64 0]) ⟨hbW.alloc hbW.size _, (own_below HC.out ((Below.refl _ _).alloc (Nat.le_refl _) _)), (Blk.new _ _ _ _ rfl)⟩ fun V4 ⟨hbW2, qHC, qHN⟩ => ?_
        clear HC
        have hbW := hbW2
        clear hbW2
        have HC := Lib.hid qHC
        clear qHC
        have HN := Lib.hid qHN
        clear qHN
        have hS := Only.of_below [rb] hbW
        refine hK.out _ _ ?_ (fun hHeld2 => ?_)
        · clear hK; exact hS
        clear hK K hHeld hS
        have hHeld := hHeld2
        clear hHeld2
        try simp only [Act.put, List.setIfInBounds_toArray, List.set_cons_zero, List.set_cons_succ]
        refine wpAnyH_ready (rs := [12]) (by kernel_rfl) (by simp) ?_
        refine AllReadyH.cons rfl (fun K hK => ?_) AllReadyH.nil
        rw [if_pos (by rfl)]
        refine wp_appN elT (.tmp 15) (.tmp 18) rfl W0.heap.size _ (la.length + lb.length) (c3c (la ++ lb)) rfl HC.out _ 1 (c3c [(op, 0, 0)]) rfl (RowN.of_blk HN.out rfl rfl (Nat.le_refl _) (by decide)) (c3_one _) (by unfold maxLen; omega) (by omega) hbW.size ?_
        intro v4 V5 hO hg hor
        have hbW2 := below_app hbW hbW.size HC.out hg (Nat.le_refl _)
        rw [← c3_app] at hO
        obtain ⟨A4, c4, rfl⟩ := own_shape hO
        clear HN HNE
        clear HC
        have HC := Lib.hid hO
        clear hO hg hor hbW
        have hbW := hbW2
        clear hbW2
        have hS := Only.of_below [rb] hbW
        refine hK.out _ _ ?_ (fun hHeld2 => ?_)
        · clear hK; exact hS
        clear hK K hHeld hS
        have hHeld := hHeld2
        clear hHeld2
        try simp only [Act.put, List.setIfInBounds_toArray, List.set_cons_zero, List.set_cons_succ]
        refine takeD 13 (some 20) (v := ?_) rfl rfl (by kernel_rfl) (by kernel_rfl) (by kernel_rfl) (fun _ _ _ h => h) (by rfl) ?_ (by assumption) ?_
        rotate_left
        · intro w hSw
          (try dsimp only at hSw)
          go_simp
          try with_reducible rfl
        try simp only [Act.put, List.setIfInBounds_toArray, List.set_cons_zero, List.set_cons_succ]
        refine wpAnyH_ready (rs := [14]) (by kernel_rfl) (by simp) ?_
        refine AllReadyH.cons rfl (fun K hK => ?_) AllReadyH.nil
        rw [if_pos (by rfl)]
        have HRV := Lib.hid (HR.out.below hbW)
        have cR := HRV.out.cells
        have fR := HRV.out.froz
        go_simp
        clear cR fR
        have hS := (((Only.of_below [rb] hbW).setCell (p := ⟨rb, 0, none⟩) (by simp) (.slice A4 (la.length + lb.length + 1) c4)).setCell (p := ⟨rb, 1, none⟩) (by simp) (.int .i64 ha)).setCell (p := ⟨rb, 2, none⟩) (by simp) (.bool false)
        refine hK.out _ _ ?_ (fun hHeld2 => ?_)
        · clear hK; exact hS
        clear hK K hHeld hS
        have hHeld := hHeld2
        clear hHeld2
        try simp only [Act.put, List.setIfInBounds_toArray, List.set_cons_zero, List.set_cons_succ]
        refine wpAnyH_done (by kernel_rfl) ?_ _
        have h3 := ((HRV.out.set 0 (.slice A4 (la.length + lb.length + 1) c4)).set 1 (.int .i64 ha)).set 2 (.bool false)
        have cS := h3.cells
        have HO2 := Lib.hid (own_typed (own_typed (own_typed HC.out HRV.out (by decide) 0 (.slice A4 (la.length + lb.length + 1) c4)) (HRV.out.set 0 (.slice A4 (la.length + lb.length + 1) c4)) (by decide) 1 (.int .i64 ha)) ((HRV.out.set 0 (.slice A4 (la.length + lb.length + 1) c4)).set 1 (.int .i64 ha)) (by decide) 2 (.bool false))
        have hlo : w.heap.size ≤ rb := by have := HRE.out; omega
        have HBZ := Lib.hid ((((H0.out.trans (hbW.mono H0.out.size)).setCell (p := ⟨rb, 0, none⟩) hlo (.slice A4 (la.length + lb.length + 1) c4)).setCell (p := ⟨rb, 1, none⟩) hlo (.int .i64 ha)).setCell (p := ⟨rb, 2, none⟩) hlo (.bool false))
        clear dA dB hHeld hbW h3
        go_wp2
        refine bodyPost_ret (v := .agg #[(.slice A4 (la.length + lb.length + 1) c4), .int .i64 ha, .bool false]) (by simp [results, Try.results18, go_sem, cS]) rfl ?_
        exact ⟨⟨A4, c4, by first | rfl | simp, RowN.of_own HO2.out⟩, HBZ.out⟩
      · rw [if_pos (by rfl)]
        go_simp
        have HNE := Lib.hid (show some V2.heap.size ≠ Value.ownBlock v2 from ne_some HC.out rfl)
        refine nmW (fun V3 => Below W0.heap.size W0 V3 ∧ World.ownsRow V3 W0.heap.size 43 3 v2 la.length (c3c la) ∧ Blk V3 V2.heap.size 43 #[.int .i64 op, .int .i64 0, .int .i64 0]) ⟨hbW.alloc hbW.size _, (own_below HC.out ((Below.refl _ _).alloc (Nat.le_refl _) _)), (Blk.new _ _ _ _ rfl)⟩ fun V3 ⟨hbW2, qHC, qHN⟩ => ?_
        clear HC
        have hbW := hbW2
        clear hbW2
        have HC := Lib.hid qHC
        clear qHC
        have HN := Lib.hid qHN
        clear qHN
        have hS := Only.of_below [rb] hbW
        refine hK.out _ _ ?_ (fun hHeld2 => ?_)
        · clear hK; exact hS
        clear hK K hHeld hS
        have hHeld := hHeld2
        clear hHeld2
        try simp only [Act.put, List.setIfInBounds_toArray, List.set_cons_zero, List.set_cons_succ]
        refine wpAnyH_ready (rs := [8]) (by kernel_rfl) (by simp) ?_
        refine AllReadyH.cons rfl (fun K hK => ?_) AllReadyH.nil
        rw [if_pos (by rfl)]
        refine wp_appN elT (.tmp 12) (.tmp 14) rfl W0.heap.size _ la.length (c3c la) rfl HC.out _ lb.length (c3c lb) rfl (HRB.out.below hbW) (c3_one lb) (by unfold maxLen; omega) (by omega) hbW.size ?_
        intro v3 V4 hO hg hor
        have hbW2 := below_app hbW hbW.size HC.out hg (Nat.le_refl _)
        rw [← c3_app] at hO
        have HN2 := Lib.hid (show Blk _ _ _ _ from (hg.block _ HN.out.lt HNE.out).trans HN.out)
        have HNE2 := Lib.hid (show some V2.heap.size ≠ Value.ownBlock v3 by rcases hor with e | e <;> rw [e] <;> first | exact HNE.out | (intro he; injection he with he; have := HN.out.lt; omega))
        clear HN HNE
        have HN := Lib.hid HN2.out
        have HNE := Lib.hid HNE2.out
        clear HN2 HNE2
        clear HC
        have HC := Lib.hid hO
        clear hO hg hor hbW
        have hbW := hbW2
        clear hbW2
        have hS := Only.of_below [rb] hbW
        refine hK.out _ _ ?_ (fun hHeld2 => ?_)
        · clear hK; exact hS
        clear hK K hHeld hS
        have hHeld := hHeld2
        clear hHeld2
        try simp only [Act.put, List.setIfInBounds_toArray, List.set_cons_zero, List.set_cons_succ]
        refine wpAnyH_ready (rs := [12]) (by kernel_rfl) (by simp) ?_
        refine AllReadyH.cons rfl (fun K hK => ?_) AllReadyH.nil
        rw [if_pos (by rfl)]
        refine wp_appN elT (.tmp 15) (.tmp 18) rfl W0.heap.size _ (la.length + lb.length) (c3c (la ++ lb)) rfl HC.out _ 1 (c3c [(op, 0, 0)]) rfl (RowN.of_blk HN.out rfl rfl (Nat.le_refl _) (by decide)) (c3_one _) (by unfold maxLen; omega) (by omega) hbW.size ?_
        intro v4 V5 hO hg hor
        have hbW2 := below_app hbW hbW.size HC.out hg (Nat.le_refl _)
        rw [← c3_app] at hO
        obtain ⟨A4, c4, rfl⟩ := own_shape hO
        clear HN HNE
        clear HC
        have HC := Lib.hid hO
        clear hO hg hor hbW
        have hbW := hbW2
        clear hbW2
        have hS := Only.of_below [rb] hbW
        refine hK.out _ _ ?_ (fun hHeld2 => ?_)
        · clear hK; exact hS
        clear hK K hHeld hS
        have hHeld := hHeld2
        clear hHeld2
        try simp only [Act.put, List.setIfInBounds_toArray, List.set_cons_zero, List.set_cons_succ]
        refine takeD 13 (some 20) (v := ?_) rfl rfl (by kernel_rfl) (by kernel_rfl) (by kernel_rfl) (fun _ _ _ h => h) (by rfl) ?_ (by assumption) ?_
        rotate_left
        · intro w hSw
          (try dsimp only at hSw)
          go_simp
          try with_reducible rfl
        try simp only [Act.put, List.setIfInBounds_toArray, List.set_cons_zero, List.set_cons_succ]
        refine wpAnyH_ready (rs := [14]) (by kernel_rfl) (by simp) ?_
        refine AllReadyH.cons rfl (fun K hK => ?_) AllReadyH.nil
        rw [if_pos (by rfl)]
        have HRV := Lib.hid (HR.out.below hbW)
        have cR := HRV.out.cells
        have fR := HRV.out.froz
        go_simp
        clear cR fR
        have hS := (((Only.of_below [rb] hbW).setCell (p := ⟨rb, 0, none⟩) (by simp) (.slice A4 (la.length + lb.length + 1) c4)).setCell (p := ⟨rb, 1, none⟩) (by simp) (.int .i64 ha)).setCell (p := ⟨rb, 2, none⟩) (by simp) (.bool false)
        refine hK.out _ _ ?_ (fun hHeld2 => ?_)
        · clear hK; exact hS
        clear hK K hHeld hS
        have hHeld := hHeld2
        clear hHeld2
        try simp only [Act.put, List.setIfInBounds_toArray, List.set_cons_zero, List.set_cons_succ]
        refine wpAnyH_done (by kernel_rfl) ?_ _
        have h3 := ((HRV.out.set 0 (.slice A4 (la.length + lb.length + 1) c4)).set 1 (.int .i64 ha)).set 2 (.bool false)
        have cS := h3.cells
        have HO2 := Lib.hid (own_typed (own_typed (own_typed HC.out HRV.out (by decide) 0 (.slice A4 (la.length + lb.length + 1) c4)) (HRV.out.set 0 (.slice A4 (la.length + lb.length + 1) c4)) (by decide) 1 (.int .i64 ha)) ((HRV.out.set 0 (.slice A4 (la.length + lb.length + 1) c4)).set 1 (.int .i64 ha)) (by decide) 2 (.bool false))
        have hlo : w.heap.size ≤ rb := by have := HRE.out; omega
        have HBZ := Lib.hid ((((H0.out.trans (hbW.mono H0.out.size)).setCell (p := ⟨rb, 0, none⟩) hlo (.slice A4 (la.length + lb.length + 1) c4)).setCell (p := ⟨rb, 1, none⟩) hlo (.int .i64 ha)).setCell (p := ⟨rb, 2, none⟩) hlo (.bool false))
        clear dA dB hHeld hbW h3
        go_wp2
        refine bodyPost_ret (v := .agg #[(.slice A4 (la.length + lb.length + 1) c4), .int .i64 ha, .bool false]) (by simp [results, Try.results18, go_sem, cS]) rfl ?_
        exact ⟨⟨A4, c4, by first | rfl | simp, RowN.of_own HO2.out⟩, HBZ.out⟩
    · rw [if_pos (by rfl)]
      go_simp
      have HNE := Lib.hid (show some V1.heap.size ≠ Value.ownBlock (.slice (some ⟨W0.heap.size, 0, none⟩) 0 0) from ne_some HC.out rfl)
      refine nmW (fun V2 => Below W0.heap.size W0 V2 ∧ World.ownsRow V2 W0.heap.size 43 3 (.slice (some ⟨W0.heap.size, 0, none⟩) 0 0) 0 [] ∧ Blk V2 V1.heap.size 43 #[.int .i64 op, .int .i64 0, .int .i64 0]) ⟨hbW.alloc hbW.size _, (own_below HC.out ((Below.refl _ _).alloc (Nat.le_refl _) _)), (Blk.new _ _ _ _ rfl)⟩ fun V2 ⟨hbW2, qHC, qHN⟩ => ?_
      clear HC
      have hbW := hbW2
      clear hbW2
      have HC := Lib.hid qHC
      clear qHC
      have HN := Lib.hid qHN
      clear qHN
      have hS := Only.of_below [rb] hbW
      refine hK.out _ _ ?_ (fun hHeld2 => ?_)
      · clear hK; exact hS
      clear hK K hHeld hS
      have hHeld := hHeld2
      clear hHeld2
      try simp only [Act.put, List.setIfInBounds_toArray, List.set_cons_zero, List.set_cons_succ]
      refine wpAnyH_ready (rs := [5]) (by kernel_rfl) (by simp) ?_
      refine AllReadyH.cons rfl (fun K hK => ?_) AllReadyH.nil
      rw [if_pos (by rfl)]
      refine wp_appN elT (.tmp 9) (.tmp 11) rfl W0.heap.size _ 0 [] rfl HC.out _ la.length (c3c la) rfl (HRA.out.below hbW) (c3_one la) (by unfold maxLen; omega) (by omega) hbW.size ?_
      intro v2 V3 hO hg hor
      have hbW2 := below_app hbW hbW.size HC.out hg (Nat.le_refl _)
      rw [Nat.zero_add, List.nil_append] at hO
      have HN2 := Lib.hid (show Blk _ _ _ _ from (hg.block _ HN.out.lt HNE.out).trans HN.out)
      have HNE2 := Lib.hid (show some V1.heap.size ≠ Value.ownBlock v2 by rcases hor with e | e <;> rw [e] <;> first | exact HNE.out | (intro he; injection he with he; have := HN.out.lt; omega))
      clear HN HNE
      have HN := Lib.hid HN2.out
      have HNE := Lib.hid HNE2.out
      clear HN2 HNE2
      clear HC
      have HC := Lib.hid hO
      clear hO hg hor hbW
      have hbW := hbW2
      clear hbW2
      have hS := Only.of_below [rb] hbW
      refine hK.out _ _ ?_ (fun hHeld2 => ?_)
      · clear hK; exact hS
      clear hK K hHeld hS
      have hHeld := hHeld2
      clear hHeld2
      try simp only [Act.put, List.setIfInBounds_toArray, List.set_cons_zero, List.set_cons_succ]
      refine wpAnyH_ready (rs := [8]) (by kernel_rfl) (by simp) ?_
      refine AllReadyH.cons rfl (fun K hK => ?_) AllReadyH.nil
      rw [if_pos (by rfl)]
      refine wp_appN elT (.tmp 12) (.tmp 14) rfl W0.heap.size _ la.length (c3c la) rfl HC.out _ lb.length (c3c lb) rfl (HRB.out.below hbW) (c3_one lb) (by unfold maxLen; omega) (by omega) hbW.size ?_
      intro v3 V4 hO hg hor
      have hbW2 := below_app hbW hbW.size HC.out hg (Nat.le_refl _)
      rw [← c3_app] at hO
      have HN2 := Lib.hid (show Blk _ _ _ _ from (hg.block _ HN.out.lt HNE.out).trans HN.out)
      have HNE2 := Lib.hid (show some V1.heap.size ≠ Value.ownBlock v3 by rcases hor with e | e <;> rw [e] <;> first | exact HNE.out | (intro he; injection he with he; have := HN.out.lt; omega))
      clear HN HNE
      have HN := Lib.hid HN2.out
      have HNE := Lib.hid HNE2.out
      clear HN2 HNE2
      clear HC
      have HC := Lib.hid hO
      clear hO hg hor hbW
      have hbW := hbW2
      clear hbW2
      have hS := Only.of_below [rb] hbW
      refine hK.out _ _ ?_ (fun hHeld2 => ?_)
      · clear hK; exact hS
      clear hK K hHeld hS
      have hHeld := hHeld2
      clear hHeld2
      try simp only [Act.put, List.setIfInBounds_toArray, List.set_cons_zero, List.set_cons_succ]
      refine wpAnyH_ready (rs := [12]) (by kernel_rfl) (by simp) ?_
      refine AllReadyH.cons rfl (fun K hK => ?_) AllReadyH.nil
      rw [if_pos (by rfl)]
      refine wp_appN elT (.tmp 15) (.tmp 18) rfl W0.heap.size _ (la.length + lb.length) (c3c (la ++ lb)) rfl HC.out _ 1 (c3c [(op, 0, 0)]) rfl (RowN.of_blk HN.out rfl rfl (Nat.le_refl _) (by decide)) (c3_one _) (by unfold maxLen; omega) (by omega) hbW.size ?_
      intro v4 V5 hO hg hor
      have hbW2 := below_app hbW hbW.size HC.out hg (Nat.le_refl _)
      rw [← c3_app] at hO
      obtain ⟨A4, c4, rfl⟩ := own_shape hO
      clear HN HNE
      clear HC
      have HC := Lib.hid hO
      clear hO hg hor hbW
      have hbW := hbW2
      clear hbW2
      have hS := Only.of_below [rb] hbW
      refine hK.out _ _ ?_ (fun hHeld2 => ?_)
      · clear hK; exact hS
      clear hK K hHeld hS
      have hHeld := hHeld2
      clear hHeld2
      try simp only [Act.put, List.setIfInBounds_toArray, List.set_cons_zero, List.set_cons_succ]
      refine takeD 13 (some 20) (v := ?_) rfl rfl (by kernel_rfl) (by kernel_rfl) (by kernel_rfl) (fun _ _ _ h => h) (by rfl) ?_ (by assumption) ?_
      rotate_left
      · intro w hSw
        (try dsimp only at hSw)
        go_simp
        try with_reducible rfl
      try simp only [Act.put, List.setIfInBounds_toArray, List.set_cons_zero, List.set_cons_succ]
      refine wpAnyH_ready (rs := [14]) (by kernel_rfl) (by simp) ?_
      refine AllReadyH.cons rfl (fun K hK => ?_) AllReadyH.nil
      rw [if_pos (by rfl)]
      have HRV := Lib.hid (HR.out.below hbW)
      have cR := HRV.out.cells
      have fR := HRV.out.froz
      go_simp
      clear cR fR
      have hS := (((Only.of_below [rb] hbW).setCell (p := ⟨rb, 0, none⟩) (by simp) (.slice A4 (la.length + lb.length + 1) c4)).setCell (p := ⟨rb, 1, none⟩) (by simp) (.int .i64 ha)).setCell (p := ⟨rb, 2, none⟩) (by simp) (.bool false)
      refine hK.out _ _ ?_ (fun hHeld2 => ?_)
      · clear hK; exact hS
      clear hK K hHeld hS
      have hHeld := hHeld2
      clear hHeld2
      try simp only [Act.put, List.setIfInBounds_toArray, List.set_cons_zero, List.set_cons_succ]
      refine wpAnyH_done (by kernel_rfl) ?_ _
      have h3 := ((HRV.out.set 0 (.slice A4 (la.length + lb.length + 1) c4)).set 1 (.int .i64 ha)).set 2 (.bool false)
      have cS := h3.cells
      have HO2 := Lib.hid (own_typed (own_typed (own_typed HC.out HRV.out (by decide) 0 (.slice A4 (la.length + lb.length + 1) c4)) (HRV.out.set 0 (.slice A4 (la.length + lb.length + 1) c4)) (by decide) 1 (.int .i64 ha)) ((HRV.out.set 0 (.slice A4 (la.length + lb.length + 1) c4)).set 1 (.int .i64 ha)) (by decide) 2 (.bool false))
      have hlo : w.heap.size ≤ rb := by have := HRE.out; omega
      have HBZ := Lib.hid ((((H0.out.trans (hbW.mono H0.out.size)).setCell (p := ⟨rb, 0, none⟩) hlo (.slice A4 (la.length + lb.length + 1) c4)).setCell (p := ⟨rb, 1, none⟩) hlo (.int .i64 ha)).setCell (p := ⟨rb, 2, none⟩) hlo (.bool false))
      clear dA dB hHeld hbW h3
      go_wp2
      refine bodyPost_ret (v := .agg #[(.slice A4 (la.length + lb.length + 1) c4), .int .i64 ha, .bool false]) (by simp [results, Try.results18, go_sem, cS]) rfl ?_
      exact ⟨⟨A4, c4, by first | rfl | simp, RowN.of_own HO2.out⟩, HBZ.out⟩
  · rw [if_pos (by rfl)]
    go_simp
    refine nmW (fun V1 => Below W0.heap.size W0 V1 ∧ Blk V1 W0.heap.size 43 #[.int .i64 op, .int .i64 0, .int .i64 0]) ⟨(hbW.alloc hbW.size _).drew, (Blk.drw (Blk.new _ _ _ _ rfl))⟩ fun V1 ⟨hbW2, qHN⟩ => ?_
    have hbW := hbW2
    clear hbW2
    have HN := Lib.hid qHN
    clear qHN
    have hS := Only.of_below [rb] hbW
    refine hK.out _ _ ?_ (fun hHeld2 => ?_)
    · clear hK; exact hS
    clear hK K hHeld hS
    have hHeld := hHeld2
    clear hHeld2
    try simp only [Act.put, List.setIfInBounds_toArray, List.set_cons_zero, List.set_cons_succ]
    refine wpAnyH_ready (rs := [2]) (by kernel_rfl) (by simp) ?_
    refine AllReadyH.cons rfl (fun K hK => ?_) AllReadyH.nil
    rw [if_pos (by rfl)]
    go_simp
    have HNE := Lib.hid (show some W0.heap.size ≠ Value.ownBlock (.slice (some ⟨V1.heap.size, 0, none⟩) 0 0) from (by intro he; have := HN.out.lt; simp [Value.ownBlock] at he; omega))
    refine nmW (fun V2 => Below W0.heap.size W0 V2 ∧ World.ownsRow V2 W0.heap.size 43 3 (.slice (some ⟨V1.heap.size, 0, none⟩) 0 0) 0 [] ∧ Blk V2 W0.heap.size 43 #[.int .i64 op, .int .i64 0, .int .i64 0]) ⟨hbW.alloc hbW.size _, (own_emptyN _ _ _ _ _ hbW.size rfl), (HN.out.al _)⟩ fun V2 ⟨hbW2, qHC, qHN⟩ => ?_
    clear HN
    have hbW := hbW2
    clear hbW2
    have HC := Lib.hid qHC
    clear qHC
    have HN := Lib.hid qHN
    clear qHN
    have hS := Only.of_below [rb] hbW
    refine hK.out _ _ ?_ (fun hHeld2 => ?_)
    · clear hK; exact hS
    clear hK K hHeld hS
    have hHeld := hHeld2
    clear hHeld2
    try simp only [Act.put, List.setIfInBounds_toArray, List.set_cons_zero, List.set_cons_succ]
    refine wpAnyH_ready (rs := [5]) (by kernel_rfl) (by simp) ?_
    refine AllReadyH.cons rfl (fun K hK => ?_) AllReadyH.nil
    rw [if_pos (by rfl)]
    refine wp_appN elT (.tmp 9) (.tmp 11) rfl W0.heap.size _ 0 [] rfl HC.out _ la.length (c3c la) rfl (HRA.out.below hbW) (c3_one la) (by unfold maxLen; omega) (by omega) hbW.size ?_
    intro v2 V3 hO hg hor
    have hbW2 := below_app hbW hbW.size HC.out hg (Nat.le_refl _)
    rw [Nat.zero_add, List.nil_append] at hO
    have HN2 := Lib.hid (show Blk _ _ _ _ from (hg.block _ HN.out.lt HNE.out).trans HN.out)
    have HNE2 := Lib.hid (show some W0.heap.size ≠ Value.ownBlock v2 by rcases hor with e | e <;> rw [e] <;> first | exact HNE.out | (intro he; injection he with he; have := HN.out.lt; omega))
    clear HN HNE
    have HN := Lib.hid HN2.out
    have HNE := Lib.hid HNE2.out
    clear HN2 HNE2
    clear HC
    have HC := Lib.hid hO
    clear hO hg hor hbW
    have hbW := hbW2
    clear hbW2
    have hS := Only.of_below [rb] hbW
    refine hK.out _ _ ?_ (fun hHeld2 => ?_)
    · clear hK; exact hS
    clear hK K hHeld hS
    have hHeld := hHeld2
    clear hHeld2
    try simp only [Act.put, List.setIfInBounds_toArray, List.set_cons_zero, List.set_cons_succ]
    refine wpAnyH_ready (rs := [8]) (by kernel_rfl) (by simp) ?_
    refine AllReadyH.cons rfl (fun K hK => ?_) AllReadyH.nil
    rw [if_pos (by rfl)]
    refine wp_appN elT (.tmp 12) (.tmp 14) rfl W0.heap.size _ la.length (c3c la) rfl HC.out _ lb.length (c3c lb) rfl (HRB.out.below hbW) (c3_one lb) (by unfold maxLen; omega) (by omega) hbW.size ?_
    intro v3 V4 hO hg hor
    have hbW2 := below_app hbW hbW.size HC.out hg (Nat.le_refl _)
    rw [← c3_app] at hO
    have HN2 := Lib.hid (show Blk _ _ _ _ from (hg.block _ HN.out.lt HNE.out).trans HN.out)
    have HNE2 := Lib.hid (show some W0.heap.size ≠ Value.ownBlock v3 by rcases hor with e | e <;> rw [e] <;> first | exact HNE.out | (intro he; injection he with he; have := HN.out.lt; omega))
    clear HN HNE
    have HN := Lib.hid HN2.out
    have HNE := Lib.hid HNE2.out
    clear HN2 HNE2
    clear HC
    have HC := Lib.hid hO
    clear hO hg hor hbW
    have hbW := hbW2
    clear hbW2
    have hS := Only.of_below [rb] hbW
    refine hK.out _ _ ?_ (fun hHeld2 => ?_)
    · clear hK; exact hS
    clear hK K hHeld hS
    have hHeld := hHeld2
    clear hHeld2
    try simp only [Act.put, List.setIfInBounds_toArray, List.set_cons_zero, List.set_cons_succ]
    refine wpAnyH_ready (rs := [12]) (by kernel_rfl) (by simp) ?_
    refine AllReadyH.cons rfl (fun K hK => ?_) AllReadyH.nil
    rw [if_pos (by rfl)]
    refine wp_appN elT (.tmp 15) (.tmp 18) rfl W0.heap.size _ (la.length + lb.length) (c3c (la ++ lb)) rfl HC.out _ 1 (c3c [(op, 0, 0)]) rfl (RowN.of_blk HN.out rfl rfl (Nat.le_refl _) (by decide)) (c3_one _) (by unfold maxLen; omega) (by omega) hbW.size ?_
    intro v4 V5 hO hg hor
    have hbW2 := below_app hbW hbW.size HC.out hg (Nat.le_refl _)
    rw [← c3_app] at hO
    obtain ⟨A4, c4, rfl⟩ := own_shape hO
    clear HN HNE
    clear HC
    have HC := Lib.hid hO
    clear hO hg hor hbW
    have hbW := hbW2
    clear hbW2
    have hS := Only.of_below [rb] hbW
    refine hK.out _ _ ?_ (fun hHeld2 => ?_)
    · clear hK; exact hS
    clear hK K hHeld hS
    have hHeld := hHeld2
    clear hHeld2
    try simp only [Act.put, List.setIfInBounds_toArray, List.set_cons_zero, List.set_cons_succ]
    refine takeD 13 (some 20) (v := ?_) rfl rfl (by kernel_rfl) (by kernel_rfl) (by kernel_rfl) (fun _ _ _ h => h) (by rfl) ?_ (by assumption) ?_
    rotate_left
    · intro w hSw
      (try dsimp only at hSw)
      go_simp
      try with_reducible rfl
    try simp only [Act.put, List.setIfInBounds_toArray, List.set_cons_zero, List.set_cons_succ]
    refine wpAnyH_ready (rs := [14]) (by kernel_rfl) (by simp) ?_
    refine AllReadyH.cons rfl (fun K hK => ?_) AllReadyH.nil
    rw [if_pos (by rfl)]
    have HRV := Lib.hid (HR.out.below hbW)
    have cR := HRV.out.cells
    have fR := HRV.out.froz
    go_simp
    clear cR fR
    have hS := (((Only.of_below [rb] hbW).setCell (p := ⟨rb, 0, none⟩) (by simp) (.slice A4 (la.length + lb.length + 1) c4)).setCell (p := ⟨rb, 1, none⟩) (by simp) (.int .i64 ha)).setCell (p := ⟨rb, 2, none⟩) (by simp) (.bool false)
    refine hK.out _ _ ?_ (fun hHeld2 => ?_)
    · clear hK; exact hS
    clear hK K hHeld hS
    have hHeld := hHeld2
    clear hHeld2
    try simp only [Act.put, List.setIfInBounds_toArray, List.set_cons_zero, List.set_cons_succ]
    refine wpAnyH_done (by kernel_rfl) ?_ _
    have h3 := ((HRV.out.set 0 (.slice A4 (la.length + lb.length + 1) c4)).set 1 (.int .i64 ha)).set 2 (.bool false)
    have cS := h3.cells
    have HO2 := Lib.hid (own_typed (own_typed (own_typed HC.out HRV.out (by decide) 0 (.slice A4 (la.length + lb.length + 1) c4)) (HRV.out.set 0 (.slice A4 (la.length + lb.length + 1) c4)) (by decide) 1 (.int .i64 ha)) ((HRV.out.set 0 (.slice A4 (la.length + lb.length + 1) c4)).set 1 (.int .i64 ha)) (by decide) 2 (.bool false))
    have hlo : w.heap.size ≤ rb := by have := HRE.out; omega
    have HBZ := Lib.hid ((((H0.out.trans (hbW.mono H0.out.size)).setCell (p := ⟨rb, 0, none⟩) hlo (.slice A4 (la.length + lb.length + 1) c4)).setCell (p := ⟨rb, 1, none⟩) hlo (.int .i64 ha)).setCell (p := ⟨rb, 2, none⟩) hlo (.bool false))
    clear dA dB hHeld hbW h3
    go_wp2
    refine bodyPost_ret (v := .agg #[(.slice A4 (la.length + lb.length + 1) c4), .int .i64 ha, .bool false]) (by simp [results, Try.results18, go_sem, cS]) rfl ?_
    exact ⟨⟨A4, c4, by first | rfl | simp, RowN.of_own HO2.out⟩, HBZ.out⟩
end Go.Proofs.Ytkipocfdgekkfaa
