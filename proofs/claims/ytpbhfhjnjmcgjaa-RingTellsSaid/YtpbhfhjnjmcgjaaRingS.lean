/- Layer 12: the text's rings. -/
import Derived.Test.YtpbhfhjnjmcgjaaRingQ
import Derived.StillTailTactics
import Derived.BigRegion
namespace Go.Proofs.Ytpbhfhjnjmcgjaa
open Go.ChangeShapes Go.WideShapes Go.ChangeAt Go.RowKit
set_option linter.unusedVariables false
set_option linter.unusedSimpArgs false

theorem own_only {w w' : World} {s : List Nat} {base : Nat} {e : TypeId} {k n g c : Nat} {xs : List Value} (h : w.ownsRow base e k (.slice (some ⟨g, 0, none⟩) n c) n xs) (ho : Only s w w') (hg : g ∉ s) : w'.ownsRow base e k (.slice (some ⟨g, 0, none⟩) n c) n xs := by
  obtain ⟨h1, h2⟩ := h
  rcases h2 with ⟨h', _⟩ | ⟨g', cap, cur, hv, hbg, hgg, hrest⟩
  · cases h'
  · cases hv
    exact ⟨h1, .inr ⟨g, c, cur, rfl, hbg, (ho.block g (Array.getElem?_eq_some_iff.1 hgg).1 hg).trans hgg, hrest⟩⟩
theorem own_lt {w : World} {base : Nat} {e : TypeId} {k n g c : Nat} {xs : List Value} (h : w.ownsRow base e k (.slice (some ⟨g, 0, none⟩) n c) n xs) : g < w.heap.size ∧ base ≤ g ∧ n ≤ c ∧ c ≤ maxLen := by
  obtain ⟨h1, h2⟩ := h
  rcases h2 with ⟨h', _⟩ | ⟨g', cap, cur, hv, hbg, hgg, hn, hm, hrest⟩
  · cases h'
  · cases hv
    exact ⟨(Array.getElem?_eq_some_iff.1 hgg).1, hbg, hn, hm⟩

structure RR (w : World) (base rb fr K : Nat) (q : List (Int × Bool)) : Prop where
  ex : ∃ hb xb hc xc, Blk w rb 36 #[.int .i64 fr, .slice (some ⟨hb, 0, none⟩) K hc, .slice (some ⟨xb, 0, none⟩) K xc] ∧ w.ownsRow base 4 1 (.slice (some ⟨hb, 0, none⟩) K hc) K ((q).map fun a : Int × Bool => Value.bool a.2) ∧ w.ownsRow base 3 1 (.slice (some ⟨xb, 0, none⟩) K xc) K ((q).map fun a : Int × Bool => Value.int .i64 a.1) ∧ hb ≠ xb ∧ hb ≠ rb ∧ xb ≠ rb
  lo : base ≤ rb
  len : q.length = K
  pos : 0 < K
  small : K ≤ 1000
  top : fr ≤ 4611686018427387904
theorem RR.only {w w' : World} {base rb fr K : Nat} {q : List (Int × Bool)} {s : List Nat} (h : RR w base rb fr K q) (ho : Only s w w') (hs : ∀ x ∈ s, x < base) : RR w' base rb fr K q := by
  obtain ⟨hb, xb, hc, xc, h1, h2, h3, h4⟩ := h.ex
  have l2 := own_lt h2
  have l3 := own_lt h3
  have hn : ∀ b, base ≤ b → b ∉ s := fun b hb hm => by have := hs b hm; omega
  exact ⟨⟨hb, xb, hc, xc, h1.only ho (hn _ h.lo), own_only h2 ho (hn _ l2.2.1), own_only h3 ho (hn _ l3.2.1), h4⟩, h.lo, h.len, h.pos, h.small, h.top⟩
theorem RR.below {w w' : World} {base rb fr K : Nat} {q : List (Int × Bool)} (h : RR w base rb fr K q) (hb : Below w.heap.size w w') : RR w' base rb fr K q := h.only (Only.of_below [] hb) (by simp)
theorem RR.drw {w : World} {base rb fr K : Nat} {q : List (Int × Bool)} (h : RR w base rb fr K q) (m : Nat) : RR (w.drewN m) base rb fr K q := h.only ((Only.refl [] w).drew m) (by simp)
theorem RingI.belowB {w w' : World} {ra ga fr K B : Nat} {q : List (Int × Bool)} (h : RingI w ra ga fr K q) (hb : Below B w w') (h1 : ra < B) (h2 : ga < B) : RingI w' ra ga fr K q := by
  obtain ⟨cs, hc, hr⟩ := h.rest
  exact ⟨h.head.keep hb h1, ⟨cs, hc.keep hb h2, hr⟩, h.ne, h.pos, h.small, h.top⟩

set_option maxRecDepth 100000 in
set_option maxHeartbeats 1000000 in
theorem rat_any (base rb fr K : Nat) (at_ : Int) (q : List (Int × Bool)) (w : World) (h : RR w base rb fr K q) (hb : -4611686018427387904 ≤ at_ ∧ at_ ≤ 4611686018427387904) :
    Calls Try.prog 14 #[.pointer (some ⟨rb, 0, none⟩), .int .i64 at_] w fun e w' => e = .returned (.tuple #[.int .i64 (atQ 0 fr K q at_).1, .bool (atQ 0 fr K q at_).2]) ∧ ∃ m, w.drewN m = w' := by
  obtain ⟨hb_, xb, hc, xc, h1, h2, h3, h4⟩ := h.ex
  have hx := h1.cells
  have hlt0 := h1.lt
  have hpos := h.pos
  have hsm := h.small
  have ht := h.top
  have hlen := h.len
  by_cases hout : at_ < (fr : Int) ∨ at_ - (fr : Int) ≥ (K : Int)
  · have e0 : atQ 0 fr K q at_ = (0, false) := if_pos hout
    rw [e0]
    clear h1 h2 h3 h4 e0 h
    by_cases hlt : at_ < (fr : Int)
    · have g1 : decide (at_ < (fr : Int)) = true := decide_eq_true hlt
      have dR : ∀ w', Below w.heap.size w w' → ∀ i, w'.cell? ⟨rb, i, none⟩ = (#[.int .i64 fr, .slice (some ⟨hb_, 0, none⟩) K hc, .slice (some ⟨xb, 0, none⟩) K xc] : Array Value)[i]? := fun w' hb i => by rw [hb.cell (p := ⟨rb, i, none⟩) hlt0]; exact hx i
      go_enter Try.func14, Try.ntmps14
      go_wp2_with fail
      refine wp_region_held_drew (S := fun w' => Below w.heap.size w w') (by kernel_rfl) (by go_grown) (fun hHeld => ?_)
      refine takeD 0 (some 6) (v := ?_) rfl rfl (by kernel_rfl) (by kernel_rfl) (by kernel_rfl) (fun _ _ _ h => h) (by rfl) ?_ (by assumption) ?_
      rotate_left
      · intro w hSw
        (try dsimp only at hSw)
        go_simp
        try with_reducible rfl
      try simp only [Act.put, List.setIfInBounds_toArray, List.set_cons_zero, List.set_cons_succ]
      refine takeD 1 (some 7) (v := ?_) rfl rfl (by kernel_rfl) (by kernel_rfl) (by kernel_rfl) (fun _ _ _ h => h) (by rfl) ?_ (by assumption) ?_
      rotate_left
      · intro w hSw
        (try dsimp only at hSw)
        go_simp
        try with_reducible rfl
      try simp only [Act.put, List.setIfInBounds_toArray, List.set_cons_zero, List.set_cons_succ]
      refine takeD 2 (some 8) (v := ?_) rfl rfl (by kernel_rfl) (by kernel_rfl) (by kernel_rfl) (fun _ _ _ h => h) (by rfl) ?_ (by assumption) ?_
      rotate_left
      · intro w hSw
        (try dsimp only at hSw)
        go_simp
        try with_reducible rfl
      try simp only [Act.put, List.setIfInBounds_toArray, List.set_cons_zero, List.set_cons_succ]
      refine takeD 3 (some 9) (v := ?_) rfl rfl (by kernel_rfl) (by kernel_rfl) (by kernel_rfl) (fun _ _ _ h => h) (by rfl) ?_ (by assumption) ?_
      rotate_left
      · intro w hSw
        (try dsimp only at hSw)
        go_simp
        try with_reducible rfl
      try simp only [Act.put, List.setIfInBounds_toArray, List.set_cons_zero, List.set_cons_succ]
      refine takeD 4 (some 10) (v := ?_) rfl rfl (by kernel_rfl) (by kernel_rfl) (by kernel_rfl) (fun _ _ _ h => h) (by rfl) ?_ (by assumption) ?_
      rotate_left
      · intro w hSw
        (try dsimp only at hSw)
        go_simp
        try with_reducible rfl
      try simp only [Act.put, List.setIfInBounds_toArray, List.set_cons_zero, List.set_cons_succ]
      refine takeD 5 (some 11) (v := ?_) rfl rfl (by kernel_rfl) (by kernel_rfl) (by kernel_rfl) (fun _ _ _ h => h) (by rfl) ?_ (by assumption) ?_
      rotate_left
      · intro w hSw
        (try dsimp only at hSw)
        go_simp
        try with_reducible rfl
      try simp only [Act.put, List.setIfInBounds_toArray, List.set_cons_zero, List.set_cons_succ]
      refine takeD 6 (some 12) (v := ?_) rfl rfl (by kernel_rfl) (by kernel_rfl) (by kernel_rfl) (fun _ _ _ h => h) (by rfl) ?_ (by assumption) ?_
      rotate_left
      · intro w hSw
        (try dsimp only at hSw)
        go_simp
        try with_reducible rfl
      try simp only [Act.put, List.setIfInBounds_toArray, List.set_cons_zero, List.set_cons_succ]
      refine skipD 7 (some 13) rfl rfl (by kernel_rfl) (by kernel_rfl) (by kernel_rfl) (fun _ _ _ h => h) (by rfl) (by assumption) ?_
      try simp only [Act.put, List.setIfInBounds_toArray, List.set_cons_zero, List.set_cons_succ]
      refine skipD 8 (some 14) rfl rfl (by kernel_rfl) (by kernel_rfl) (by kernel_rfl) (fun _ _ _ h => h) (by rfl) (by assumption) ?_
      try simp only [Act.put, List.setIfInBounds_toArray, List.set_cons_zero, List.set_cons_succ]
      refine skipD 9 (some 15) rfl rfl (by kernel_rfl) (by kernel_rfl) (by kernel_rfl) (fun _ _ _ h => h) (by rfl) (by assumption) ?_
      try simp only [Act.put, List.setIfInBounds_toArray, List.set_cons_zero, List.set_cons_succ]
      refine skipD 10 (some 16) rfl rfl (by kernel_rfl) (by kernel_rfl) (by kernel_rfl) (fun _ _ _ h => h) (by rfl) (by assumption) ?_
      try simp only [Act.put, List.setIfInBounds_toArray, List.set_cons_zero, List.set_cons_succ]
      refine skipD 11 (some 17) rfl rfl (by kernel_rfl) (by kernel_rfl) (by kernel_rfl) (fun _ _ _ h => h) (by rfl) (by assumption) ?_
      try simp only [Act.put, List.setIfInBounds_toArray, List.set_cons_zero, List.set_cons_succ]
      refine skipD 12 (some 18) rfl rfl (by kernel_rfl) (by kernel_rfl) (by kernel_rfl) (fun _ _ _ h => h) (by rfl) (by assumption) ?_
      try simp only [Act.put, List.setIfInBounds_toArray, List.set_cons_zero, List.set_cons_succ]
      refine skipD 13 (some 19) rfl rfl (by kernel_rfl) (by kernel_rfl) (by kernel_rfl) (fun _ _ _ h => h) (by rfl) (by assumption) ?_
      try simp only [Act.put, List.setIfInBounds_toArray, List.set_cons_zero, List.set_cons_succ]
      refine skipD 14 (some 20) rfl rfl (by kernel_rfl) (by kernel_rfl) (by kernel_rfl) (fun _ _ _ h => h) (by rfl) (by assumption) ?_
      try simp only [Act.put, List.setIfInBounds_toArray, List.set_cons_zero, List.set_cons_succ]
      refine skipD 15 (some 21) rfl rfl (by kernel_rfl) (by kernel_rfl) (by kernel_rfl) (fun _ _ _ h => h) (by rfl) (by assumption) ?_
      try simp only [Act.put, List.setIfInBounds_toArray, List.set_cons_zero, List.set_cons_succ]
      refine skipD 16 (some 22) rfl rfl (by kernel_rfl) (by kernel_rfl) (by kernel_rfl) (fun _ _ _ h => h) (by rfl) (by assumption) ?_
      try simp only [Act.put, List.setIfInBounds_toArray, List.set_cons_zero, List.set_cons_succ]
      refine skipD 17 (some 23) rfl rfl (by kernel_rfl) (by kernel_rfl) (by kernel_rfl) (fun _ _ _ h => h) (by rfl) (by assumption) ?_
      try simp only [Act.put, List.setIfInBounds_toArray, List.set_cons_zero, List.set_cons_succ]
      refine skipD 18 (some 24) rfl rfl (by kernel_rfl) (by kernel_rfl) (by kernel_rfl) (fun _ _ _ h => h) (by rfl) (by assumption) ?_
      try simp only [Act.put, List.setIfInBounds_toArray, List.set_cons_zero, List.set_cons_succ]
      refine takeD 19 (some 25) (v := ?_) rfl rfl (by kernel_rfl) (by kernel_rfl) (by kernel_rfl) (fun _ _ _ h => h) (by rfl) ?_ (by assumption) ?_
      rotate_left
      · intro w hSw
        (try dsimp only at hSw)
        go_simp
        try with_reducible rfl
      try simp only [Act.put, List.setIfInBounds_toArray, List.set_cons_zero, List.set_cons_succ]
      refine wpAnyH_done (by kernel_rfl) ?_ _
      go_wp2
      go_ret2
      exact ⟨rfl, 1, rfl⟩
    · have hwr : IntKind.i64.wrap (at_ - (fr : Int)) = at_ - (fr : Int) := IntWalk.i64_in _ (by omega)
      have g1 : decide (at_ < (fr : Int)) = false := decide_eq_false hlt
      have g2 : decide (at_ - (fr : Int) ≥ (K : Int)) = true := decide_eq_true (by omega)
      go_enter Try.func14, Try.ntmps14
      go_wp2_with fail
      go_still_tail 19, (by kernel_rfl)
      go_wp2
      go_ret2
      exact ⟨rfl, 1, rfl⟩
  · obtain ⟨n, hn⟩ : ∃ n : Nat, at_ - (fr : Int) = (n : Int) := ⟨(at_ - (fr : Int)).toNat, by omega⟩
    have hnK : n < K := by omega
    obtain ⟨a, ha⟩ : ∃ a, q[n]? = some a := ⟨_, List.getElem?_eq_getElem (by omega)⟩
    have e0 : atQ 0 fr K q at_ = a := by
      rw [atQ, if_neg hout, hn, Int.toNat_natCast, List.getD_eq_getElem?_getD, ha]
      rfl
    have c1 : w.cell? ⟨hb_, n, none⟩ = some (.bool a.2) := by rw [h2.cellAt n (by omega), List.getElem?_map, ha]; rfl
    have c2 : w.cell? ⟨xb, n, none⟩ = some (.int .i64 a.1) := by rw [h3.cellAt n (by omega), List.getElem?_map, ha]; rfl
    have hwr : IntKind.i64.wrap (at_ - (fr : Int)) = (n : Int) := by rw [hn]; exact IntWalk.i64_in _ (by omega)
    have g1 : decide (at_ < (fr : Int)) = false := decide_eq_false (by omega)
    have hni : (n : Int) < (K : Int) := by omega
    have g2 : decide ((n : Int) ≥ (K : Int)) = false := decide_eq_false (by omega)
    rw [e0]
    clear h1 h2 h3 h4 h e0 ha hout hn
    go_enter Try.func14, Try.ntmps14
    go_wp2_with fail
    go_still_tail 19, (by kernel_rfl)
    go_wp2_with fail
    obtain ⟨W, hW⟩ : ∃ W, W = w.drew := ⟨_, rfl⟩
    have hx' : ∀ i, W.cell? ⟨rb, i, none⟩ = (#[.int .i64 fr, .slice (some ⟨hb_, 0, none⟩) K hc, .slice (some ⟨xb, 0, none⟩) K xc] : Array Value)[i]? := by rw [hW]; exact hx
    have c1' : W.cell? ⟨hb_, n, none⟩ = some (.bool a.2) := by rw [hW]; exact c1
    have c2' : W.cell? ⟨xb, n, none⟩ = some (.int .i64 a.1) := by rw [hW]; exact c2
    rw [← hW]
    have HW := Lib.hid hW
    clear hW hx c1 c2
    go_still_tail 25, (by kernel_rfl)
    go_wp2
    go_ret2
    exact ⟨rfl, 2, by rw [HW.out]; rfl⟩
end Go.Proofs.Ytpbhfhjnjmcgjaa
