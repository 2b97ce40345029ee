/- Layer 5: the number of a channel, and the channel of a number. -/
import Derived.Test.YtconekaplneejaaConfF
namespace Go.Proofs.Ytconekaplneejaa
open Go.ChangeShapes Go.WideShapes Go.ChangeAt Go.RowKit Go.Shelf
set_option linter.unusedVariables false
set_option linter.unusedSimpArgs false
attribute [local go_sem] Oper.semAt_some

theorem far {W : World} {b c i j : Nat} {v x : Value} (h : b ≠ c) (hx : W.cell? ⟨b, i, none⟩ = some x) : (W.setCell ⟨c, j, none⟩ v).cell? ⟨b, i, none⟩ = some x := by
  rw [← hx]
  unfold World.cell?
  rw [Below.heap_setCell W ⟨c, j, none⟩ v b h]
def isCh (d h : Int) (x : Nat × Nat) : Bool := ((x.1 : Int) == d) && ((x.2 : Int) == h)
def numI (L : List (Nat × Nat)) (d h : Int) : Int := match L.findIdx? (isCh d h) with | some i => (i : Int) | none => -1
theorem numI_none {L : List (Nat × Nat)} {d h : Int} (H : ∀ y ∈ L, isCh d h y = false) : numI L d h = -1 := by
  unfold numI
  rw [List.findIdx?_eq_none_iff.2 H]
theorem numI_some {L pre : List (Nat × Nat)} {x : Nat × Nat} {d h : Int} (hp : (pre ++ [x]) <+: L) (H : ∀ y ∈ pre, isCh d h y = false) (hx : isCh d h x = true) : numI L d h = (pre.length : Int) := by
  obtain ⟨t, rfl⟩ := hp
  have e : (pre ++ [x] ++ t).findIdx? (isCh d h) = some pre.length := by
    rw [List.append_assoc, List.findIdx?_append, List.findIdx?_eq_none_iff.2 H]
    simp [List.findIdx?_cons, hx]
  unfold numI
  rw [e]

set_option maxRecDepth 100000 in
set_option maxHeartbeats 4000000 in
theorem number_any (v : Value) (c : Cf) (dev ch : Int) (w : World) (h : IsConf w v c) (hN : (chansOf c.rows).length ≤ 1000000) :
    Calls Try.prog 17 #[v, .int .i64 dev, .int .i64 ch] w fun e w' => e = .returned (.int .i64 (numI (chansOf c.rows) dev ch)) ∧ Below w.heap.size w w' := by
  obtain ⟨s, r, rfl, hs⟩ := h
  have HS := Lib.hid hs
  obtain ⟨A, cp, rfl, hc, hcm, q1⟩ := hs.src
  clear hs q1
  refine (callsIn_wide (n := 9)).1 ?_
  refine callsIn_of_wp_marks Try.func17 rfl trivial ?_ rfl
  simp only [Try.ntmps17, List.size_toArray, List.length_cons, List.length_nil, Nat.reduceAdd, Nat.reduceSub, Array.replicate_succ, Array.replicate_zero, List.push_toArray, List.append_toArray, List.nil_append, List.cons_append]
  gi_wp2_with (refine ⟨trivial, ?_⟩; gi_at_call 20; refine (callsIn_wide.2 (channels_any c A c.rows.length cp r _)).mono ?_; rintro e w' ⟨rfl, rfl⟩)
  unfold confA
  have b1 := (((((Boxed.new (w.alloc (.cells #[.int .i64 c.P, .int .i64 c.H, .int .i64 c.C, .int .i64 c.Mn, .int .i64 c.Mx, .int .i64 c.Rho, .int .i64 c.Bd, .int .i64 c.Win, .int .i64 c.St, .slice A c.rows.length cp, r] 25)) 3 (.int .i64 dev)).alloc (.cells #[.int .i64 ch] 3)).alloc (.cells #[.int .i64 0] 3)).alloc (.cells #[.int .i64 0] 3)).alloc (.cells #[.int .i64 c.P, .int .i64 c.H, .int .i64 c.C, .int .i64 c.Mn, .int .i64 c.Mx, .int .i64 c.Rho, .int .i64 c.Bd, .int .i64 c.Win, .int .i64 c.St, .slice A c.rows.length cp, r] 25))
  have b2 := ((((Boxed.new ((w.alloc (.cells #[.int .i64 c.P, .int .i64 c.H, .int .i64 c.C, .int .i64 c.Mn, .int .i64 c.Mx, .int .i64 c.Rho, .int .i64 c.Bd, .int .i64 c.Win, .int .i64 c.St, .slice A c.rows.length cp, r] 25)).alloc (.cells #[.int .i64 dev] 3)) 3 (.int .i64 ch)).alloc (.cells #[.int .i64 0] 3)).alloc (.cells #[.int .i64 0] 3)).alloc (.cells #[.int .i64 c.P, .int .i64 c.H, .int .i64 c.C, .int .i64 c.Mn, .int .i64 c.Mx, .int .i64 c.Rho, .int .i64 c.Bd, .int .i64 c.Win, .int .i64 c.St, .slice A c.rows.length cp, r] 25))
  have b3 := (((Boxed.new (((w.alloc (.cells #[.int .i64 c.P, .int .i64 c.H, .int .i64 c.C, .int .i64 c.Mn, .int .i64 c.Mx, .int .i64 c.Rho, .int .i64 c.Bd, .int .i64 c.Win, .int .i64 c.St, .slice A c.rows.length cp, r] 25)).alloc (.cells #[.int .i64 dev] 3)).alloc (.cells #[.int .i64 ch] 3)) 3 (.int .i64 0)).alloc (.cells #[.int .i64 0] 3)).alloc (.cells #[.int .i64 c.P, .int .i64 c.H, .int .i64 c.C, .int .i64 c.Mn, .int .i64 c.Mx, .int .i64 c.Rho, .int .i64 c.Bd, .int .i64 c.Win, .int .i64 c.St, .slice A c.rows.length cp, r] 25))
  have b4 := ((Boxed.new ((((w.alloc (.cells #[.int .i64 c.P, .int .i64 c.H, .int .i64 c.C, .int .i64 c.Mn, .int .i64 c.Mx, .int .i64 c.Rho, .int .i64 c.Bd, .int .i64 c.Win, .int .i64 c.St, .slice A c.rows.length cp, r] 25)).alloc (.cells #[.int .i64 dev] 3)).alloc (.cells #[.int .i64 ch] 3)).alloc (.cells #[.int .i64 0] 3)) 3 (.int .i64 0)).alloc (.cells #[.int .i64 c.P, .int .i64 c.H, .int .i64 c.C, .int .i64 c.Mn, .int .i64 c.Mx, .int .i64 c.Rho, .int .i64 c.Bd, .int .i64 c.Win, .int .i64 c.St, .slice A c.rows.length cp, r] 25))
  have hB0 : Below w.heap.size w ((((((w.alloc (.cells #[.int .i64 c.P, .int .i64 c.H, .int .i64 c.C, .int .i64 c.Mn, .int .i64 c.Mx, .int .i64 c.Rho, .int .i64 c.Bd, .int .i64 c.Win, .int .i64 c.St, .slice A c.rows.length cp, r] 25)).alloc (.cells #[.int .i64 dev] 3)).alloc (.cells #[.int .i64 ch] 3)).alloc (.cells #[.int .i64 0] 3)).alloc (.cells #[.int .i64 0] 3)).alloc (.cells #[.int .i64 c.P, .int .i64 c.H, .int .i64 c.C, .int .i64 c.Mn, .int .i64 c.Mx, .int .i64 c.Rho, .int .i64 c.Bd, .int .i64 c.Win, .int .i64 c.St, .slice A c.rows.length cp, r] 25)) := (((((((Below.refl _ w).alloc (Nat.le_refl _) _).alloc (by simp; try omega) _).alloc (by simp; try omega) _).alloc (by simp; try omega) _).alloc (by simp; try omega) _).alloc (by simp; try omega) _)
  have hB9 : ((((((w.alloc (.cells #[.int .i64 c.P, .int .i64 c.H, .int .i64 c.C, .int .i64 c.Mn, .int .i64 c.Mx, .int .i64 c.Rho, .int .i64 c.Bd, .int .i64 c.Win, .int .i64 c.St, .slice A c.rows.length cp, r] 25)).alloc (.cells #[.int .i64 dev] 3)).alloc (.cells #[.int .i64 ch] 3)).alloc (.cells #[.int .i64 0] 3)).alloc (.cells #[.int .i64 0] 3)).alloc (.cells #[.int .i64 c.P, .int .i64 c.H, .int .i64 c.C, .int .i64 c.Mn, .int .i64 c.Mx, .int .i64 c.Rho, .int .i64 c.Bd, .int .i64 c.Win, .int .i64 c.St, .slice A c.rows.length cp, r] 25)).cell? ⟨w.heap.size + 1 + 1 + 1 + 1 + 1, 9, none⟩ = some (.slice A c.rows.length cp) := (Blk.new (((((w.alloc (.cells #[.int .i64 c.P, .int .i64 c.H, .int .i64 c.C, .int .i64 c.Mn, .int .i64 c.Mx, .int .i64 c.Rho, .int .i64 c.Bd, .int .i64 c.Win, .int .i64 c.St, .slice A c.rows.length cp, r] 25)).alloc (.cells #[.int .i64 dev] 3)).alloc (.cells #[.int .i64 ch] 3)).alloc (.cells #[.int .i64 0] 3)).alloc (.cells #[.int .i64 0] 3)) 25 #[.int .i64 c.P, .int .i64 c.H, .int .i64 c.C, .int .i64 c.Mn, .int .i64 c.Mx, .int .i64 c.Rho, .int .i64 c.Bd, .int .i64 c.Win, .int .i64 c.St, .slice A c.rows.length cp, r] (w.heap.size + 1 + 1 + 1 + 1 + 1) (by simp)).cells 9
  simp only [World.size_alloc] at b1 b2 b3 b4
  refine wpIn_rangeFunc_ownF rfl (by decide) (gf := 23) (lb := #[.pointer (some ⟨w.heap.size + 1 + 1 + 1 + 1 + 1, 0, none⟩)]) rfl trivial (enters_of Try.func23 (by kernel_rfl) rfl)
    (chan_stops _ (by decide) (w.heap.size + 1 + 1 + 1 + 1 + 1) c.rows w _ _ HS.out hB0 hB9 (by simp)) belowK_t (belowK_b (by simp; omega)) (Below.refl _ _) (fun _ => rfl)
    (fun pre W => ((∀ y ∈ pre, isCh dev ch y = false) ∧ W.cell? ⟨w.heap.size + 1, 0, none⟩ = some (.int .i64 dev) ∧ W.cell? ⟨w.heap.size + 1 + 1, 0, none⟩ = some (.int .i64 ch) ∧ (W.cell? ⟨w.heap.size + 1 + 1 + 1, 0, none⟩ = some (.int .i64 0) ∧ W.frozen? ⟨w.heap.size + 1 + 1 + 1, 0, none⟩ = false) ∧ (W.cell? ⟨w.heap.size + 1 + 1 + 1 + 1, 0, none⟩ = some (.int .i64 (pre.length : Int)) ∧ W.frozen? ⟨w.heap.size + 1 + 1 + 1 + 1, 0, none⟩ = false)) ∧ Below w.heap.size w W)
    (fun k pre W => (k = .ret ∧ ∃ pre0 x, pre = pre0 ++ [x] ∧ (∀ y ∈ pre0, isCh dev ch y = false) ∧ isCh dev ch x = true ∧ W.cell? ⟨w.heap.size + 1 + 1 + 1, 0, none⟩ = some (.int .i64 (pre0.length : Int))) ∧ Below w.heap.size w W)
    (OwnFrom.and (Own.from (fun s A B row hs hg hr => ⟨hs.1, cell_kept hs.2.1 hg hr, cell_kept hs.2.2.1 hg hr, ⟨cell_kept hs.2.2.2.1.1 hg hr, (frozen_kept hs.2.2.2.1.1 hg hr).trans hs.2.2.2.1.2⟩, ⟨cell_kept hs.2.2.2.2.1 hg hr, (frozen_kept hs.2.2.2.2.1 hg hr).trans hs.2.2.2.2.2⟩⟩) _) (ownFrom_below (Nat.le_refl _) (by simp; omega)))
    (fun k => OwnFrom.and (Own.from (fun s A B row hs hg hr => ⟨hs.1, by obtain ⟨p0, x, h1, h2, h3, h4⟩ := hs.2; exact ⟨p0, x, h1, h2, h3, cell_kept h4 hg hr⟩⟩) _) (ownFrom_below (Nat.le_refl _) (by simp; omega)))
    ⟨⟨by simp, b1.cell, b2.cell, ⟨b3.cell, b3.frozen⟩, ⟨b4.cell, b4.frozen⟩⟩, hB0⟩
    (fun x => { tmps := #[.agg #[.int .i64 c.P, .int .i64 c.H, .int .i64 c.C, .int .i64 c.Mn, .int .i64 c.Mx, .int .i64 c.Rho, .int .i64 c.Bd, .int .i64 c.Win, .int .i64 c.St, .slice A c.rows.length cp, r], .int .i64 dev, .int .i64 ch, .pointer (some ⟨w.heap.size, 0, none⟩), .pointer (some ⟨w.heap.size + 1, 0, none⟩), .pointer (some ⟨w.heap.size + 1 + 1, 0, none⟩), .pointer (some ⟨w.heap.size + 1 + 1 + 1, 0, none⟩), .pointer (some ⟨w.heap.size + 1 + 1 + 1 + 1, 0, none⟩), .int .i64 x.1, .int .i64 x.2, .agg #[.int .i64 c.P, .int .i64 c.H, .int .i64 c.C, .int .i64 c.Mn, .int .i64 c.Mx, .int .i64 c.Rho, .int .i64 c.Bd, .int .i64 c.Win, .int .i64 c.St, .slice A c.rows.length cp, r], .func (.func 23) #[] #[.pointer (some ⟨w.heap.size + 1 + 1 + 1 + 1 + 1, 0, none⟩)], .int .i64 x.1, .int .i64 x.2, undef, undef, undef, undef, undef, undef, undef, undef, undef, undef, undef], defers := [] }) ?assign ?body ?done ?stop
  case assign =>
    intro l x W K hK
    rw [fold2]
    gi_wp2
    exact hK
  case body =>
    rintro l pre x W ⟨⟨hp, hd, hh, ⟨hcr, hfr⟩, ⟨hcn, hfn⟩⟩, hB⟩ hlt
    have hW : wrap64 ((pre.length : Int) + 1) = (pre.length : Int) + 1 := IntWalk.wrap64_in _ (by omega)
    have hgo : isCh dev ch x = false → ∀ y ∈ pre ++ [x], isCh dev ch y = false := fun h y hy => by
      rcases List.mem_append.1 hy with h1 | h1
      · exact hp y h1
      · simp at h1; rw [h1]; exact h
    have HGO := Lib.hid hgo
    have HP := Lib.hid hp
    clear hgo hp
    by_cases g1 : ((x.1 : Int) == dev) = true
    · by_cases g2 : ((x.2 : Int) == ch) = true
      · have HX := Lib.hid (show isCh dev ch x = true by unfold isCh; rw [g1, g2]; rfl)
        gi_wp2
        exact ⟨KeepsOthers.setCell _ _ _, ⟨rfl, pre, x, rfl, HP.out, HX.out, World.cell?_setCell_same' _ _ _ (by rw [hcr]; rfl)⟩, hB.setCell (p := ⟨w.heap.size + 1 + 1 + 1, 0, none⟩) (by simp; try omega) _⟩
      · have g2' : ((x.2 : Int) == ch) = false := by simpa using g2
        have HX := Lib.hid (show isCh dev ch x = false by unfold isCh; rw [g2', Bool.and_false])
        clear g2
        gi_wp2
        exact ⟨KeepsOthers.setCell _ _ _, (Below.refl w.heap.size W).setCell (p := ⟨w.heap.size + 1 + 1 + 1 + 1, 0, none⟩) (by simp; try omega) _, ⟨HGO.out HX.out, far (by omega) hd, far (by omega) hh, ⟨far (by omega) hcr, by rw [World.frozen?_setCell]; exact hfr⟩, ⟨by rw [World.cell?_setCell_same' _ _ _ (by rw [hcn]; rfl)]; simp, by rw [World.frozen?_setCell]; exact hfn⟩⟩, hB.setCell (p := ⟨w.heap.size + 1 + 1 + 1 + 1, 0, none⟩) (by simp; try omega) _⟩
    · have g1' : ((x.1 : Int) == dev) = false := by simpa using g1
      have HX := Lib.hid (show isCh dev ch x = false by unfold isCh; rw [g1']; rfl)
      clear g1
      gi_wp2
      exact ⟨KeepsOthers.setCell _ _ _, (Below.refl w.heap.size W).setCell (p := ⟨w.heap.size + 1 + 1 + 1 + 1, 0, none⟩) (by simp; try omega) _, ⟨HGO.out HX.out, far (by omega) hd, far (by omega) hh, ⟨far (by omega) hcr, by rw [World.frozen?_setCell]; exact hfr⟩, ⟨by rw [World.cell?_setCell_same' _ _ _ (by rw [hcn]; rfl)]; simp, by rw [World.frozen?_setCell]; exact hfn⟩⟩, hB.setCell (p := ⟨w.heap.size + 1 + 1 + 1 + 1, 0, none⟩) (by simp; try omega) _⟩
  case done =>
    rintro D ys W hD rfl ⟨⟨hne, _, _, ⟨hcr, hfr⟩, _⟩, hB⟩ hK
    gi_wp2
    have hK' := (KeepsOthers.setCell W ⟨w.heap.size + 1 + 1 + 1, 0, none⟩ (.int .i64 (-1))).same D _ hK rfl
    refine ⟨by simp, .inl ⟨_, _, rfl, run_takeDeferred hK', ?_⟩⟩
    have hc5 := cell_kept (World.cell?_setCell_same' W ⟨w.heap.size + 1 + 1 + 1, 0, none⟩ (.int .i64 (-1)) (by rw [hcr]; rfl)) (grownBy_putObj' _ D (.deferred none)) (fun r e => by cases e; exact ⟨_, hK', rfl⟩)
    refine ⟨.int .i64 (-1), ?_, by rw [numI_none hne], (hB.setCell (p := ⟨w.heap.size + 1 + 1 + 1, 0, none⟩) (by simp; try omega) _).trans (belowK_b (w := w) (Nat.le_refl _) _ D _ _ (by simp at hD; omega) hK' rfl rfl)⟩
    simp [results, Try.f17, go_sem, hc5]
  case stop =>
    rintro D c pre W hD hpre ⟨⟨rfl, p0, x, rfl, hp0, hx, hcr⟩, hB⟩ hK
    gi_wp2
    refine ⟨by simp, .inl ⟨_, _, rfl, run_takeDeferred hK, ?_⟩⟩
    have hc5 := cell_kept hcr (grownBy_putObj' _ D (.deferred none)) (fun r e => by cases e; exact ⟨_, hK, rfl⟩)
    refine ⟨.int .i64 (p0.length : Int), ?_, by rw [numI_some hpre hp0 hx], hB.trans (belowK_b (w := w) (Nat.le_refl _) W D _ _ (by simp at hD; omega) hK rfl rfl)⟩
    simp [results, Try.f17, go_sem, hc5]

end Go.Proofs.Ytconekaplneejaa
