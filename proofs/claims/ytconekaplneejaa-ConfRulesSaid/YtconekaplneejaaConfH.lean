/- Layer 5: the channel of a number. -/
import Derived.Test.YtconekaplneejaaConfG
namespace Go.Proofs.Ytconekaplneejaa
open Go.ChangeShapes Go.WideShapes Go.ChangeAt Go.RowKit Go.Shelf
set_option linter.unusedVariables false
set_option linter.unusedSimpArgs false
attribute [local go_sem] Oper.semAt_some

def ofO (L : List (Nat × Nat)) (n : Int) : Bool := decide (0 ≤ n ∧ n < (L.length : Int))
def ofX (L : List (Nat × Nat)) (n : Int) : Nat × Nat := if ofO L n = true then L[n.toNat]?.getD (0, 0) else (0, 0)
theorem of_none {L : List (Nat × Nat)} {n : Int} (H : ∀ i : Nat, i < L.length → (i : Int) ≠ n) : ofO L n = false := by
  refine decide_eq_false fun h => H n.toNat (by omega) (by omega)
theorem of_some {L pre : List (Nat × Nat)} {x : Nat × Nat} {n : Int} (hp : (pre ++ [x]) <+: L) (hn : (pre.length : Int) = n) : ofO L n = true ∧ ofX L n = x := by
  obtain ⟨t, rfl⟩ := hp
  have h1 : ofO (pre ++ [x] ++ t) n = true := decide_eq_true ⟨by omega, by simp; omega⟩
  refine ⟨h1, ?_⟩
  unfold ofX
  rw [if_pos h1, ← hn, Int.toNat_natCast, List.append_assoc, List.getElem?_append_right (Nat.le_refl _), Nat.sub_self]
  rfl

set_option maxRecDepth 100000 in
set_option maxHeartbeats 4000000 in
theorem of_any (v : Value) (c : Cf) (num : Int) (w : World) (h : IsConf w v c) (hN : (chansOf c.rows).length ≤ 1000000) :
    Calls Try.prog 11 #[v, .int .i64 num] w fun e w' => e = .returned (.tuple #[.int .i64 ((ofX (chansOf c.rows) num).1 : Int), .int .i64 ((ofX (chansOf c.rows) num).2 : Int), .bool (ofO (chansOf c.rows) num)]) ∧ Below w.heap.size w w' := by
  obtain ⟨s, r, rfl, hs⟩ := h
  have HS := Lib.hid hs
  obtain ⟨A, cp, rfl, hc, hcm, q1⟩ := hs.src
  clear hs q1
  refine (callsIn_wide (n := 9)).1 ?_
  refine callsIn_of_wp_marks Try.func11 rfl trivial ?_ rfl
  simp only [Try.ntmps11, List.size_toArray, List.length_cons, List.length_nil, Nat.reduceAdd, Nat.reduceSub, Array.replicate_succ, Array.replicate_zero, List.push_toArray, List.append_toArray, List.nil_append, List.cons_append]
  gi_wp2_with (refine ⟨trivial, ?_⟩; gi_at_call 20; refine (callsIn_wide.2 (channels_any c A c.rows.length cp r _)).mono ?_; rintro e w' ⟨rfl, rfl⟩)
  unfold confA
  have b1 := ((((((Boxed.new (w.alloc (.cells #[.int .i64 c.P, .int .i64 c.H, .int .i64 c.C, .int .i64 c.Mn, .int .i64 c.Mx, .int .i64 c.Rho, .int .i64 c.Bd, .int .i64 c.Win, .int .i64 c.St, .slice A c.rows.length cp, r] 25)) 3 (.int .i64 num)).alloc (.cells #[.int .i64 0] 3)).alloc (.cells #[.int .i64 0] 3)).alloc (.cells #[.bool false] 4)).alloc (.cells #[.int .i64 0] 3)).alloc (.cells #[.int .i64 c.P, .int .i64 c.H, .int .i64 c.C, .int .i64 c.Mn, .int .i64 c.Mx, .int .i64 c.Rho, .int .i64 c.Bd, .int .i64 c.Win, .int .i64 c.St, .slice A c.rows.length cp, r] 25))
  have b2 := (((((Boxed.new ((w.alloc (.cells #[.int .i64 c.P, .int .i64 c.H, .int .i64 c.C, .int .i64 c.Mn, .int .i64 c.Mx, .int .i64 c.Rho, .int .i64 c.Bd, .int .i64 c.Win, .int .i64 c.St, .slice A c.rows.length cp, r] 25)).alloc (.cells #[.int .i64 num] 3)) 3 (.int .i64 0)).alloc (.cells #[.int .i64 0] 3)).alloc (.cells #[.bool false] 4)).alloc (.cells #[.int .i64 0] 3)).alloc (.cells #[.int .i64 c.P, .int .i64 c.H, .int .i64 c.C, .int .i64 c.Mn, .int .i64 c.Mx, .int .i64 c.Rho, .int .i64 c.Bd, .int .i64 c.Win, .int .i64 c.St, .slice A c.rows.length cp, r] 25))
  have b3 := ((((Boxed.new (((w.alloc (.cells #[.int .i64 c.P, .int .i64 c.H, .int .i64 c.C, .int .i64 c.Mn, .int .i64 c.Mx, .int .i64 c.Rho, .int .i64 c.Bd, .int .i64 c.Win, .int .i64 c.St, .slice A c.rows.length cp, r] 25)).alloc (.cells #[.int .i64 num] 3)).alloc (.cells #[.int .i64 0] 3)) 3 (.int .i64 0)).alloc (.cells #[.bool false] 4)).alloc (.cells #[.int .i64 0] 3)).alloc (.cells #[.int .i64 c.P, .int .i64 c.H, .int .i64 c.C, .int .i64 c.Mn, .int .i64 c.Mx, .int .i64 c.Rho, .int .i64 c.Bd, .int .i64 c.Win, .int .i64 c.St, .slice A c.rows.length cp, r] 25))
  have b4 := (((Boxed.new ((((w.alloc (.cells #[.int .i64 c.P, .int .i64 c.H, .int .i64 c.C, .int .i64 c.Mn, .int .i64 c.Mx, .int .i64 c.Rho, .int .i64 c.Bd, .int .i64 c.Win, .int .i64 c.St, .slice A c.rows.length cp, r] 25)).alloc (.cells #[.int .i64 num] 3)).alloc (.cells #[.int .i64 0] 3)).alloc (.cells #[.int .i64 0] 3)) 4 (.bool false)).alloc (.cells #[.int .i64 0] 3)).alloc (.cells #[.int .i64 c.P, .int .i64 c.H, .int .i64 c.C, .int .i64 c.Mn, .int .i64 c.Mx, .int .i64 c.Rho, .int .i64 c.Bd, .int .i64 c.Win, .int .i64 c.St, .slice A c.rows.length cp, r] 25))
  have b5 := ((Boxed.new (((((w.alloc (.cells #[.int .i64 c.P, .int .i64 c.H, .int .i64 c.C, .int .i64 c.Mn, .int .i64 c.Mx, .int .i64 c.Rho, .int .i64 c.Bd, .int .i64 c.Win, .int .i64 c.St, .slice A c.rows.length cp, r] 25)).alloc (.cells #[.int .i64 num] 3)).alloc (.cells #[.int .i64 0] 3)).alloc (.cells #[.int .i64 0] 3)).alloc (.cells #[.bool false] 4)) 3 (.int .i64 0)).alloc (.cells #[.int .i64 c.P, .int .i64 c.H, .int .i64 c.C, .int .i64 c.Mn, .int .i64 c.Mx, .int .i64 c.Rho, .int .i64 c.Bd, .int .i64 c.Win, .int .i64 c.St, .slice A c.rows.length cp, r] 25))
  have hB0 : Below w.heap.size w (((((((w.alloc (.cells #[.int .i64 c.P, .int .i64 c.H, .int .i64 c.C, .int .i64 c.Mn, .int .i64 c.Mx, .int .i64 c.Rho, .int .i64 c.Bd, .int .i64 c.Win, .int .i64 c.St, .slice A c.rows.length cp, r] 25)).alloc (.cells #[.int .i64 num] 3)).alloc (.cells #[.int .i64 0] 3)).alloc (.cells #[.int .i64 0] 3)).alloc (.cells #[.bool false] 4)).alloc (.cells #[.int .i64 0] 3)).alloc (.cells #[.int .i64 c.P, .int .i64 c.H, .int .i64 c.C, .int .i64 c.Mn, .int .i64 c.Mx, .int .i64 c.Rho, .int .i64 c.Bd, .int .i64 c.Win, .int .i64 c.St, .slice A c.rows.length cp, r] 25)) := ((((((((Below.refl _ w).alloc (Nat.le_refl _) _).alloc (by simp; try omega) _).alloc (by simp; try omega) _).alloc (by simp; try omega) _).alloc (by simp; try omega) _).alloc (by simp; try omega) _).alloc (by simp; try omega) _)
  have hB9 : (((((((w.alloc (.cells #[.int .i64 c.P, .int .i64 c.H, .int .i64 c.C, .int .i64 c.Mn, .int .i64 c.Mx, .int .i64 c.Rho, .int .i64 c.Bd, .int .i64 c.Win, .int .i64 c.St, .slice A c.rows.length cp, r] 25)).alloc (.cells #[.int .i64 num] 3)).alloc (.cells #[.int .i64 0] 3)).alloc (.cells #[.int .i64 0] 3)).alloc (.cells #[.bool false] 4)).alloc (.cells #[.int .i64 0] 3)).alloc (.cells #[.int .i64 c.P, .int .i64 c.H, .int .i64 c.C, .int .i64 c.Mn, .int .i64 c.Mx, .int .i64 c.Rho, .int .i64 c.Bd, .int .i64 c.Win, .int .i64 c.St, .slice A c.rows.length cp, r] 25)).cell? ⟨w.heap.size + 1 + 1 + 1 + 1 + 1 + 1, 9, none⟩ = some (.slice A c.rows.length cp) := (Blk.new ((((((w.alloc (.cells #[.int .i64 c.P, .int .i64 c.H, .int .i64 c.C, .int .i64 c.Mn, .int .i64 c.Mx, .int .i64 c.Rho, .int .i64 c.Bd, .int .i64 c.Win, .int .i64 c.St, .slice A c.rows.length cp, r] 25)).alloc (.cells #[.int .i64 num] 3)).alloc (.cells #[.int .i64 0] 3)).alloc (.cells #[.int .i64 0] 3)).alloc (.cells #[.bool false] 4)).alloc (.cells #[.int .i64 0] 3)) 25 #[.int .i64 c.P, .int .i64 c.H, .int .i64 c.C, .int .i64 c.Mn, .int .i64 c.Mx, .int .i64 c.Rho, .int .i64 c.Bd, .int .i64 c.Win, .int .i64 c.St, .slice A c.rows.length cp, r] (w.heap.size + 1 + 1 + 1 + 1 + 1 + 1) (by simp)).cells 9
  simp only [World.size_alloc] at b1 b2 b3 b4 b5
  refine wpIn_rangeFunc_ownF rfl (by decide) (gf := 23) (lb := #[.pointer (some ⟨w.heap.size + 1 + 1 + 1 + 1 + 1 + 1, 0, none⟩)]) rfl trivial (enters_of Try.func23 (by kernel_rfl) rfl)
    (chan_stops _ (by decide) (w.heap.size + 1 + 1 + 1 + 1 + 1 + 1) c.rows w _ _ HS.out hB0 hB9 (by simp)) belowK_t (belowK_b (by simp; omega)) (Below.refl _ _) (fun _ => rfl)
    (fun pre W => ((∀ i : Nat, i < pre.length → (i : Int) ≠ num) ∧ W.cell? ⟨w.heap.size + 1, 0, none⟩ = some (.int .i64 num) ∧ (W.cell? ⟨w.heap.size + 1 + 1, 0, none⟩ = some (.int .i64 0) ∧ W.frozen? ⟨w.heap.size + 1 + 1, 0, none⟩ = false) ∧ (W.cell? ⟨w.heap.size + 1 + 1 + 1, 0, none⟩ = some (.int .i64 0) ∧ W.frozen? ⟨w.heap.size + 1 + 1 + 1, 0, none⟩ = false) ∧ (W.cell? ⟨w.heap.size + 1 + 1 + 1 + 1, 0, none⟩ = some (.bool false) ∧ W.frozen? ⟨w.heap.size + 1 + 1 + 1 + 1, 0, none⟩ = false) ∧ (W.cell? ⟨w.heap.size + 1 + 1 + 1 + 1 + 1, 0, none⟩ = some (.int .i64 (pre.length : Int)) ∧ W.frozen? ⟨w.heap.size + 1 + 1 + 1 + 1 + 1, 0, none⟩ = false)) ∧ Below w.heap.size w W)
    (fun k pre W => (k = .ret ∧ ∃ pre0 x, pre = pre0 ++ [x] ∧ (pre0.length : Int) = num ∧ W.cell? ⟨w.heap.size + 1 + 1, 0, none⟩ = some (.int .i64 (x.1 : Int)) ∧ W.cell? ⟨w.heap.size + 1 + 1 + 1, 0, none⟩ = some (.int .i64 (x.2 : Int)) ∧ W.cell? ⟨w.heap.size + 1 + 1 + 1 + 1, 0, none⟩ = some (.bool true)) ∧ Below w.heap.size w W)
    (OwnFrom.and (Own.from (fun s A B row hs hg hr => ⟨hs.1, cell_kept hs.2.1 hg hr, ⟨cell_kept hs.2.2.1.1 hg hr, (frozen_kept hs.2.2.1.1 hg hr).trans hs.2.2.1.2⟩, ⟨cell_kept hs.2.2.2.1.1 hg hr, (frozen_kept hs.2.2.2.1.1 hg hr).trans hs.2.2.2.1.2⟩, ⟨cell_kept hs.2.2.2.2.1.1 hg hr, (frozen_kept hs.2.2.2.2.1.1 hg hr).trans hs.2.2.2.2.1.2⟩, ⟨cell_kept hs.2.2.2.2.2.1 hg hr, (frozen_kept hs.2.2.2.2.2.1 hg hr).trans hs.2.2.2.2.2.2⟩⟩) _) (ownFrom_below (Nat.le_refl _) (by simp; omega)))
    (fun k => OwnFrom.and (Own.from (fun s A B row hs hg hr => ⟨hs.1, by obtain ⟨p0, x, h1, h2, h3, h4, h5⟩ := hs.2; exact ⟨p0, x, h1, h2, cell_kept h3 hg hr, cell_kept h4 hg hr, cell_kept h5 hg hr⟩⟩) _) (ownFrom_below (Nat.le_refl _) (by simp; omega)))
    ⟨⟨by simp, b1.cell, ⟨b2.cell, b2.frozen⟩, ⟨b3.cell, b3.frozen⟩, ⟨b4.cell, b4.frozen⟩, ⟨b5.cell, b5.frozen⟩⟩, hB0⟩
    (fun x => { tmps := #[.agg #[.int .i64 c.P, .int .i64 c.H, .int .i64 c.C, .int .i64 c.Mn, .int .i64 c.Mx, .int .i64 c.Rho, .int .i64 c.Bd, .int .i64 c.Win, .int .i64 c.St, .slice A c.rows.length cp, r], .int .i64 num, .pointer (some ⟨w.heap.size, 0, none⟩), .pointer (some ⟨w.heap.size + 1, 0, none⟩), .pointer (some ⟨w.heap.size + 1 + 1, 0, none⟩), .pointer (some ⟨w.heap.size + 1 + 1 + 1, 0, none⟩), .pointer (some ⟨w.heap.size + 1 + 1 + 1 + 1, 0, none⟩), .pointer (some ⟨w.heap.size + 1 + 1 + 1 + 1 + 1, 0, none⟩), .int .i64 x.1, .int .i64 x.2, .agg #[.int .i64 c.P, .int .i64 c.H, .int .i64 c.C, .int .i64 c.Mn, .int .i64 c.Mx, .int .i64 c.Rho, .int .i64 c.Bd, .int .i64 c.Win, .int .i64 c.St, .slice A c.rows.length cp, r], .func (.func 23) #[] #[.pointer (some ⟨w.heap.size + 1 + 1 + 1 + 1 + 1 + 1, 0, none⟩)], .int .i64 x.1, .int .i64 x.2, undef, undef, undef, undef, undef, undef, undef], defers := [] }) ?assign ?body ?done ?stop
  case assign =>
    intro l x W K hK
    rw [fold2]
    gi_wp2
    exact hK
  case body =>
    rintro l pre x W ⟨⟨hp, hcn0, ⟨h2, f2⟩, ⟨h3, f3⟩, ⟨h4, f4⟩, ⟨hcn, hfn⟩⟩, hB⟩ hlt
    have hW : wrap64 ((pre.length : Int) + 1) = (pre.length : Int) + 1 := IntWalk.wrap64_in _ (by omega)
    have HP := Lib.hid hp
    clear hp
    by_cases g1 : (pre.length : Int) = num
    · have g : ((pre.length : Int) == num) = true := beq_iff_eq.2 g1
      have HG := Lib.hid g1
      clear g1
      gi_wp2
      exact ⟨((KeepsOthers.setCell _ _ _).trans (KeepsOthers.setCell _ _ _)).trans (KeepsOthers.setCell _ _ _), ⟨rfl, pre, x, rfl, HG.out, far (by omega) (far (by omega) (World.cell?_setCell_same' _ _ _ (by rw [h2]; rfl))), far (by omega) (World.cell?_setCell_same' _ _ _ (by rw [far (by omega) h3]; rfl)), World.cell?_setCell_same' _ _ _ (by rw [far (by omega) (far (by omega) h4)]; rfl)⟩, ((hB.setCell (p := ⟨w.heap.size + 1 + 1, 0, none⟩) (by simp; try omega) _).setCell (p := ⟨w.heap.size + 1 + 1 + 1, 0, none⟩) (by simp; try omega) _).setCell (p := ⟨w.heap.size + 1 + 1 + 1 + 1, 0, none⟩) (by simp; try omega) _⟩
    · have g : ((pre.length : Int) == num) = false := beq_false_of_ne g1
      have HG := Lib.hid g1
      clear g1
      gi_wp2
      exact ⟨KeepsOthers.setCell _ _ _, (Below.refl w.heap.size W).setCell (p := ⟨w.heap.size + 1 + 1 + 1 + 1 + 1, 0, none⟩) (by simp; try omega) _, ⟨fun i hi => by
          rcases Nat.lt_or_ge i pre.length with h | h
          · exact HP.out i h
          · have : i = pre.length := by simp at hi; omega
            rw [this]; exact HG.out, far (by omega) hcn0, ⟨far (by omega) h2, by rw [World.frozen?_setCell]; exact f2⟩, ⟨far (by omega) h3, by rw [World.frozen?_setCell]; exact f3⟩, ⟨far (by omega) h4, by rw [World.frozen?_setCell]; exact f4⟩, ⟨by rw [World.cell?_setCell_same' _ _ _ (by rw [hcn]; rfl)]; simp, by rw [World.frozen?_setCell]; exact hfn⟩⟩, hB.setCell (p := ⟨w.heap.size + 1 + 1 + 1 + 1 + 1, 0, none⟩) (by simp; try omega) _⟩
  case done =>
    rintro D ys W hD rfl ⟨⟨hne, _, ⟨h2, f2⟩, ⟨h3, f3⟩, ⟨h4, f4⟩, _⟩, hB⟩ hK
    gi_wp2
    obtain ⟨W3, hW3⟩ : ∃ W3, W3 = ((W.setCell ⟨w.heap.size + 1 + 1, 0, none⟩ (.int .i64 0)).setCell ⟨w.heap.size + 1 + 1 + 1, 0, none⟩ (.int .i64 0)).setCell ⟨w.heap.size + 1 + 1 + 1 + 1, 0, none⟩ (.bool false) := ⟨_, rfl⟩
    have e2 : W3.cell? ⟨w.heap.size + 1 + 1, 0, none⟩ = some (.int .i64 0) := by rw [hW3]; exact far (by omega) (far (by omega) (World.cell?_setCell_same' _ _ _ (by rw [h2]; rfl)))
    have e3 : W3.cell? ⟨w.heap.size + 1 + 1 + 1, 0, none⟩ = some (.int .i64 0) := by rw [hW3]; exact far (by omega) (World.cell?_setCell_same' _ _ _ (by rw [far (by omega) h3]; rfl))
    have e4 : W3.cell? ⟨w.heap.size + 1 + 1 + 1 + 1, 0, none⟩ = some (.bool false) := by rw [hW3]; exact World.cell?_setCell_same' _ _ _ (by rw [far (by omega) (far (by omega) h4)]; rfl)
    have hK' : W3.heap[D]? = some (.deferred (some [])) := by rw [hW3]; exact (((KeepsOthers.setCell _ _ _).trans (KeepsOthers.setCell _ _ _)).trans (KeepsOthers.setCell _ _ _)).same D _ hK rfl
    have hB3 : Below w.heap.size w W3 := by rw [hW3]; exact ((hB.setCell (p := ⟨w.heap.size + 1 + 1, 0, none⟩) (by simp; try omega) _).setCell (p := ⟨w.heap.size + 1 + 1 + 1, 0, none⟩) (by simp; try omega) _).setCell (p := ⟨w.heap.size + 1 + 1 + 1 + 1, 0, none⟩) (by simp; try omega) _
    rw [← hW3]
    clear hW3
    refine ⟨by simp, .inl ⟨_, _, rfl, run_takeDeferred hK', ?_⟩⟩
    have q2 := cell_kept e2 (grownBy_putObj' _ D (.deferred none)) (fun r e => by cases e; exact ⟨_, hK', rfl⟩)
    have q3 := cell_kept e3 (grownBy_putObj' _ D (.deferred none)) (fun r e => by cases e; exact ⟨_, hK', rfl⟩)
    have q4 := cell_kept e4 (grownBy_putObj' _ D (.deferred none)) (fun r e => by cases e; exact ⟨_, hK', rfl⟩)
    have ho := of_none hne
    refine ⟨.tuple #[.int .i64 0, .int .i64 0, .bool false], ?_, by unfold ofX; rw [ho]; rfl, hB3.trans (belowK_b (w := w) (Nat.le_refl _) _ D _ _ (by simp at hD; omega) hK' rfl rfl)⟩
    simp [results, Try.f11, go_sem, q2, q3, q4]
  case stop =>
    rintro D c pre W hD hpre ⟨⟨rfl, p0, x, rfl, hn, h2, h3, h4⟩, hB⟩ hK
    gi_wp2
    refine ⟨by simp, .inl ⟨_, _, rfl, run_takeDeferred hK, ?_⟩⟩
    have q2 := cell_kept h2 (grownBy_putObj' _ D (.deferred none)) (fun r e => by cases e; exact ⟨_, hK, rfl⟩)
    have q3 := cell_kept h3 (grownBy_putObj' _ D (.deferred none)) (fun r e => by cases e; exact ⟨_, hK, rfl⟩)
    have q4 := cell_kept h4 (grownBy_putObj' _ D (.deferred none)) (fun r e => by cases e; exact ⟨_, hK, rfl⟩)
    have ho := of_some hpre hn
    refine ⟨.tuple #[.int .i64 (x.1 : Int), .int .i64 (x.2 : Int), .bool true], ?_, by rw [ho.1, ho.2], hB.trans (belowK_b (w := w) (Nat.le_refl _) W D _ _ (by simp at hD; omega) hK rfl rfl)⟩
    simp [results, Try.f11, go_sem, q2, q3, q4]

end Go.Proofs.Ytconekaplneejaa
