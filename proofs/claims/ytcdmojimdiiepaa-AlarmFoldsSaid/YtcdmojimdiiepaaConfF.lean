/- Layer 5: how many channels there are. -/
import Derived.Test.YtcdmojimdiiepaaConfE
namespace Go.Proofs.Ytcdmojimdiiepaa
open Go.ChangeShapes Go.WideShapes Go.ChangeAt Go.RowKit Go.Shelf
set_option linter.unusedVariables false
set_option linter.unusedSimpArgs false
attribute [local go_sem] Oper.semAt_some

theorem fold2 (a b : Nat) (u v : Value) (t : Array Value) : Array.foldl (fun t x => t.setIfInBounds x.fst x.snd) t (#[a, b].zip #[u, v]) = (t.setIfInBounds a u).setIfInBounds b v := by
  simp
def confA (c : Cf) (s r : Value) : Array Value := #[.int .i64 c.P, .int .i64 c.H, .int .i64 c.C, .int .i64 c.Mn, .int .i64 c.Mx, .int .i64 c.Rho, .int .i64 c.Bd, .int .i64 c.Win, .int .i64 c.St, s, r]

theorem chan_stops (n : Nat) (hn : 1 ≤ n) (Bc : Nat) (rows : List (List Int)) (w0 wB : World) (sv : Value) (hs : Rows2 w0 sv rows) (hb : Below w0.heap.size w0 wB) (hB : wB.cell? ⟨Bc, 9, none⟩ = some sv) (hBl : Bc < wB.heap.size) :
    SeqStopsK Fence.wide n Try.prog 74 #[.pointer (some ⟨Bc, 0, none⟩)] (fun x : Nat × Nat => #[.int .i64 (x.1 : Int), .int .i64 (x.2 : Int)]) (Below w0.heap.size) (fun ys => ys = chansOf rows) (fun pre => pre <+: chansOf rows) (chansOf rows).length wB :=
  fun l J Jx W hW hJ hJx hY h0 => chan_in n hn l Bc rows w0 sv hs J Jx hY W (hb.trans (hW.mono hb.size)) ((hW.cell (p := ⟨Bc, 9, none⟩) hBl).trans hB) h0

set_option maxHeartbeats 1000000 in
theorem channels_any (c : Cf) (A : Option Addr) (n cp : Nat) (r : Value) (w : World) :
    Calls Try.prog 57 #[.agg (confA c (.slice A n cp) r)] w fun e w' => e = .returned (.func (.func 74) #[] #[.pointer (some ⟨w.heap.size, 0, none⟩)]) ∧ w.alloc (.cells (confA c (.slice A n cp) r) 25) = w' := by
  unfold confA
  go_enter Try.func57, Try.ntmps57
  go_wp2
  go_ret
  exact ⟨rfl, rfl⟩

set_option maxRecDepth 100000 in
set_option maxHeartbeats 4000000 in
theorem many_any (v : Value) (c : Cf) (w : World) (h : IsConf w v c) (hN : (chansOf c.rows).length ≤ 1000000) :
    Calls Try.prog 32 #[v] w fun e w' => e = .returned (.int .i64 ((chansOf c.rows).length : Int)) ∧ Below w.heap.size w w' := by
  obtain ⟨s, r, rfl, hs⟩ := h
  have HS := Lib.hid hs
  obtain ⟨A, cp, rfl, hc, hcm, _⟩ := hs.src
  clear hs
  refine (callsIn_wide (n := 9)).1 ?_
  refine callsIn_of_wp_marks Try.func32 rfl trivial ?_ rfl
  simp only [Try.ntmps32, List.size_toArray, List.length_cons, List.length_nil, Nat.reduceAdd, Nat.reduceSub, Array.replicate_succ, Array.replicate_zero, List.push_toArray, List.append_toArray, List.nil_append, List.cons_append]
  gi_wp2_with (refine ⟨trivial, ?_⟩; gi_at_call 57; refine (callsIn_wide.2 (channels_any c A c.rows.length cp r _)).mono ?_; rintro e w' ⟨rfl, rfl⟩)
  unfold confA
  have bS := (Boxed.new (w.alloc (.cells (confA c (.slice A c.rows.length cp) r) 25)) 3 (.int .i64 0)).alloc (.cells (confA c (.slice A c.rows.length cp) r) 25)
  have hB0 : Below w.heap.size w (((w.alloc (.cells (confA c (.slice A c.rows.length cp) r) 25)).alloc (.cells #[.int .i64 0] 3)).alloc (.cells (confA c (.slice A c.rows.length cp) r) 25)) := ((((Below.refl _ w).alloc (Nat.le_refl _) _).alloc (by simp) _).alloc (by simp; omega) _)
  have hB9 : (((w.alloc (.cells (confA c (.slice A c.rows.length cp) r) 25)).alloc (.cells #[.int .i64 0] 3)).alloc (.cells (confA c (.slice A c.rows.length cp) r) 25)).cell? ⟨w.heap.size + 1 + 1, 9, none⟩ = some (.slice A c.rows.length cp) :=
    (Blk.new ((w.alloc (.cells (confA c (.slice A c.rows.length cp) r) 25)).alloc (.cells #[.int .i64 0] 3)) 25 (confA c (.slice A c.rows.length cp) r) (w.heap.size + 1 + 1) (by simp)).cells 9
  rw [World.size_alloc] at bS
  unfold confA at bS hB0 hB9
  refine wpIn_rangeFunc_ownF rfl (by decide) (gf := 74) (lb := #[.pointer (some ⟨w.heap.size + 1 + 1, 0, none⟩)]) rfl trivial (enters_of Try.func74 (by kernel_rfl) rfl)
    (chan_stops _ (by decide) (w.heap.size + 1 + 1) c.rows w _ _ HS.out hB0 hB9 (by simp)) belowK_t (belowK_b (by simp; omega)) (Below.refl _ _) (fun _ => rfl)
    (fun pre W => (W.cell? ⟨w.heap.size + 1, 0, none⟩ = some (.int .i64 (pre.length : Int)) ∧ W.frozen? ⟨w.heap.size + 1, 0, none⟩ = false) ∧ Below w.heap.size w W)
    (fun _ _ _ => False)
    (OwnFrom.and (Own.from (fun s A B row hs hg hr => ⟨cell_kept hs.1 hg hr, (frozen_kept hs.1 hg hr).trans hs.2⟩) _) (ownFrom_below (Nat.le_refl _) (by simp; omega)))
    (fun _ _ _ _ _ hs _ _ => hs)
    ⟨⟨bS.cell, bS.frozen⟩, hB0⟩
    (fun x => { tmps := #[.agg #[.int .i64 c.P, .int .i64 c.H, .int .i64 c.C, .int .i64 c.Mn, .int .i64 c.Mx, .int .i64 c.Rho, .int .i64 c.Bd, .int .i64 c.Win, .int .i64 c.St, .slice A c.rows.length cp, r], .pointer (some ⟨w.heap.size, 0, none⟩), .int .i64 0, .pointer (some ⟨w.heap.size + 1, 0, none⟩), .agg #[.int .i64 c.P, .int .i64 c.H, .int .i64 c.C, .int .i64 c.Mn, .int .i64 c.Mx, .int .i64 c.Rho, .int .i64 c.Bd, .int .i64 c.Win, .int .i64 c.St, .slice A c.rows.length cp, r], .func (.func 74) #[] #[.pointer (some ⟨w.heap.size + 1 + 1, 0, none⟩)], .int .i64 x.1, .int .i64 x.2, undef, undef, undef], defers := [] }) ?assign ?body ?done ?stop
  case assign =>
    intro l x W K hK
    gi_wp2
    rw [fold2]
    exact hK
  case body =>
    rintro l pre x W ⟨⟨hc, hf⟩, hB⟩ hlt
    have hW : wrap64 ((pre.length : Int) + 1) = (pre.length : Int) + 1 := IntWalk.wrap64_in _ (by omega)
    gi_wp2
    exact ⟨KeepsOthers.setCell _ _ _, (Below.refl w.heap.size W).setCell (p := ⟨w.heap.size + 1, 0, none⟩) (by simp) _, ⟨by rw [World.cell?_setCell_same' _ _ _ (by rw [hc]; rfl)]; simp, by rw [World.frozen?_setCell]; exact hf⟩, hB.setCell (p := ⟨w.heap.size + 1, 0, none⟩) (by simp) _⟩
  case done =>
    rintro D ys W hD rfl ⟨⟨hc, _⟩, hB⟩ hK
    gi_wp2
    refine ⟨by simp, .inl ⟨_, _, rfl, run_takeDeferred hK, ?_⟩⟩
    exact ⟨_, results_tmp rfl _ _ _, rfl, hB.trans (belowK_b (w := w) (Nat.le_refl _) W D _ _ (by simp at hD; omega) hK rfl rfl)⟩
  case stop =>
    rintro D c pre W _ _ h _
    exact h.elim
end Go.Proofs.Ytcdmojimdiiepaa
