/- Layer 14: whose track. -/
import Derived.Test.YtgklbmhihfmagaaBatchB
import Derived.Test.YtgklbmhihfmagaaMemD
import Derived.Handy
namespace Go.Proofs.Ytgklbmhihfmagaa
open Go.ChangeShapes Go.WideShapes Go.ChangeAt Go.RowKit Go.Deep
set_option linter.unusedVariables false
set_option linter.unusedSimpArgs false

def noneT : TV := ⟨Tk.none, none, 0⟩
def tvAt (l : List TV) (dev : Int) : TV := if 0 ≤ dev then l.getD dev.toNat noneT else noneT
theorem tvAt_t (l : List TV) (dev : Int) : (tvAt l dev).t = tkAt (l.map TV.t) dev := by
  unfold tvAt tkAt
  split
  · rw [List.getD_eq_getElem?_getD, List.getD_eq_getElem?_getD, List.getElem?_map]
    cases l[dev.toNat]? <;> rfl
  · rfl
set_option maxHeartbeats 1000000 in
theorem seenNone_any (w : World) : Calls Try.prog 64 #[] w fun e w' => e = .returned (.agg #[.int .i64 (-1), .slice none 0 0]) ∧ Below w.heap.size w w' := by
  go_enter Try.func64, Try.ntmps64
  go_wp2
  refine bodyPost_ret (v := .agg #[.int .i64 (-1), .slice none 0 0]) (by simp [results, Try.results64, go_sem]) rfl ⟨rfl, by go_grown⟩
set_option maxHeartbeats 1000000 in
theorem rseenNone_any (w : World) : Calls Try.prog 29 #[] w fun e w' => e = .returned (.agg #[.int .i64 (-1), .slice none 0 0]) ∧ Below w.heap.size w w' := by
  go_enter Try.func29, Try.ntmps29
  go_wp2
  refine bodyPost_ret (v := .agg #[.int .i64 (-1), .slice none 0 0]) (by simp [results, Try.results29, go_sem]) rfl ⟨rfl, by go_grown⟩
set_option maxRecDepth 100000 in
set_option maxHeartbeats 1000000 in
theorem trackNone_any (w : World) : Calls Try.prog 45 #[] w fun e w' => e = .returned noneT.agg ∧ Below w.heap.size w w' := by
  unfold TV.agg TV.vs noneT Tk.none
  dsimp only
  go_enter Try.func45, Try.ntmps45
  go_wp2_with fail
  refine calls_world (fun W => Below w.heap.size w W ∧ Blk W w.heap.size 40 #[.bool false, .int .i64 0, .int .i64 0, .slice none 0 0]) ⟨by go_grown, Blk.new _ _ _ _ rfl⟩ fun W1 ⟨hb, hq⟩ => ?_
  refine (seenNone_any W1).mono ?_
  rintro e W2 ⟨rfl, hk⟩
  have HB := Lib.hid (Btrans hb hk)
  have HQ := Lib.hid (hq.below hk)
  clear hb hq hk
  have hx := HQ.out.cells
  have hf := HQ.out.froz
  have hl := HQ.out.lt
  go_wp2
  refine bodyPost_ret (v := .agg #[.bool false, .int .i64 0, .int .i64 (-1), .slice none 0 0]) (by simp [results, Try.results45, go_sem, hx]) rfl ⟨by simp, ?_⟩
  exact ((((HB.out.setCell (p := ⟨w.heap.size, 0, none⟩) (Nat.le_refl _) _).setCell (p := ⟨w.heap.size, 1, none⟩) (Nat.le_refl _) _).setCell (p := ⟨w.heap.size, 2, none⟩) (Nat.le_refl _) _).setCell (p := ⟨w.heap.size, 3, none⟩) (Nat.le_refl _) _)
set_option maxRecDepth 100000 in
set_option maxHeartbeats 1000000 in
theorem rtrackNone_any (w : World) : Calls Try.prog 17 #[] w fun e w' => e = .returned noneT.agg ∧ Below w.heap.size w w' := by
  unfold TV.agg TV.vs noneT Tk.none
  dsimp only
  go_enter Try.func17, Try.ntmps17
  go_wp2_with fail
  refine calls_world (fun W => Below w.heap.size w W ∧ Blk W w.heap.size 40 #[.bool false, .int .i64 0, .int .i64 0, .slice none 0 0]) ⟨by go_grown, Blk.new _ _ _ _ rfl⟩ fun W1 ⟨hb, hq⟩ => ?_
  refine (rseenNone_any W1).mono ?_
  rintro e W2 ⟨rfl, hk⟩
  have HB := Lib.hid (Btrans hb hk)
  have HQ := Lib.hid (hq.below hk)
  clear hb hq hk
  have hx := HQ.out.cells
  have hf := HQ.out.froz
  have hl := HQ.out.lt
  go_wp2
  refine bodyPost_ret (v := .agg #[.bool false, .int .i64 0, .int .i64 (-1), .slice none 0 0]) (by simp [results, Try.results17, go_sem, hx]) rfl ⟨by simp, ?_⟩
  exact ((((HB.out.setCell (p := ⟨w.heap.size, 0, none⟩) (Nat.le_refl _) _).setCell (p := ⟨w.heap.size, 1, none⟩) (Nat.le_refl _) _).setCell (p := ⟨w.heap.size, 2, none⟩) (Nat.le_refl _) _).setCell (p := ⟨w.heap.size, 3, none⟩) (Nat.le_refl _) _)
set_option maxRecDepth 100000 in
set_option maxHeartbeats 2000000 in
theorem trackOf_any (vt : Value) (ts : List TV) (dev : Int) (w : World) (h : TRow w vt ts) :
    Calls Try.prog 34 #[vt, .int .i64 dev] w fun e w' => e = .returned (tvAt ts dev).agg ∧ Below w.heap.size w w' := by
  obtain ⟨A, c, rfl⟩ := h.1
  have hcap := h.2.1.caps
  unfold maxLen at hcap
  by_cases hd : dev < 0
  · have e : tvAt ts dev = noneT := by unfold tvAt; rw [if_neg (by omega)]
    rw [e]
    clear h e
    unfold noneT TV.agg TV.vs Tk.none
    dsimp only
    go_enter Try.func34, Try.ntmps34
    go_wp2_with fail
    refine calls_world (fun W => Below w.heap.size w W ∧ Blk W w.heap.size 40 #[.bool false, .int .i64 0, .int .i64 0, .slice none 0 0]) ⟨by go_grown, Blk.new _ _ _ _ rfl⟩ fun W1 ⟨hb, hq⟩ => ?_
    refine (trackNone_any W1).mono ?_
    unfold noneT TV.agg TV.vs Tk.none
    rintro e W2 ⟨rfl, hk⟩
    have HB := Lib.hid (Btrans hb hk)
    have HQ := Lib.hid (hq.below hk)
    clear hb hq hk
    have hx := HQ.out.cells
    have hf := HQ.out.froz
    have hl := HQ.out.lt
    go_wp2
    refine bodyPost_ret (v := .agg #[.bool false, .int .i64 0, .int .i64 (-1), .slice none 0 0]) (by simp [results, Try.results34, go_sem, hx]) rfl ⟨by simp, ?_⟩
    exact ((((HB.out.setCell (p := ⟨w.heap.size, 0, none⟩) (Nat.le_refl _) _).setCell (p := ⟨w.heap.size, 1, none⟩) (Nat.le_refl _) _).setCell (p := ⟨w.heap.size, 2, none⟩) (Nat.le_refl _) _).setCell (p := ⟨w.heap.size, 3, none⟩) (Nat.le_refl _) _)
  · by_cases hl : (ts.length : Int) ≤ dev
    · have e : tvAt ts dev = noneT := by unfold tvAt; rw [if_pos (by omega), List.getD_eq_getElem?_getD, List.getElem?_eq_none (by omega)]; rfl
      rw [e]
      clear h e
      unfold noneT TV.agg TV.vs Tk.none
      dsimp only
      go_enter Try.func34, Try.ntmps34
      go_wp2_with fail
      refine calls_world (fun W => Below w.heap.size w W ∧ Blk W w.heap.size 40 #[.bool false, .int .i64 0, .int .i64 0, .slice none 0 0]) ⟨by go_grown, Blk.new _ _ _ _ rfl⟩ fun W1 ⟨hb, hq⟩ => ?_
      refine (trackNone_any W1).mono ?_
      unfold noneT TV.agg TV.vs Tk.none
      rintro e W2 ⟨rfl, hk⟩
      have HB := Lib.hid (Btrans hb hk)
      have HQ := Lib.hid (hq.below hk)
      clear hb hq hk
      have hx := HQ.out.cells
      have hf := HQ.out.froz
      have hl := HQ.out.lt
      go_wp2
      refine bodyPost_ret (v := .agg #[.bool false, .int .i64 0, .int .i64 (-1), .slice none 0 0]) (by simp [results, Try.results34, go_sem, hx]) rfl ⟨by simp, ?_⟩
      exact ((((HB.out.setCell (p := ⟨w.heap.size, 0, none⟩) (Nat.le_refl _) _).setCell (p := ⟨w.heap.size, 1, none⟩) (Nat.le_refl _) _).setCell (p := ⟨w.heap.size, 2, none⟩) (Nat.le_refl _) _).setCell (p := ⟨w.heap.size, 3, none⟩) (Nat.le_refl _) _)
    · obtain ⟨k, rfl⟩ : ∃ k : Nat, dev = (k : Int) := ⟨dev.toNat, by omega⟩
      have hk : k < ts.length := by omega
      obtain ⟨x, hx⟩ : ∃ x, ts[k]? = some x := ⟨_, List.getElem?_eq_getElem hk⟩
      have e : tvAt ts (k : Int) = x := by unfold tvAt; rw [if_pos (by omega), Int.toNat_natCast, List.getD_eq_getElem?_getD, hx]; rfl
      rw [e]
      obtain ⟨ad, rfl, _, hb, c0, c1, c2, c3⟩ := h.atw hx
      have hg1 : (k : Int) < (ts.length : Int) := by omega
      clear e hx h hl
      obtain ⟨⟨on, bo, to, so⟩, A, c'⟩ := x
      unfold TV.agg TV.vs at *
      dsimp only at *
      have hal : Below w.heap.size w (w.alloc (.cells #[.bool false, .int .i64 0, .int .i64 0, .slice none 0 0] 40)) := by go_grown
      have k0 := (hal.cell hb).trans c0
      have k1 := (hal.cell (p := ⟨(ad.add (k * 4)).block, (ad.add (k * 4)).off + 1, none⟩) hb).trans c1
      have k2 := (hal.cell (p := ⟨(ad.add (k * 4)).block, (ad.add (k * 4)).off + 2, none⟩) hb).trans c2
      have k3 := (hal.cell (p := ⟨(ad.add (k * 4)).block, (ad.add (k * 4)).off + 3, none⟩) hb).trans c3
      clear c0 c1 c2 c3 hal
      go_enter Try.func34, Try.ntmps34
      go_wp2
      refine bodyPost_ret (v := .agg #[.bool on, .int .i64 bo, .int .i64 to, .slice A so.length c']) (by simp [results, Try.results34, go_sem]) rfl ⟨by simp, by go_grown⟩
set_option maxRecDepth 100000 in
set_option maxHeartbeats 2000000 in
theorem rof_any (vt : Value) (ts : List TV) (dev : Int) (w : World) (h : TRow w vt ts) :
    Calls Try.prog 26 #[vt, .int .i64 dev] w fun e w' => e = .returned (tvAt ts dev).agg ∧ Below w.heap.size w w' := by
  obtain ⟨A, c, rfl⟩ := h.1
  have hcap := h.2.1.caps
  unfold maxLen at hcap
  by_cases hd : dev < 0
  · have e : tvAt ts dev = noneT := by unfold tvAt; rw [if_neg (by omega)]
    rw [e]
    clear h e
    unfold noneT TV.agg TV.vs Tk.none
    dsimp only
    go_enter Try.func26, Try.ntmps26
    go_wp2_with fail
    refine calls_world (fun W => Below w.heap.size w W ∧ Blk W w.heap.size 40 #[.bool false, .int .i64 0, .int .i64 0, .slice none 0 0]) ⟨by go_grown, Blk.new _ _ _ _ rfl⟩ fun W1 ⟨hb, hq⟩ => ?_
    refine (rtrackNone_any W1).mono ?_
    unfold noneT TV.agg TV.vs Tk.none
    rintro e W2 ⟨rfl, hk⟩
    have HB := Lib.hid (Btrans hb hk)
    have HQ := Lib.hid (hq.below hk)
    clear hb hq hk
    have hx := HQ.out.cells
    have hf := HQ.out.froz
    have hl := HQ.out.lt
    go_wp2
    refine bodyPost_ret (v := .agg #[.bool false, .int .i64 0, .int .i64 (-1), .slice none 0 0]) (by simp [results, Try.results26, go_sem, hx]) rfl ⟨by simp, ?_⟩
    exact ((((HB.out.setCell (p := ⟨w.heap.size, 0, none⟩) (Nat.le_refl _) _).setCell (p := ⟨w.heap.size, 1, none⟩) (Nat.le_refl _) _).setCell (p := ⟨w.heap.size, 2, none⟩) (Nat.le_refl _) _).setCell (p := ⟨w.heap.size, 3, none⟩) (Nat.le_refl _) _)
  · by_cases hl : (ts.length : Int) ≤ dev
    · have e : tvAt ts dev = noneT := by unfold tvAt; rw [if_pos (by omega), List.getD_eq_getElem?_getD, List.getElem?_eq_none (by omega)]; rfl
      rw [e]
      clear h e
      unfold noneT TV.agg TV.vs Tk.none
      dsimp only
      go_enter Try.func26, Try.ntmps26
      go_wp2_with fail
      refine calls_world (fun W => Below w.heap.size w W ∧ Blk W w.heap.size 40 #[.bool false, .int .i64 0, .int .i64 0, .slice none 0 0]) ⟨by go_grown, Blk.new _ _ _ _ rfl⟩ fun W1 ⟨hb, hq⟩ => ?_
      refine (rtrackNone_any W1).mono ?_
      unfold noneT TV.agg TV.vs Tk.none
      rintro e W2 ⟨rfl, hk⟩
      have HB := Lib.hid (Btrans hb hk)
      have HQ := Lib.hid (hq.below hk)
      clear hb hq hk
      have hx := HQ.out.cells
      have hf := HQ.out.froz
      have hl := HQ.out.lt
      go_wp2
      refine bodyPost_ret (v := .agg #[.bool false, .int .i64 0, .int .i64 (-1), .slice none 0 0]) (by simp [results, Try.results26, go_sem, hx]) rfl ⟨by simp, ?_⟩
      exact ((((HB.out.setCell (p := ⟨w.heap.size, 0, none⟩) (Nat.le_refl _) _).setCell (p := ⟨w.heap.size, 1, none⟩) (Nat.le_refl _) _).setCell (p := ⟨w.heap.size, 2, none⟩) (Nat.le_refl _) _).setCell (p := ⟨w.heap.size, 3, none⟩) (Nat.le_refl _) _)
    · obtain ⟨k, rfl⟩ : ∃ k : Nat, dev = (k : Int) := ⟨dev.toNat, by omega⟩
      have hk : k < ts.length := by omega
      obtain ⟨x, hx⟩ : ∃ x, ts[k]? = some x := ⟨_, List.getElem?_eq_getElem hk⟩
      have e : tvAt ts (k : Int) = x := by unfold tvAt; rw [if_pos (by omega), Int.toNat_natCast, List.getD_eq_getElem?_getD, hx]; rfl
      rw [e]
      obtain ⟨ad, rfl, _, hb, c0, c1, c2, c3⟩ := h.atw hx
      have hg1 : (k : Int) < (ts.length : Int) := by omega
      clear e hx h hl
      obtain ⟨⟨on, bo, to, so⟩, A, c'⟩ := x
      unfold TV.agg TV.vs at *
      dsimp only at *
      have hal : Below w.heap.size w (w.alloc (.cells #[.bool false, .int .i64 0, .int .i64 0, .slice none 0 0] 40)) := by go_grown
      have k0 := (hal.cell hb).trans c0
      have k1 := (hal.cell (p := ⟨(ad.add (k * 4)).block, (ad.add (k * 4)).off + 1, none⟩) hb).trans c1
      have k2 := (hal.cell (p := ⟨(ad.add (k * 4)).block, (ad.add (k * 4)).off + 2, none⟩) hb).trans c2
      have k3 := (hal.cell (p := ⟨(ad.add (k * 4)).block, (ad.add (k * 4)).off + 3, none⟩) hb).trans c3
      clear c0 c1 c2 c3 hal
      go_enter Try.func26, Try.ntmps26
      go_wp2
      refine bodyPost_ret (v := .agg #[.bool on, .int .i64 bo, .int .i64 to, .slice A so.length c']) (by simp [results, Try.results26, go_sem]) rfl ⟨by simp, by go_grown⟩
end Go.Proofs.Ytgklbmhihfmagaa
