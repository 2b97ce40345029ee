/- Layer 14: the document's order of two. -/
import Derived.Test.YtgklbmhihfmagaaBatchU
import Derived.Test.YtgklbmhihfmagaaBatchD
import Derived.Test.YtgklbmhihfmagaaPackRB
import Derived.Handy
import Derived.IntWalk
namespace Go.Proofs.Ytgklbmhihfmagaa
open Go.ChangeShapes Go.WideShapes Go.ChangeAt Go.RowKit Go.Deep
set_option linter.unusedVariables false
set_option linter.unusedSimpArgs false

set_option maxRecDepth 100000 in
set_option maxHeartbeats 4000000 in
theorem rindex_any (x : TV) (boot seq : Int) (w : World) (h : TkOk x.t) :
    Calls Try.prog 25 #[x.agg, .int .i64 boot, .int .i64 seq] w fun e w' => e = .returned (.tuple #[.int .i64 (kinO x.t boot), .int .i64 (numO x.t boot seq)]) ∧ Below w.heap.size w w' := by
  obtain ⟨⟨on, tb, top, sm⟩, A, c⟩ := x
  obtain ⟨⟨h1, h2⟩, h3⟩ := h
  dsimp only at h1 h2 h3
  unfold TV.agg TV.vs
  dsimp only
  have H3 := Lib.hid h3
  clear h3
  have hw : IntKind.i64.wrap (tb + 1) = tb + 1 := IntWalk.i64_in _ (by omega)
  cases on with
  | false =>
    have e2 : kinO ⟨false, tb, top, sm⟩ boot = 1 := rfl
    have e3 : numO ⟨false, tb, top, sm⟩ boot seq = seq := rfl
    rw [e2, e3]
    clear e2 e3
    go_enter Try.func25, Try.ntmps25
    go_wp2
    go_ret2
    exact ⟨by simp, by go_grown⟩
  | true =>
    have H4 := Lib.hid (H3.out rfl)
    clear H3
    by_cases c1 : boot = tb
    · subst c1
      have e2 : kinO ⟨true, boot, top, sm⟩ boot = 0 := by simp [kinO]
      have e3 : numO ⟨true, boot, top, sm⟩ boot seq = (if nearO top seq = true then near top seq else -1) := by simp [numO, e2]
      rw [e2, e3]
      clear e2 e3
      have hn : nearN top seq = if nearO top seq = true then near top seq else 0 := rfl
      rcases ho : nearO top seq with _ | _
      · have HO := Lib.hid ho
        clear ho hn
        go_enter Try.func25, Try.ntmps25
        go_wp2_with (go_at_call 37; refine (runwrap_any top seq _ H4.out.1 (by have := H4.out.2; omega)).mono ?_; rw [HO.out]; rintro e w' ⟨rfl, rfl⟩)
        go_ret2
        exact ⟨by simp, by go_grown⟩
      · rw [ho, if_pos rfl] at hn
        have HO := Lib.hid ho
        have HN := Lib.hid hn
        clear ho hn
        go_enter Try.func25, Try.ntmps25
        go_wp2_with (go_at_call 37; refine (runwrap_any top seq _ H4.out.1 (by have := H4.out.2; omega)).mono ?_; rw [HO.out, HN.out]; rintro e w' ⟨rfl, rfl⟩)
        go_ret2
        exact ⟨by simp, by go_grown⟩
    · have g1 : (boot == tb) = false := by simpa using c1
      by_cases c2 : boot = (tb + 1) % 256
      · have e2 : kinO ⟨true, tb, top, sm⟩ boot = 1 := by unfold kinO; dsimp only; rw [if_neg (by simp), if_neg c1, if_pos c2]
        have e3 : numO ⟨true, tb, top, sm⟩ boot seq = seq := by unfold numO; rw [e2, if_neg (by decide)]
        rw [e2, e3]
        have g2 : (boot == (tb + 1) % 256) = true := by simpa using c2
        clear e2 e3 c1 c2
        go_enter Try.func25, Try.ntmps25
        go_wp2
        go_ret2
        exact ⟨by simp, by go_grown⟩
      · have e2 : kinO ⟨true, tb, top, sm⟩ boot = 2 := by unfold kinO; dsimp only; rw [if_neg (by simp), if_neg c1, if_neg c2]
        have e3 : numO ⟨true, tb, top, sm⟩ boot seq = seq := by unfold numO; rw [e2, if_neg (by decide)]
        rw [e2, e3]
        have g2 : (boot == (tb + 1) % 256) = false := by simpa using c2
        clear e2 e3 c1 c2
        go_enter Try.func25, Try.ntmps25
        go_wp2
        go_ret2
        exact ⟨by simp, by go_grown⟩
theorem tkok_at2 {ts : List TV} (h : ∀ t ∈ ts, TkOk t.t) (d : Int) : TkOk (tvAt ts d).t := by
  unfold tvAt
  split
  · rw [List.getD_eq_getElem?_getD]
    cases e : ts[d.toNat]? with
    | none => exact tkok_none
    | some t => exact h t (List.mem_of_getElem? e)
  · exact tkok_none
set_option maxRecDepth 100000 in
set_option maxHeartbeats 8000000 in
theorem rahead_any (vt : Value) (ts : List TV) (x y : PV) (w : World) (h0 : TRow w vt ts) (hx : Ints .i64 w x.vs x.p.vals) (hy : Ints .i64 w y.vs y.p.vals) (hrx : x.p.right) (hry : y.p.right) (hT : ∀ t ∈ ts, TkOk t.t) :
    Calls Try.prog 15 #[vt, x.agg, y.agg] w fun e w' => e = .returned (.bool (decide (ahead (ts.map TV.t) x.p y.p))) ∧ Below w.heap.size w w' := by
  have HT := Lib.hid h0
  have HTk := Lib.hid hT
  have HX := Lib.hid (show PkV w x.agg x.p from ⟨x.vs, rfl, hx⟩)
  have HY := Lib.hid (show PkV w y.agg y.p from ⟨y.vs, rfl, hy⟩)
  have HRX := Lib.hid hrx
  have HRY := Lib.hid hry
  have hA : ahead (ts.map TV.t) x.p y.p ↔ x.p.dev < y.p.dev ∨ (x.p.dev = y.p.dev ∧ (kt (ts.map TV.t) x.p < kt (ts.map TV.t) y.p ∨ (kt (ts.map TV.t) x.p = kt (ts.map TV.t) y.p ∧ (nm (ts.map TV.t) x.p < nm (ts.map TV.t) y.p ∨ (nm (ts.map TV.t) x.p = nm (ts.map TV.t) y.p ∧ x.p.data < y.p.data))))) := cmp4_lt
  have HA := Lib.hid hA
  clear hA hx hy hrx hry h0 hT
  obtain ⟨r, hr⟩ : ∃ r, r = decide (ahead (ts.map TV.t) x.p y.p) := ⟨_, rfl⟩
  rw [← hr]
  have HRr := Lib.hid hr
  clear hr
  unfold PV.agg PV.vs
  by_cases c1 : x.p.dev = y.p.dev
  · have g1 : (x.p.dev != y.p.dev) = false := by simpa using c1
    obtain ⟨kx, HKx⟩ : ∃ q, RowKit.Hid (kinO (tvAt ts x.p.dev).t x.p.boot = q ∧ kt (ts.map TV.t) x.p = q) := ⟨_, Lib.hid ⟨rfl, by rw [tvAt_t]; rfl⟩⟩
    obtain ⟨nx, HNx⟩ : ∃ q, RowKit.Hid (numO (tvAt ts x.p.dev).t x.p.boot x.p.seq = q ∧ nm (ts.map TV.t) x.p = q) := ⟨_, Lib.hid ⟨rfl, by rw [tvAt_t]; rfl⟩⟩
    obtain ⟨ky, HKy⟩ : ∃ q, RowKit.Hid (kinO (tvAt ts y.p.dev).t y.p.boot = q ∧ kt (ts.map TV.t) y.p = q) := ⟨_, Lib.hid ⟨rfl, by rw [tvAt_t]; rfl⟩⟩
    obtain ⟨ny, HNy⟩ : ∃ q, RowKit.Hid (numO (tvAt ts y.p.dev).t y.p.boot y.p.seq = q ∧ nm (ts.map TV.t) y.p = q) := ⟨_, Lib.hid ⟨rfl, by rw [tvAt_t]; rfl⟩⟩
    have HC1 := Lib.hid c1
    clear c1
    go_enter Try.func15, Try.ntmps15
    go_wp2_with fail
    refine wp_world (fun W => Below w.heap.size w W ∧ Blk W w.heap.size 31 #[.int .i64 x.p.dev, .int .i64 x.p.chan, .int .i64 x.p.boot, .int .i64 x.p.seq, .int .i64 x.p.stamp, .slice x.A x.p.vals.length x.c] ∧ Blk W (w.heap.size + 1) 31 #[.int .i64 y.p.dev, .int .i64 y.p.chan, .int .i64 y.p.boot, .int .i64 y.p.seq, .int .i64 y.p.stamp, .slice y.A y.p.vals.length y.c]) ⟨by go_grown, (Blk.new _ _ _ _ rfl).al _, Blk.new _ _ _ _ (by simp)⟩ fun W1 ⟨hb, hq, hr⟩ => ?_
    have HB := Lib.hid hb
    have HQ := Lib.hid hq
    have HR := Lib.hid hr
    have e1 : ∀ W, Below W1.heap.size W1 W → ∀ i, W.cell? ⟨w.heap.size, i, none⟩ = (#[.int .i64 x.p.dev, .int .i64 x.p.chan, .int .i64 x.p.boot, .int .i64 x.p.seq, .int .i64 x.p.stamp, .slice x.A x.p.vals.length x.c] : Array Value)[i]? := fun W h => (HQ.out.below h).cells
    have l1 := hq.lt
    clear hb hq hr
    refine wp_region_held_drew (S := fun w' => Below W1.heap.size W1 w') (by kernel_rfl) (by exact (Below.refl _ _).drew) (fun hHeld => ?_)
    refine takeD 0 (some 26) (v := ?_) rfl rfl (by kernel_rfl) (by kernel_rfl) (by kernel_rfl) (fun _ _ _ h => h) (by rfl) ?_ (by assumption) ?_
    rotate_left
    · intro w hSw
      (try dsimp only at hSw)
      go_simp
      try with_reducible rfl
    try simp only [Act.put, List.setIfInBounds_toArray, List.set_cons_zero, List.set_cons_succ]
    refine takeD 1 (some 27) (v := ?_) rfl rfl (by kernel_rfl) (by kernel_rfl) (by kernel_rfl) (fun _ _ _ h => h) (by rfl) ?_ (by assumption) ?_
    rotate_left
    · intro w hSw
      (try dsimp only at hSw)
      go_simp
      try with_reducible rfl
    try simp only [Act.put, List.setIfInBounds_toArray, List.set_cons_zero, List.set_cons_succ]
    refine takeD 2 (some 28) (v := ?_) rfl rfl (by kernel_rfl) (by kernel_rfl) (by kernel_rfl) (fun _ _ _ h => h) (by rfl) ?_ (by assumption) ?_
    rotate_left
    · intro w hSw
      (try dsimp only at hSw)
      go_simp
      try with_reducible rfl
    try simp only [Act.put, List.setIfInBounds_toArray, List.set_cons_zero, List.set_cons_succ]
    refine takeD 4 (some 30) (v := ?_) rfl rfl (by kernel_rfl) (by kernel_rfl) (by kernel_rfl) (fun _ _ _ h => h) (by rfl) ?_ (by assumption) ?_
    rotate_left
    · intro w hSw
      (try dsimp only at hSw)
      go_simp
      try with_reducible rfl
    try simp only [Act.put, List.setIfInBounds_toArray, List.set_cons_zero, List.set_cons_succ]
    refine takeD 5 (some 31) (v := ?_) rfl rfl (by kernel_rfl) (by kernel_rfl) (by kernel_rfl) (fun _ _ _ h => h) (by rfl) ?_ (by assumption) ?_
    rotate_left
    · intro w hSw
      (try dsimp only at hSw)
      go_simp
      try with_reducible rfl
    try simp only [Act.put, List.setIfInBounds_toArray, List.set_cons_zero, List.set_cons_succ]
    refine takeD 6 (some 32) (v := ?_) rfl rfl (by kernel_rfl) (by kernel_rfl) (by kernel_rfl) (fun _ _ _ h => h) (by rfl) ?_ (by assumption) ?_
    rotate_left
    · intro w hSw
      (try dsimp only at hSw)
      go_simp
      try with_reducible rfl
    try simp only [Act.put, List.setIfInBounds_toArray, List.set_cons_zero, List.set_cons_succ]
    refine takeD 7 (some 33) (v := ?_) rfl rfl (by kernel_rfl) (by kernel_rfl) (by kernel_rfl) (fun _ _ _ h => h) (by rfl) ?_ (by assumption) ?_
    rotate_left
    · intro w hSw
      (try dsimp only at hSw)
      go_simp
      try with_reducible rfl
    try simp only [Act.put, List.setIfInBounds_toArray, List.set_cons_zero, List.set_cons_succ]
    refine wpAnyH_ready (rs := [3]) (by kernel_rfl) (by simp) ?_
    refine AllReadyH.cons rfl (fun K hK => ?_) AllReadyH.nil
    rw [if_pos (by rfl)]
    go_simp
    go_at_call 26
    refine (rof_any vt ts _ _ (HT.out.below (HB.out.trans (hHeld.mono HB.out.size)))).mono ?_
    rintro e V1 ⟨rfl, hk⟩
    go_wp2_with fail
    refine hK.out _ _ ?_ (fun hHeld2 => ?_)
    · first | exact hHeld.trans (hk.mono hHeld.size) | (clear hK; have hz := hHeld.size; exact (Below.refl _ _).drew)
    clear hK K hHeld
    have hHeld := hHeld2
    clear hHeld2
    try clear hk
    try simp only [Act.put, List.setIfInBounds_toArray, List.set_cons_zero, List.set_cons_succ]
    refine wpAnyH_ready (rs := [8]) (by kernel_rfl) (by simp) ?_
    refine AllReadyH.cons rfl (fun K hK => ?_) AllReadyH.nil
    rw [if_pos (by rfl)]
    go_simp
    go_at_call 25
    refine (rindex_any (tvAt ts x.p.dev) _ _ _ (tkok_at2 HTk.out _)).mono ?_
    rw [HKx.out.1, HNx.out.1]
    rintro e V2 ⟨rfl, hk⟩
    go_wp2_with fail
    refine hK.out _ _ ?_ (fun hHeld2 => ?_)
    · first | exact hHeld.trans (hk.mono hHeld.size) | (clear hK; have hz := hHeld.size; exact (Below.refl _ _).drew)
    clear hK K hHeld
    have hHeld := hHeld2
    clear hHeld2
    try clear hk
    try simp only [Act.put, List.setIfInBounds_toArray, List.set_cons_zero, List.set_cons_succ]
    refine takeD 9 (some 25) (v := ?_) rfl rfl (by kernel_rfl) (by kernel_rfl) (by kernel_rfl) (fun _ _ _ h => h) (by rfl) ?_ (by assumption) ?_
    rotate_left
    · intro w hSw
      (try dsimp only at hSw)
      go_simp
      try with_reducible rfl
    try simp only [Act.put, List.setIfInBounds_toArray, List.set_cons_zero, List.set_cons_succ]
    refine takeD 10 (some 35) (v := ?_) rfl rfl (by kernel_rfl) (by kernel_rfl) (by kernel_rfl) (fun _ _ _ h => h) (by rfl) ?_ (by assumption) ?_
    rotate_left
    · intro w hSw
      (try dsimp only at hSw)
      go_simp
      try with_reducible rfl
    try simp only [Act.put, List.setIfInBounds_toArray, List.set_cons_zero, List.set_cons_succ]
    refine takeD 11 (some 36) (v := ?_) rfl rfl (by kernel_rfl) (by kernel_rfl) (by kernel_rfl) (fun _ _ _ h => h) (by rfl) ?_ (by assumption) ?_
    rotate_left
    · intro w hSw
      (try dsimp only at hSw)
      go_simp
      try with_reducible rfl
    try simp only [Act.put, List.setIfInBounds_toArray, List.set_cons_zero, List.set_cons_succ]
    refine takeD 12 (some 7) (v := ?_) rfl rfl (by kernel_rfl) (by kernel_rfl) (by kernel_rfl) (fun _ _ _ h => h) (by rfl) ?_ (by assumption) ?_
    rotate_left
    · intro w hSw
      (try dsimp only at hSw)
      go_simp
      try with_reducible rfl
    try simp only [Act.put, List.setIfInBounds_toArray, List.set_cons_zero, List.set_cons_succ]
    refine takeD 13 (some 8) (v := ?_) rfl rfl (by kernel_rfl) (by kernel_rfl) (by kernel_rfl) (fun _ _ _ h => h) (by rfl) ?_ (by assumption) ?_
    rotate_left
    · intro w hSw
      (try dsimp only at hSw)
      go_simp
      try with_reducible rfl
    try simp only [Act.put, List.setIfInBounds_toArray, List.set_cons_zero, List.set_cons_succ]
    refine wpAnyH_done (by kernel_rfl) ?_ _
    have HF := Lib.hid hHeld
    clear hHeld e1 l1
    have HB2 := Lib.hid (Btrans HB.out HF.out)
    have HQ2 := Lib.hid (HQ.out.below HF.out)
    have HR2 := Lib.hid (HR.out.below HF.out)
    clear HB HQ HR HF
    refine nameV (fun W => Below w.heap.size w W ∧ Blk W w.heap.size 31 #[.int .i64 x.p.dev, .int .i64 x.p.chan, .int .i64 x.p.boot, .int .i64 x.p.seq, .int .i64 x.p.stamp, .slice x.A x.p.vals.length x.c] ∧ Blk W (w.heap.size + 1) 31 #[.int .i64 y.p.dev, .int .i64 y.p.chan, .int .i64 y.p.boot, .int .i64 y.p.seq, .int .i64 y.p.stamp, .slice y.A y.p.vals.length y.c]) ⟨HB2.out, HQ2.out, HR2.out⟩ fun W3 ⟨hb, hq, hr⟩ => ?_
    have HB := Lib.hid hb
    have HQ := Lib.hid hq
    have HR := Lib.hid hr
    have e1 : ∀ W, Below W3.heap.size W3 W → ∀ i, W.cell? ⟨w.heap.size + 1, i, none⟩ = (#[.int .i64 y.p.dev, .int .i64 y.p.chan, .int .i64 y.p.boot, .int .i64 y.p.seq, .int .i64 y.p.stamp, .slice y.A y.p.vals.length y.c] : Array Value)[i]? := fun W h => (HR.out.below h).cells
    have l1 := hr.lt
    clear hb hq hr HB2 HQ2 HR2
    go_wp2_with fail
    refine wp_region_held_drew (S := fun w' => Below W3.heap.size W3 w') (by kernel_rfl) (by exact (Below.refl _ _).drew) (fun hHeld => ?_)
    refine takeD 0 (some 38) (v := ?_) rfl rfl (by kernel_rfl) (by kernel_rfl) (by kernel_rfl) (fun _ _ _ h => h) (by rfl) ?_ (by assumption) ?_
    rotate_left
    · intro w hSw
      (try dsimp only at hSw)
      go_simp
      try with_reducible rfl
    try simp only [Act.put, List.setIfInBounds_toArray, List.set_cons_zero, List.set_cons_succ]
    refine takeD 1 (some 39) (v := ?_) rfl rfl (by kernel_rfl) (by kernel_rfl) (by kernel_rfl) (fun _ _ _ h => h) (by rfl) ?_ (by assumption) ?_
    rotate_left
    · intro w hSw
      (try dsimp only at hSw)
      go_simp
      try with_reducible rfl
    try simp only [Act.put, List.setIfInBounds_toArray, List.set_cons_zero, List.set_cons_succ]
    refine takeD 2 (some 40) (v := ?_) rfl rfl (by kernel_rfl) (by kernel_rfl) (by kernel_rfl) (fun _ _ _ h => h) (by rfl) ?_ (by assumption) ?_
    rotate_left
    · intro w hSw
      (try dsimp only at hSw)
      go_simp
      try with_reducible rfl
    try simp only [Act.put, List.setIfInBounds_toArray, List.set_cons_zero, List.set_cons_succ]
    refine takeD 4 (some 42) (v := ?_) rfl rfl (by kernel_rfl) (by kernel_rfl) (by kernel_rfl) (fun _ _ _ h => h) (by rfl) ?_ (by assumption) ?_
    rotate_left
    · intro w hSw
      (try dsimp only at hSw)
      go_simp
      try with_reducible rfl
    try simp only [Act.put, List.setIfInBounds_toArray, List.set_cons_zero, List.set_cons_succ]
    refine takeD 5 (some 43) (v := ?_) rfl rfl (by kernel_rfl) (by kernel_rfl) (by kernel_rfl) (fun _ _ _ h => h) (by rfl) ?_ (by assumption) ?_
    rotate_left
    · intro w hSw
      (try dsimp only at hSw)
      go_simp
      try with_reducible rfl
    try simp only [Act.put, List.setIfInBounds_toArray, List.set_cons_zero, List.set_cons_succ]
    refine takeD 6 (some 44) (v := ?_) rfl rfl (by kernel_rfl) (by kernel_rfl) (by kernel_rfl) (fun _ _ _ h => h) (by rfl) ?_ (by assumption) ?_
    rotate_left
    · intro w hSw
      (try dsimp only at hSw)
      go_simp
      try with_reducible rfl
    try simp only [Act.put, List.setIfInBounds_toArray, List.set_cons_zero, List.set_cons_succ]
    refine takeD 7 (some 45) (v := ?_) rfl rfl (by kernel_rfl) (by kernel_rfl) (by kernel_rfl) (fun _ _ _ h => h) (by rfl) ?_ (by assumption) ?_
    rotate_left
    · intro w hSw
      (try dsimp only at hSw)
      go_simp
      try with_reducible rfl
    try simp only [Act.put, List.setIfInBounds_toArray, List.set_cons_zero, List.set_cons_succ]
    refine wpAnyH_ready (rs := [3]) (by kernel_rfl) (by simp) ?_
    refine AllReadyH.cons rfl (fun K hK => ?_) AllReadyH.nil
    rw [if_pos (by rfl)]
    go_simp
    go_at_call 26
    refine (rof_any vt ts _ _ (HT.out.below (HB.out.trans (hHeld.mono HB.out.size)))).mono ?_
    rintro e V1 ⟨rfl, hk⟩
    go_wp2_with fail
    refine hK.out _ _ ?_ (fun hHeld2 => ?_)
    · first | exact hHeld.trans (hk.mono hHeld.size) | (clear hK; have hz := hHeld.size; exact (Below.refl _ _).drew)
    clear hK K hHeld
    have hHeld := hHeld2
    clear hHeld2
    try clear hk
    try simp only [Act.put, List.setIfInBounds_toArray, List.set_cons_zero, List.set_cons_succ]
    refine wpAnyH_ready (rs := [8]) (by kernel_rfl) (by simp) ?_
    refine AllReadyH.cons rfl (fun K hK => ?_) AllReadyH.nil
    rw [if_pos (by rfl)]
    go_simp
    go_at_call 25
    refine (rindex_any (tvAt ts y.p.dev) _ _ _ (tkok_at2 HTk.out _)).mono ?_
    rw [HKy.out.1, HNy.out.1]
    rintro e V2 ⟨rfl, hk⟩
    go_wp2_with fail
    refine hK.out _ _ ?_ (fun hHeld2 => ?_)
    · first | exact hHeld.trans (hk.mono hHeld.size) | (clear hK; have hz := hHeld.size; exact (Below.refl _ _).drew)
    clear hK K hHeld
    have hHeld := hHeld2
    clear hHeld2
    try clear hk
    try simp only [Act.put, List.setIfInBounds_toArray, List.set_cons_zero, List.set_cons_succ]
    refine takeD 9 (some 37) (v := ?_) rfl rfl (by kernel_rfl) (by kernel_rfl) (by kernel_rfl) (fun _ _ _ h => h) (by rfl) ?_ (by assumption) ?_
    rotate_left
    · intro w hSw
      (try dsimp only at hSw)
      go_simp
      try with_reducible rfl
    try simp only [Act.put, List.setIfInBounds_toArray, List.set_cons_zero, List.set_cons_succ]
    refine takeD 10 (some 47) (v := ?_) rfl rfl (by kernel_rfl) (by kernel_rfl) (by kernel_rfl) (fun _ _ _ h => h) (by rfl) ?_ (by assumption) ?_
    rotate_left
    · intro w hSw
      (try dsimp only at hSw)
      go_simp
      try with_reducible rfl
    try simp only [Act.put, List.setIfInBounds_toArray, List.set_cons_zero, List.set_cons_succ]
    refine takeD 11 (some 48) (v := ?_) rfl rfl (by kernel_rfl) (by kernel_rfl) (by kernel_rfl) (fun _ _ _ h => h) (by rfl) ?_ (by assumption) ?_
    rotate_left
    · intro w hSw
      (try dsimp only at hSw)
      go_simp
      try with_reducible rfl
    try simp only [Act.put, List.setIfInBounds_toArray, List.set_cons_zero, List.set_cons_succ]
    refine takeD 12 (some 9) (v := ?_) rfl rfl (by kernel_rfl) (by kernel_rfl) (by kernel_rfl) (fun _ _ _ h => h) (by rfl) ?_ (by assumption) ?_
    rotate_left
    · intro w hSw
      (try dsimp only at hSw)
      go_simp
      try with_reducible rfl
    try simp only [Act.put, List.setIfInBounds_toArray, List.set_cons_zero, List.set_cons_succ]
    refine takeD 13 (some 10) (v := ?_) rfl rfl (by kernel_rfl) (by kernel_rfl) (by kernel_rfl) (fun _ _ _ h => h) (by rfl) ?_ (by assumption) ?_
    rotate_left
    · intro w hSw
      (try dsimp only at hSw)
      go_simp
      try with_reducible rfl
    try simp only [Act.put, List.setIfInBounds_toArray, List.set_cons_zero, List.set_cons_succ]
    refine wpAnyH_done (by kernel_rfl) ?_ _
    have HF := Lib.hid hHeld
    clear hHeld e1 l1
    have HB2 := Lib.hid (Btrans HB.out HF.out)
    have HQ2 := Lib.hid (HQ.out.below HF.out)
    have HR2 := Lib.hid (HR.out.below HF.out)
    clear HB HQ HR HF
    by_cases c2 : kx = ky
    · have g2 : (kx != ky) = false := by simpa using c2
      have HC2 := Lib.hid c2
      clear c2
      by_cases c3 : nx = ny
      · have g3 : (nx != ny) = false := by simpa using c3
        have HC3 := Lib.hid c3
        clear c3
        have cQ := HQ2.out.cells
        have lQ := HQ2.out.lt
        go_wp2_with fail
        refine (rdata_yes _ x.p _ (HX.out.below HB2.out) HRX.out).mono ?_
        rintro e W5 ⟨u, rfl, hby, hk⟩
        clear cQ lQ
        have HB5 := Lib.hid (Btrans HB2.out hk)
        have HR5 := Lib.hid (HR2.out.below hk)
        obtain ⟨UA, uc, hu, _⟩ := hby.1
        rw [List.length_map] at hu
        subst hu
        have HU := Lib.hid hby
        clear hk HB2 HR2 hby
        have cR := HR5.out.cells
        have lR := HR5.out.lt
        go_wp2_with fail
        refine (rdata_yes _ y.p _ (HY.out.below HB5.out) HRY.out).mono ?_
        rintro e W6 ⟨u, rfl, hby, hk⟩
        clear cR lR
        have HB6 := Lib.hid (Btrans HB5.out hk)
        obtain ⟨VA, vc, hu, _⟩ := hby.1
        rw [List.length_map] at hu
        subst hu
        have q1 := run_conv (P := Try.prog) Try.underlying28 Try.underlying5 Try.underlying9 (HU.out.below hk)
        have q2 := run_conv (P := Try.prog) Try.underlying28 Try.underlying5 Try.underlying9 hby
        have e9 : Op.bytesLess (bstr x.p.data).toList (bstr y.p.data).toList = decide (x.p.data < y.p.data) := by
          rw [bytesLess_iff]
          have a := bl_bstr _ (data_range x.p)
          have b := bl_bstr _ (data_range y.p)
          unfold bl at a b
          rw [a, b]
        clear hby hk HB5 HU
        have HE : RowKit.Hid (r = decide (x.p.data < y.p.data)) := Lib.hid (by
          rw [HRr.out]
          apply decide_eq_decide.2
          rw [HA.out, HKx.out.2, HKy.out.2, HNx.out.2, HNy.out.2, HC1.out, HC2.out, HC3.out]
          simp [Int.lt_irrefl])
        rw [← HE.out] at e9
        go_wp2
        go_ret
        exact ⟨by simp, HB6.out⟩
      · have g3 : (nx != ny) = true := by simpa using c3
        have HC3 := Lib.hid c3
        clear c3
        have HE : RowKit.Hid (r = decide (nx < ny)) := Lib.hid (by
          rw [HRr.out]
          apply decide_eq_decide.2
          rw [HA.out, HKx.out.2, HKy.out.2, HNx.out.2, HNy.out.2, HC1.out, HC2.out]
          have := HC3.out
          simp [Int.lt_irrefl, this])
        go_wp2
        go_ret
        exact ⟨by simp [HE.out], HB2.out⟩
    · have g2 : (kx != ky) = true := by simpa using c2
      have HC2 := Lib.hid c2
      clear c2
      have HE : RowKit.Hid (r = decide (kx < ky)) := Lib.hid (by
        rw [HRr.out]
        apply decide_eq_decide.2
        rw [HA.out, HKx.out.2, HKy.out.2, HC1.out]
        have := HC2.out
        simp [Int.lt_irrefl, this])
      go_wp2
      go_ret
      exact ⟨by simp [HE.out], HB2.out⟩
  · have g1 : (x.p.dev != y.p.dev) = true := by simpa using c1
    have HE : RowKit.Hid (r = decide (x.p.dev < y.p.dev)) := Lib.hid (by
      rw [HRr.out]
      apply decide_eq_decide.2
      rw [HA.out]
      simp [c1])
    clear c1
    go_enter Try.func15, Try.ntmps15
    go_wp2
    go_ret
    exact ⟨by simp [HE.out], by go_grown⟩
end Go.Proofs.Ytgklbmhihfmagaa
