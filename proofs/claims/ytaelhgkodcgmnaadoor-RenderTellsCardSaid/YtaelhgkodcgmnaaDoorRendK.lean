/- Layer 23: cells of a line. -/
import Derived.Test.YtaelhgkodcgmnaaDoorRendJ
import Derived.WalkSmall
import Derived.IntWalk
namespace Go.Proofs.YtaelhgkodcgmnaaDoor
open Go.ChangeShapes Go.WideShapes Go.ChangeAt Go.RowKit Go.Deep
open Go.Shelf
set_option linter.unusedVariables false
set_option linter.unusedSimpArgs false

open Go.Sort (grow)
theorem Env.lt {w : World} (h : Env w) : 3 < w.heap.size := by
  have h1 := h.tab.cell (g := 3) (by kernel_rfl) 0 (by decide)
  exact lt_of_cell h1
theorem Env.keep {w w' : World} {B : Nat} (h : Env w) (hb : Below B w w') (hB : 3 < B) : Env w' := by
  obtain ⟨h1, ⟨a, b, h2⟩, ⟨c, d, h3⟩, m, h4⟩ := h
  exact ⟨var?_below hb (g := 3) (by kernel_rfl) hB h1, ⟨a, b, var?_below hb (g := 1) (by kernel_rfl) (by omega) h2⟩, ⟨c, d, var?_below hb (g := 2) (by kernel_rfl) (by omega) h3⟩, m, (hb.cell (p := ⟨0, 0, none⟩) (by show (0 : Nat) < B; omega)).trans h4⟩
theorem nameV {K : Act → World → Prop} {a : Act} {W0 : World} (R : World → Prop) (h0 : R W0) (h : ∀ W, R W → K a W) : K a W0 := h _ h0
theorem others_of_below {w w' : World} {b : Nat} (h : Below w.heap.size w w') : Lib.OthersKept 5 (some b) w w' := fun k o hk _ _ => (h.block k (Array.getElem?_eq_some_iff.1 hk).1).trans hk
theorem below_grow (w : World) (k : Nat) (os : Array Obj) : Below w.heap.size w (grow (w.drewN k) os) := by
  refine ⟨rfl, rfl, rfl, ?_, fun i hi => ?_⟩
  · simp [grow]
  · show (w.heap ++ os)[i]? = w.heap[i]?
    exact Array.getElem?_append_left hi
def strB (l : Str) : ByteArray := ⟨l.toArray⟩
theorem strB_data (l : Str) : (strB l).data.toList = l := by simp [strB]
/-- Itoa -/
theorem itoa_any (n : Int) (w : World) (hn : in64 n) (hE : Env w) :
    Calls Tryd.prog 28 #[.int .i64 n] w fun e w' => e = .returned (.string (strB (Lib.itoa n))) ∧ Below w.heap.size w w' := by
  refine (Tryd.strconv_Itoa n hn.1 hn.2 w hE.tab).mono ?_
  rintro e w' ⟨rfl, k, os, rfl⟩
  exact ⟨rfl, below_grow w k os⟩
set_option maxRecDepth 100000 in
set_option maxHeartbeats 4000000 in
theorem cell_any (B b : Nat) (l : Str) (c : Cl) (w : World) (h : IsWr B b (Lib.byteCells l) w) (hr : clR c) (h6 : cl64 c) (hE : Env w) (hB : 3 < B) (hBw : B ≤ w.heap.size) (hlen : l.length ≤ 549755813888) :
    Calls Tryd.prog 29 #[.pointer (some ⟨b, 0, none⟩), .agg #[.int .i64 c.kind, .int .i64 c.v, .int .i64 c.fr]] w fun e w' => e = .returned (.tuple #[]) ∧ IsWr B b (Lib.byteCells (sep l ++ clW c)) w' ∧ Below B w w' ∧ Lib.OthersKept 5 (some b) w w' := by
  obtain ⟨kd, xv, xf⟩ := c
  obtain ⟨⟨h1, h2⟩, h3⟩ := hr
  dsimp only at h1 h2 h3 ⊢
  have hk : kd = 1 ∨ kd = 2 ∨ kd = 3 ∨ kd = 4 := by omega
  have H0 := Lib.hid h
  have HE := Lib.hid hE
  have H6 := Lib.hid h6
  have HL := Lib.hid hlen
  have hbl := h.lt
  clear h hE h6 h1 h2 hlen
  rcases hk with rfl | rfl | rfl | rfl
  · clear h3
    go_enter Tryd.func29, Tryd.ntmps29
    go_wp2_with fail
    refine wp_world (fun W => Below w.heap.size w W ∧ Blk W w.heap.size 44 #[.int .i64 1, .int .i64 xv, .int .i64 xf]) ⟨by go_grown, Blk.new _ _ _ _ rfl⟩ fun U ⟨hu, hq⟩ => ?_
    have HUB := Lib.hid hu
    have HWU := Lib.hid (H0.out.below hu)
    have HEU := Lib.hid (HE.out.below hu)
    have hBU : B ≤ U.heap.size := Nat.le_trans hBw hu.size
    have HCAT := Lib.hid (show catB [(({ data := #[118, 109, 117, 114] } : ByteArray).extract 0 1), strB (Lib.itoa xv), ⟨#[64]⟩, strB (Lib.itoa xf)] = clW ⟨1, xv, xf⟩ by
      have e : ((({ data := #[118, 109, 117, 114] } : ByteArray).extract 0 1) : ByteArray).data.toList = [118] := by decide +kernel
      simp [catB, e, strB_data, clW])
    have HCL := Lib.hid (show (clW ⟨1, xv, xf⟩).length ≤ 44 by
      have h1 := Lib.itoa_length_le xv H6.out.1.1 H6.out.1.2
      have h2 := Lib.itoa_length_le xf H6.out.2.1 H6.out.2.2
      simp [clW]
      omega)
    have e1 : ∀ W, (Below B U W ∧ Lib.OthersKept 5 (some b) U W) → ∀ i, W.cell? ⟨w.heap.size, i, none⟩ = (#[.int .i64 1, .int .i64 xv, .int .i64 xf] : Array Value)[i]? := fun W h => (Blk.others hq h.2 (by omega) (by decide)).cells
    clear hu hq H0 HE
    refine wp_region_held_drew (S := fun W => Below B U W ∧ Lib.OthersKept 5 (some b) U W) (by kernel_rfl) (⟨(Below.refl _ _).drew, (Lib.OthersKept.refl _ _ _).drew⟩) (fun hHeld => ?_)
    refine takeD 0 (some 18) (v := ?_) rfl rfl (by kernel_rfl) (by kernel_rfl) (by kernel_rfl) (fun _ _ _ h => h) (by rfl) ?_ (by assumption) ?_
    rotate_left
    · intro w hSw
      (try dsimp only at hSw)
      go_simp
      try with_reducible rfl
    try simp only [Act.put, List.setIfInBounds_toArray, List.set_cons_zero, List.set_cons_succ]
    refine takeD 1 (some 19) (v := ?_) rfl rfl (by kernel_rfl) (by kernel_rfl) (by kernel_rfl) (fun _ _ _ h => h) (by rfl) ?_ (by assumption) ?_
    rotate_left
    · intro w hSw
      (try dsimp only at hSw)
      go_simp
      try with_reducible rfl
    try simp only [Act.put, List.setIfInBounds_toArray, List.set_cons_zero, List.set_cons_succ]
    refine takeD 2 (some 20) (v := ?_) rfl rfl (by kernel_rfl) (by kernel_rfl) (by kernel_rfl) (fun _ _ _ h => h) (by rfl) ?_ (by assumption) ?_
    rotate_left
    · intro w hSw
      (try dsimp only at hSw)
      go_simp
      try with_reducible rfl
    try simp only [Act.put, List.setIfInBounds_toArray, List.set_cons_zero, List.set_cons_succ]
    refine takeD 3 (some 21) (v := ?_) rfl rfl (by kernel_rfl) (by kernel_rfl) (by kernel_rfl) (fun _ _ _ h => h) (by rfl) ?_ (by assumption) ?_
    rotate_left
    · intro w hSw
      (try dsimp only at hSw)
      go_simp
      try with_reducible rfl
    try simp only [Act.put, List.setIfInBounds_toArray, List.set_cons_zero, List.set_cons_succ]
    refine takeD 5 (some 23) (v := ?_) rfl rfl (by kernel_rfl) (by kernel_rfl) (by kernel_rfl) (fun _ _ _ h => h) (by rfl) ?_ (by assumption) ?_
    rotate_left
    · intro w hSw
      (try dsimp only at hSw)
      go_simp
      try with_reducible rfl
    try simp only [Act.put, List.setIfInBounds_toArray, List.set_cons_zero, List.set_cons_succ]
    refine takeD 6 (some 24) (v := ?_) rfl rfl (by kernel_rfl) (by kernel_rfl) (by kernel_rfl) (fun _ _ _ h => h) (by rfl) ?_ (by assumption) ?_
    rotate_left
    · intro w hSw
      (try dsimp only at hSw)
      go_simp
      try with_reducible rfl
    try simp only [Act.put, List.setIfInBounds_toArray, List.set_cons_zero, List.set_cons_succ]
    refine wpAnyH_ready (rs := [4]) (by kernel_rfl) (by simp) ?_
    refine AllReadyH.cons rfl (fun K hK => ?_) AllReadyH.nil
    rw [if_pos (by rfl)]
    go_simp
    go_at_call 28
    refine (itoa_any xv _ H6.out.1 (HEU.out.keep hHeld.1 hB)).mono ?_
    rintro e V1 ⟨rfl, hk⟩
    have HW1 := Lib.hid (IsWr.below (show IsWr B b (Lib.byteCells l) U.drew from HWU.out) hk)
    have hS : Below B U V1 ∧ Lib.OthersKept 5 (some b) U V1 := ⟨hHeld.1.trans (hk.mono (Nat.le_trans hBU hHeld.1.size)), hHeld.2.trans (others_of_below hk)⟩
    clear hk
    go_wp2_with fail
    refine hK.out _ _ ?_ (fun hHeld2 => ?_)
    · clear hK; exact hS
    clear hK K hHeld hS
    have hHeld := hHeld2
    clear hHeld2
    try simp only [Act.put, List.setIfInBounds_toArray, List.set_cons_zero, List.set_cons_succ]
    refine wpAnyH_ready (rs := [7]) (by kernel_rfl) (by simp) ?_
    refine AllReadyH.cons rfl (fun K hK => ?_) AllReadyH.nil
    rw [if_pos (by rfl)]
    go_simp
    go_at_call 28
    refine (itoa_any xf _ H6.out.2 (HEU.out.keep hHeld.1 hB)).mono ?_
    rintro e V2 ⟨rfl, hk⟩
    have HW2 := Lib.hid (IsWr.below HW1.out hk)
    have hS : Below B U V2 ∧ Lib.OthersKept 5 (some b) U V2 := ⟨hHeld.1.trans (hk.mono (Nat.le_trans hBU hHeld.1.size)), hHeld.2.trans (others_of_below hk)⟩
    clear hk HW1
    go_wp2_with fail
    refine hK.out _ _ ?_ (fun hHeld2 => ?_)
    · clear hK; exact hS
    clear hK K hHeld hS
    have hHeld := hHeld2
    clear hHeld2
    try simp only [Act.put, List.setIfInBounds_toArray, List.set_cons_zero, List.set_cons_succ]
    refine wpAnyH_ready (rs := [8]) (by kernel_rfl) (by simp) ?_
    refine AllReadyH.cons rfl (fun K hK => ?_) AllReadyH.nil
    rw [if_pos (by rfl)]
    go_simp
    refine nameV (fun V3 => Below V2.heap.size V2 V3 ∧ Blk V3 V2.heap.size 9 (List.map Value.string [(({ data := #[118, 109, 117, 114] } : ByteArray).extract 0 1), strB (Lib.itoa xv), ⟨#[64]⟩, strB (Lib.itoa xf)]).toArray) ⟨(Below.refl _ _).alloc (Nat.le_refl _) _, Blk.new _ _ _ _ rfl⟩ fun V3 ⟨hk, hq3⟩ => ?_
    have HW3 := Lib.hid (IsWr.below HW2.out hk)
    have HQ3 := Lib.hid hq3
    have hbV : b < V2.heap.size := HW2.out.lt
    have hBV : B ≤ V3.heap.size := Nat.le_trans (Nat.le_trans hBU hHeld.1.size) hk.size
    have hS : Below B U V3 ∧ Lib.OthersKept 5 (some b) U V3 := ⟨hHeld.1.trans (hk.mono (Nat.le_trans hBU hHeld.1.size)), hHeld.2.trans (others_of_below hk)⟩
    clear hk hq3 HW2
    refine hK.out _ _ ?_ (fun hHeld2 => ?_)
    · clear hK; exact hS
    clear hK K hHeld hS
    have hHeld := hHeld2
    clear hHeld2
    try simp only [Act.put, List.setIfInBounds_toArray, List.set_cons_zero, List.set_cons_succ]
    refine wpAnyH_ready (rs := [9]) (by kernel_rfl) (by simp) ?_
    refine AllReadyH.cons rfl (fun K hK => ?_) AllReadyH.nil
    rw [if_pos (by rfl)]
    go_simp
    go_at_call 27
    refine (word_any B b V2.heap.size l [(({ data := #[118, 109, 117, 114] } : ByteArray).extract 0 1), strB (Lib.itoa xv), ⟨#[64]⟩, strB (Lib.itoa xf)] _ HW3.out HQ3.out (by omega) (by rw [HCAT.out]; have := HL.out; have := HCL.out; omega) hBV (by simp)).mono ?_
    rintro e V4 ⟨rfl, hI, hb1, hk⟩
    rw [HCAT.out] at hI
    have HI := Lib.hid hI
    have hS : Below B U V4 ∧ Lib.OthersKept 5 (some b) U V4 := ⟨hHeld.1.trans hb1, hHeld.2.trans hk⟩
    clear hI hb1 hk
    go_wp2_with fail
    refine hK.out _ _ ?_ (fun hHeld2 => ?_)
    · clear hK; exact hS
    clear hK K hHeld hS
    have hHeld := hHeld2
    clear hHeld2
    try simp only [Act.put, List.setIfInBounds_toArray, List.set_cons_zero, List.set_cons_succ]
    refine wpAnyH_done (by kernel_rfl) ?_ _
    have HF := Lib.hid hHeld
    clear hHeld e1
    go_wp2
    go_end0
    exact ⟨rfl, HI.out, (HUB.out.mono hBw).trans HF.out.1, (others_of_below HUB.out).trans HF.out.2⟩
  · obtain ⟨rfl, rfl⟩ : xv = 0 ∧ xf = 0 := by omega
    clear h3
    go_enter Tryd.func29, Tryd.ntmps29
    go_wp2_with fail
    have hb0 : Below w.heap.size w ((w.alloc (.cells #[.int .i64 2, .int .i64 0, .int .i64 0] 44)).alloc (.cells #[.string (({ data := #[118, 109, 117, 114] } : ByteArray).extract 1 2)] 9)) := by go_grown
    have hcat : catB [(({ data := #[118, 109, 117, 114] } : ByteArray).extract 1 2)] = clW ⟨2, 0, 0⟩ := by decide +kernel
    go_at_call 27
    refine (word_any B b (w.heap.size + 1) l [(({ data := #[118, 109, 117, 114] } : ByteArray).extract 1 2)] _ (H0.out.below hb0) (Blk.new _ _ _ _ (by simp)) (by omega) (by rw [hcat]; have := HL.out; show _ + 1 + 1 ≤ _; omega) (by have := hb0.size; omega) (by simp)).mono ?_
    rintro e w' ⟨rfl, hI, hb1, hk⟩
    rw [hcat] at hI
    have HI := Lib.hid hI
    have HB1 := Lib.hid ((hb0.mono hBw).trans hb1)
    have HK1 := Lib.hid ((others_of_below hb0).trans hk)
    clear hI hb1 hk hb0 hcat
    go_wp2
    first | go_end0 | go_returns | (trace_state; skip)
    exact ⟨rfl, HI.out, HB1.out, HK1.out⟩
  · obtain ⟨rfl, rfl⟩ : xv = 0 ∧ xf = 0 := by omega
    clear h3
    go_enter Tryd.func29, Tryd.ntmps29
    go_wp2_with fail
    have hb0 : Below w.heap.size w ((w.alloc (.cells #[.int .i64 3, .int .i64 0, .int .i64 0] 44)).alloc (.cells #[.string (({ data := #[118, 109, 117, 114] } : ByteArray).extract 2 3)] 9)) := by go_grown
    have hcat : catB [(({ data := #[118, 109, 117, 114] } : ByteArray).extract 2 3)] = clW ⟨3, 0, 0⟩ := by decide +kernel
    go_at_call 27
    refine (word_any B b (w.heap.size + 1) l [(({ data := #[118, 109, 117, 114] } : ByteArray).extract 2 3)] _ (H0.out.below hb0) (Blk.new _ _ _ _ (by simp)) (by omega) (by rw [hcat]; have := HL.out; show _ + 1 + 1 ≤ _; omega) (by have := hb0.size; omega) (by simp)).mono ?_
    rintro e w' ⟨rfl, hI, hb1, hk⟩
    rw [hcat] at hI
    have HI := Lib.hid hI
    have HB1 := Lib.hid ((hb0.mono hBw).trans hb1)
    have HK1 := Lib.hid ((others_of_below hb0).trans hk)
    clear hI hb1 hk hb0 hcat
    go_wp2
    first | go_end0 | go_returns | (trace_state; skip)
    exact ⟨rfl, HI.out, HB1.out, HK1.out⟩
  · obtain ⟨rfl, rfl⟩ : xv = 0 ∧ xf = 0 := by omega
    clear h3
    go_enter Tryd.func29, Tryd.ntmps29
    go_wp2_with fail
    have hb0 : Below w.heap.size w ((w.alloc (.cells #[.int .i64 4, .int .i64 0, .int .i64 0] 44)).alloc (.cells #[.string (({ data := #[118, 109, 117, 114] } : ByteArray).extract 3 4)] 9)) := by go_grown
    have hcat : catB [(({ data := #[118, 109, 117, 114] } : ByteArray).extract 3 4)] = clW ⟨4, 0, 0⟩ := by decide +kernel
    go_at_call 27
    refine (word_any B b (w.heap.size + 1) l [(({ data := #[118, 109, 117, 114] } : ByteArray).extract 3 4)] _ (H0.out.below hb0) (Blk.new _ _ _ _ (by simp)) (by omega) (by rw [hcat]; have := HL.out; show _ + 1 + 1 ≤ _; omega) (by have := hb0.size; omega) (by simp)).mono ?_
    rintro e w' ⟨rfl, hI, hb1, hk⟩
    rw [hcat] at hI
    have HI := Lib.hid hI
    have HB1 := Lib.hid ((hb0.mono hBw).trans hb1)
    have HK1 := Lib.hid ((others_of_below hb0).trans hk)
    clear hI hb1 hk hb0 hcat
    go_wp2
    first | go_end0 | go_returns | (trace_state; skip)
    exact ⟨rfl, HI.out, HB1.out, HK1.out⟩
end Go.Proofs.YtaelhgkodcgmnaaDoor
