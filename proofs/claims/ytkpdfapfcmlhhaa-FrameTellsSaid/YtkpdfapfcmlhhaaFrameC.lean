/- Layer 3: contracts: the stream. -/
import Derived.Test.YtkpdfapfcmlhhaaFrameB
import Derived.StillTailTactics
namespace Go.Proofs.Ytkpdfapfcmlhhaa
open Go.ChangeShapes Go.WideShapes Go.ChangeAt Go.RowKit
set_option linter.unusedVariables false
set_option linter.unusedSimpArgs false

/-- A stream in memory: its bytes, and where it stands. -/
structure Str (w : World) (s : Nat) (ad : Addr) (c : Nat) (bs : List Int) (k : Nat) : Prop where
  blk : Blk w s 42 #[.slice (some ad) bs.length c, .int .i64 k]
  bytes : Bytes w (.slice (some ad) bs.length c) bs
theorem Str.below {w w' : World} {s : Nat} {ad : Addr} {c : Nat} {bs : List Int} {k : Nat} (h : Str w s ad c bs k) (hb : Below w.heap.size w w') : Str w' s ad c bs k := ⟨h.blk.below hb, h.bytes.below hb⟩
theorem Str.cell {w : World} {s : Nat} {ad : Addr} {c : Nat} {bs : List Int} {k : Nat} (h : Str w s ad c bs k) (i : Nat) (x : Int) (hx : bs[i]? = some x) : w.cell? (ad.add i) = some (.int .u8 x) := by
  obtain ⟨A, c', e, _, _, hs⟩ := h.bytes.src
  injection e with e1 e2 e3
  have hi : i < bs.length := (List.getElem?_eq_some_iff.1 hx).1
  obtain ⟨ad', e4, _, hc⟩ := hs (by omega)
  rw [e4] at e1
  injection e1 with e1
  rw [e1]
  exact hc i _ (by rw [List.getElem?_map, hx]; rfl)
theorem getD_drop (bs : List Int) (k i : Nat) (x : Int) (hx : bs[k + i]? = some x) : (bs.drop k).getD i 0 = x := by
  rw [List.getD_eq_getElem?_getD, List.getElem?_drop, hx]; rfl
theorem cnt_drop (bs : List Int) (k : Nat) (x : Int) (hx : bs[k + 1]? = some x) : cnt (bs.drop k) = x.toNat := by
  unfold cnt
  rw [getD_drop bs k 1 x hx]

set_option maxHeartbeats 1000000 in
theorem marked_any (w : World) (s : Nat) (ad : Addr) (c : Nat) (bs : List Int) (k : Nat) (x : Int) (h : Str w s ad c bs k) (hx : bs[k]? = some x) (hl : bs.length ≤ 1000000) :
    Calls Try.prog 20 #[.pointer (some ⟨s, 0, none⟩)] w fun e w' => e = .returned (.bool (x == 165)) ∧ ∃ m, w' = w.drewN m := by
  have c0 := h.blk.cells 0
  have c1 := h.blk.cells 1
  have cx := h.cell k x hx
  have hk : k < bs.length := (List.getElem?_eq_some_iff.1 hx).1
  have hki : (k : Int) < (bs.length : Int) := by omega
  have hk0 : (0 : Int) ≤ (k : Int) := by omega
  simp at c0 c1
  clear h hx
  go_enter Try.func20, Try.ntmps20
  go_wp2_with fail
  go_quiet (fail)
  go_wp2
  go_ret
  exact ⟨by first | rfl | simp, _, rfl⟩

set_option maxHeartbeats 1000000 in
theorem size_any (w : World) (s : Nat) (ad : Addr) (c : Nat) (bs : List Int) (k : Nat) (h : Str w s ad c bs k) (hk : k + 1 < bs.length) (hl : bs.length ≤ 1000000) :
    Calls Try.prog 24 #[.pointer (some ⟨s, 0, none⟩)] w fun e w' => e = .returned (.int .i64 ((cnt (bs.drop k) + 6 : Nat) : Int)) ∧ ∃ m, w' = w.drewN m := by
  obtain ⟨x, hx⟩ : ∃ x, bs[k + 1]? = some x := ⟨_, List.getElem?_eq_getElem hk⟩
  have c0 := h.blk.cells 0
  have c1 := h.blk.cells 1
  have cx := h.cell (k + 1) x hx
  have hxr := h.bytes.2 x (List.mem_of_getElem? hx)
  rw [cnt_drop bs k x hx]
  obtain ⟨n, rfl⟩ : ∃ n : Nat, x = (n : Int) := ⟨x.toNat, by omega⟩
  rw [Int.toNat_natCast]
  simp at c0 c1
  clear h hx
  obtain ⟨j, hj⟩ : ∃ j, j = k + 1 := ⟨_, rfl⟩
  rw [← hj] at cx hk
  have hW : IntKind.i64.wrap ((k : Int) + 1) = (j : Int) := by rw [IntWalk.i64_in _ (by omega)]; omega
  have hW2 : IntKind.i64.wrap (2 + (n : Int)) = 2 + (n : Int) := by rw [IntWalk.i64_in _ (by omega)]
  have hW3 : IntKind.i64.wrap (2 + (n : Int) + 4) = ((n + 6 : Nat) : Int) := by rw [IntWalk.i64_in _ (by omega)]; omega
  have hjl : (j : Int) < (bs.length : Int) := by omega
  have hj0 : (0 : Int) ≤ (j : Int) := by omega
  clear hj
  go_enter Try.func24, Try.ntmps24
  go_wp2_with fail
  go_quiet (fail)
  go_wp2
  go_ret
  exact ⟨by first | rfl | simp, _, rfl⟩

theorem quiet_m {P : Program} {f : FuncId} {args : Array Value} {w : World} {n : Nat} {v : Value}
    (h : Calls P f args (w.drewN n) fun e w' => e = .returned v ∧ ∃ m, w' = (w.drewN n).drewN m) : Calls P f args (w.drewN n) fun e w'' => e = .returned v ∧ ∃ m, w'' = w.drewN m :=
  h.mono fun _ _ ⟨he, m, hw⟩ => ⟨he, n + m, by rw [hw, World.drewN_drewN]⟩
theorem Str.drewN {w : World} {s : Nat} {ad : Addr} {c : Nat} {bs : List Int} {k : Nat} (h : Str w s ad c bs k) (n : Nat) : Str (w.drewN n) s ad c bs k := ⟨h.blk, h.bytes⟩
theorem Str.drew {w : World} {s : Nat} {ad : Addr} {c : Nat} {bs : List Int} {k : Nat} (h : Str w s ad c bs k) : Str w.drew s ad c bs k := ⟨h.blk, h.bytes⟩

set_option maxHeartbeats 1000000 in
theorem whole_any (w : World) (s : Nat) (ad : Addr) (c : Nat) (bs : List Int) (k : Nat) (h : Str w s ad c bs k) (hk : k < bs.length) (hl : bs.length ≤ 1000000) :
    Calls Try.prog 21 #[.pointer (some ⟨s, 0, none⟩)] w fun e w' => e = .returned (.bool (wholeB (bs.drop k))) ∧ ∃ m, w' = w.drewN m := by
  have H := Lib.hid h
  have c0 := h.blk.cells 0
  have c1 := h.blk.cells 1
  simp at c0 c1
  clear h
  have hE := Lib.hid (show wholeB (bs.drop k) = decide (2 ≤ bs.length - k ∧ cnt (bs.drop k) + 6 ≤ bs.length - k) by unfold wholeB; rw [List.length_drop])
  obtain ⟨m, hm⟩ : ∃ m, m = bs.length - k := ⟨_, rfl⟩
  have hW : IntKind.i64.wrap ((bs.length : Int) - (k : Int)) = (m : Int) := by rw [IntWalk.i64_in _ (by omega)]; omega
  have HM := Lib.hid hm
  clear hm
  by_cases h2 : 2 ≤ m
  · have g2 : decide ((m : Int) ≥ 2) = true := decide_eq_true (by omega)
    go_enter Try.func21, Try.ntmps21
    go_wp2_with fail
    go_quiet (fail)
    go_wp2_with fail
    refine (size_any _ s ad c bs k ?_ ?_ hl).mono ?_
    · exact ⟨H.out.blk, H.out.bytes⟩
    · have := HM.out; omega
    rintro e w1 ⟨rfl, m1, rfl⟩
    go_wp2
    go_ret
    refine ⟨ret_bool ?_, _, rfl⟩
    rw [hE.out, ← HM.out, Bool.eq_iff_iff, decide_eq_true_eq, decide_eq_true_eq]
    omega
  · have g2 : decide ((m : Int) ≥ 2) = false := decide_eq_false (by omega)
    have hE2 : wholeB (bs.drop k) = false := by rw [hE.out, ← HM.out]; exact decide_eq_false (by omega)
    go_enter Try.func21, Try.ntmps21
    go_wp2_with fail
    go_quiet (fail)
    go_wp2
    go_ret
    exact ⟨by rw [hE2]; rfl, _, rfl⟩
end Go.Proofs.Ytkpdfapfcmlhhaa
