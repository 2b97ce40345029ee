/- Layer 4: Data, and the packet of bytes. -/
import Derived.Test.YtgklbmhihfmagaaPackE
namespace Go.Proofs.Ytgklbmhihfmagaa
open Go.ChangeShapes Go.WideShapes Go.ChangeAt Go.RowKit
set_option linter.unusedVariables false
set_option linter.unusedSimpArgs false

theorem room_info : (Try.prog.info? 5).map (fun i => (i.zero, i.size, i.bytes)) = some (some (.int .u8 0), 1, 1) := by kernel_rfl
theorem laid_nil (N : Nat) (w : World) : Laid (w.alloc (.cells (List.replicate N (Value.int .u8 0)).toArray 5)) w.heap.size N [] := by
  have h := heap_at w (.cells (List.replicate N (Value.int .u8 0)).toArray 5) _ rfl
  have e : laidL N [] = List.replicate N (Value.int .u8 0) := by simp [laidL]
  unfold Laid Blk
  rw [e]
  exact h

set_option maxRecDepth 100000 in
set_option maxHeartbeats 4000000 in
theorem data_yes (v : Value) (p : Pk) (w : World) (h : PkV w v p) (hr : p.right) :
    Calls Try.prog 32 #[v] w fun e w' => ∃ u, e = .returned (.tuple #[u, .bool true]) ∧ Bytes w' u p.data ∧ Below w.heap.size w w' := by
  have hPV := Lib.hid h
  obtain ⟨vs, rfl, hI⟩ := h
  obtain ⟨A, cp, rfl, hcp, hcm, hA⟩ := hI.1
  rw [List.length_map] at hcp hI hPV ⊢
  have HI := Lib.hid hI
  have HR := Lib.hid hr
  have hlen := hr.2.1
  have hd : decide p.right = true := decide_eq_true hr
  clear hA hI hr hcm
  go_enter Try.func32, Try.ntmps32
  go_wp2_with fail
  have HP := Lib.hid (Blk.new w 31 #[.int .i64 p.dev, .int .i64 p.chan, .int .i64 p.boot, .int .i64 p.seq, .int .i64 p.stamp, .slice A p.vals.length cp] _ rfl)
  refine (right_any _ p _ (hPV.out.below ((Below.refl _ _).alloc (Nat.le_refl _) _))).mono ?_
  rintro e w1 ⟨rfl, hk⟩
  have hb1 : Below w.heap.size w w1 := (show Below w.heap.size w _ by go_grown).trans (hk.mono (by simp))
  have HP1 := Lib.hid (HP.out.below hk)
  have hx := HP1.out.cells
  have sz := HP1.out.lt
  clear hk HP
  rw [hd]
  obtain ⟨N, hN⟩ : ∃ N : Nat, N = 10 + 2 * p.vals.length := ⟨_, rfl⟩
  have hmk : ∀ w : World, (Instr.makeSlice 73 (.int .i64 (10 + 2 * (p.vals.length : Int))) (.int .i64 (10 + 2 * (p.vals.length : Int)))).run Try.prog w = .ok (.slice (some ⟨w.heap.size, 0, none⟩) N N) (w.alloc (.cells (laidL N []).toArray 5)) := by
    intro w
    have h := run_make_rowN (P := Try.prog) 73 5 (.int .u8 0) 1 (k := 1) (by kernel_rfl) room_info .i64 .i64 N (by omega) (by omega) w
    have e : ((N : Nat) : Int) = 10 + 2 * (p.vals.length : Int) := by omega
    have e2 : madeCells (Value.int .u8 0).cells (N * 1) = (laidL N []).toArray := by
      rw [madeCells_rep _ (.int .u8 0) _ (by intro i hi; simp [Value.cells] at hi; subst hi; rfl) (by decide)]
      simp [laidL]
    rw [e, e2] at h
    exact h
  have HN := Lib.hid hN
  clear hN
  go_wp2_with fail
  have hL := Lib.hid (show Laid (w1.alloc (.cells (laidL N []).toArray 5)) w1.heap.size N [] from heap_at w1 _ _ rfl)
  have hWr := Lib.hid (Blk.new (w1.alloc (.cells (laidL N []).toArray 5)) 75 #[.slice (some ⟨w1.heap.size, 0, none⟩) N N] (w1.heap.size + 1) (by simp))
  refine (packet_any w1.heap.size N p (.slice A p.vals.length cp) w _ HR.out HN.out HI.out (by go_grown) hb1.size (hL.out.al _)).mono ?_
  rintro e w2 ⟨rfl, hL2, hs⟩
  have hW2 := hWr.out.side hs (by simp)
  have hb2 : Below w.heap.size w w2 := Side.below (show Below w.heap.size w _ by go_grown) (by have := hb1.size; simp; omega) hs hb1.size
  have hxw := hW2.cells
  have HL2 := Lib.hid hL2
  clear hL2 hW2 hs hx hmk
  go_wp2
  go_ret2
  refine ⟨_, rfl, ⟨?_, data_range p⟩, hb2⟩
  have hl : p.data.length = N := by rw [data_len, HN.out]
  refine Row.of_block HL2.out ?_ (by rw [List.length_map, hl]) (Nat.le_refl _) (by have := HN.out; unfold maxLen; omega)
  have e : laidL N p.data = p.data.map (Value.int .u8) := by simp [laidL, hl]
  rw [List.toList_toArray, e, List.drop_zero]
  exact List.take_of_length_le (by rw [List.length_map, hl]; exact Nat.le_refl _)

set_option maxHeartbeats 1000000 in
theorem data_no (v : Value) (p : Pk) (w : World) (h : PkV w v p) (hr : ¬ p.right) :
    Calls Try.prog 32 #[v] w fun e w' => e = .returned (.tuple #[.slice none 0 0, .bool false]) ∧ Below w.heap.size w w' := by
  have hPV := Lib.hid h
  obtain ⟨vs, rfl, hI⟩ := h
  have hd : decide p.right = false := decide_eq_false hr
  clear hI hr
  go_enter Try.func32, Try.ntmps32
  go_wp2_with fail
  refine (right_any _ p _ (hPV.out.below ((Below.refl _ _).alloc (Nat.le_refl _) _))).mono ?_
  rintro e w1 ⟨rfl, hk⟩
  have hb1 : Below w.heap.size w w1 := (show Below w.heap.size w _ by go_grown).trans (hk.mono (by simp))
  rw [hd]
  go_wp2
  go_ret2
  exact ⟨rfl, hb1⟩
end Go.Proofs.Ytgklbmhihfmagaa
