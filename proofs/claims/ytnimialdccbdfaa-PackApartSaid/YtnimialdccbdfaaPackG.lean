/- Layer 4: the packet of bytes. -/
import Derived.Test.YtnimialdccbdfaaPackF
namespace Go.Proofs.Ytnimialdccbdfaa
open Go.ChangeShapes Go.WideShapes Go.ChangeAt Go.RowKit
set_option linter.unusedVariables false
set_option linter.unusedSimpArgs false

theorem Bytes.sub {w : World} {ad : Addr} {n c : Nat} {bs : List Int} (h : Bytes w (.slice (some ad) n c) bs) (i m c' : Nat) (hm : i + m ≤ bs.length) (hc' : m ≤ c') (hcm : c' ≤ maxLen) : Bytes w (.slice (some (ad.add i)) m c') ((bs.drop i).take m) := by
  obtain ⟨⟨A, c0, hv, h2, h3, hA⟩, hr⟩ := h
  injection hv with e1 e2 e3
  subst e1 e3
  have hl : ((bs.drop i).take m).length = m := by simp; omega
  refine ⟨⟨some (ad.add i), c', by rw [List.length_map, hl], by rw [List.length_map, hl]; exact hc', hcm, .inr ⟨_, rfl, fun h0 => ?_, fun j x hx => ?_⟩⟩, fun x hx => hr x (List.mem_of_mem_drop (List.mem_of_mem_take hx))⟩
  · rw [List.length_map, hl] at h0
    rcases hA with ⟨h, _⟩ | ⟨ad', h5, h6, _⟩
    · cases h
    · cases h5
      rw [block_add]
      exact h6 (by rw [List.length_map]; omega)
  · rcases hA with ⟨h, _⟩ | ⟨ad', h5, _, h7⟩
    · cases h
    · cases h5
      rw [Go.Deep.add_add]
      refine h7 (i + j) x ?_
      rw [← hx, List.getElem?_map, List.getElem?_map, List.getElem?_take]
      have hj : j < m := by
        rcases Nat.lt_or_ge j m with h | h
        · exact h
        · rw [List.getElem?_eq_none (by rw [List.length_map, hl]; exact h)] at hx
          cases hx
      rw [if_pos hj, List.getElem?_drop]

set_option maxRecDepth 100000 in
set_option maxHeartbeats 4000000 in
theorem in_any (pl l : Int) (v : Value) (bs : List Int) (w : World) (h : Bytes w v bs) (h0 : 0 ≤ pl) (h1 : 1 ≤ l) (h7 : l ≤ 7) (hfit : pl + l ≤ bs.length) :
    Calls Try.prog 23 #[.agg #[.int .i64 pl, .int .i64 l], v] w fun e w' => e = .returned (.int .i64 (num ((bs.drop pl.toNat).take l.toNat))) ∧ Below w.heap.size w w' := by
  have H := Lib.hid h
  obtain ⟨⟨A, c, rfl, hc, hcm, hA⟩, hr⟩ := h
  rw [List.length_map] at hc hA H ⊢
  obtain ⟨ad, rfl⟩ : ∃ ad, A = some ad := by
    rcases hA with ⟨_, h0⟩ | ⟨ad, h2, _⟩
    · omega
    · exact ⟨ad, h2⟩
  unfold maxLen at hcm
  clear hA hr
  go_enter Try.func23, Try.ntmps23
  go_wp2_with fail
  have hb := Bytes.sub H.out pl.toNat ((pl + l).toNat - pl.toNat) (c - pl.toNat) (by omega) (by omega) (by unfold maxLen; omega)
  have e1 : (pl + l).toNat - pl.toNat = l.toNat := by omega
  rw [e1] at hb ⊢
  refine (get_yes _ _ _ (hb.below ((Below.refl _ _).alloc (Nat.le_refl _) _)) (by simp; omega) (by simp; omega)).mono ?_
  rintro e w1 ⟨rfl, rfl⟩
  clear hb
  go_wp2
  go_ret
  exact ⟨rfl, by go_grown⟩

/-- the number of the k-th field -/
def fv (bs : List Int) : Nat → Int
  | 0 => num ((bs.drop 0).take 1)
  | 1 => num ((bs.drop 1).take 1)
  | 2 => num ((bs.drop 2).take 1)
  | 3 => num ((bs.drop 3).take 2)
  | _ => num ((bs.drop 5).take 5)
def fvA (bs : List Int) (k : Nat) : Array Value := #[.int .i64 (if 0 < k then fv bs 0 else 0), .int .i64 (if 1 < k then fv bs 1 else 0), .int .i64 (if 2 < k then fv bs 2 else 0), .int .i64 (if 3 < k then fv bs 3 else 0), .int .i64 (if 4 < k then fv bs 4 else 0)]
theorem fvA_step (bs : List Int) (k : Nat) (hk : k < 5) : (fvA bs k).setIfInBounds k (.int .i64 (fv bs k)) = fvA bs (k + 1) := by
  rcases (by omega : k = 0 ∨ k = 1 ∨ k = 2 ∨ k = 3 ∨ k = 4) with rfl | rfl | rfl | rfl | rfl <;> rfl
theorem fvA_at (bs : List Int) (k : Nat) (hk : k < 5) : ∃ old, (fvA bs k)[k]? = some old := by
  have : k < (fvA bs k).size := hk
  exact ⟨_, Array.getElem?_eq_getElem this⟩
theorem num_one (bs : List Int) (k : Nat) (h : k < bs.length) : num ((bs.drop k).take 1) = bs.getD k 0 := by
  rw [List.drop_eq_getElem_cons h, List.take_succ_cons, List.take_zero]
  simp [num, List.getD_eq_getElem?_getD, List.getElem?_eq_getElem h]
theorem ofB_fv (bs : List Int) (h : 3 ≤ bs.length) : ofB bs = ⟨fv bs 0, fv bs 1, fv bs 2, fv bs 3, fv bs 4, valsOf (bs.drop 10)⟩ := by
  have e0 : fv bs 0 = bs.getD 0 0 := num_one bs 0 (by omega)
  have e1 : fv bs 1 = bs.getD 1 0 := num_one bs 1 (by omega)
  have e2 : fv bs 2 = bs.getD 2 0 := num_one bs 2 (by omega)
  rw [e0, e1, e2]
  rfl
theorem at_f (bs : List Int) (k : Nat) (hk : k < 5) : ∃ (pl l : Int), 0 ≤ pl ∧ 1 ≤ l ∧ l ≤ 7 ∧ pl + l ≤ 10 ∧ num ((bs.drop pl.toNat).take l.toNat) = fv bs k ∧
    (∀ w, (Instr.index 50 (.agg #[.int .i64 0, .int .i64 1, .int .i64 1, .int .i64 1, .int .i64 2, .int .i64 1, .int .i64 3, .int .i64 2, .int .i64 5, .int .i64 5]) (.int .i64 k)).run Try.prog w = .ok (.agg #[.int .i64 pl, .int .i64 l]) w) := by
  rcases (by omega : k = 0 ∨ k = 1 ∨ k = 2 ∨ k = 3 ∨ k = 4) with rfl | rfl | rfl | rfl | rfl
  · exact ⟨0, 1, by omega, by omega, by omega, by omega, rfl, idx0⟩
  · exact ⟨1, 1, by omega, by omega, by omega, by omega, rfl, idx1⟩
  · exact ⟨2, 1, by omega, by omega, by omega, by omega, rfl, idx2⟩
  · exact ⟨3, 2, by omega, by omega, by omega, by omega, rfl, idx3⟩
  · exact ⟨5, 5, by omega, by omega, by omega, by omega, rfl, idx4⟩
def valsL (N : Nat) (xs : List Int) : List Value := (xs ++ List.replicate (N - xs.length) (0 : Int)).map (Value.int .i64)
theorem vals_set (N : Nat) (xs : List Int) (k : Nat) (x : Int) (hk : xs.length = k) (h : k < N) : (valsL N xs).toArray.setIfInBounds k (.int .i64 x) = (valsL N (xs ++ [x])).toArray := by
  subst hk
  rw [List.setIfInBounds_toArray]
  congr 1
  unfold valsL
  rw [← List.map_set]
  congr 1
  rw [List.set_append_right _ _ (Nat.le_refl _), Nat.sub_self, List.append_assoc]
  congr 1
  obtain ⟨m, hm⟩ : ∃ m, N - xs.length = m + 1 := ⟨N - xs.length - 1, by omega⟩
  have h2 : N - (xs ++ [x]).length = m := by rw [List.length_append, List.length_singleton]; omega
  rw [hm, h2, List.replicate_succ]
  rfl
theorem vals_len (N : Nat) (xs : List Int) (h : xs.length ≤ N) : (valsL N xs).length = N := by simp [valsL]; omega
theorem vals_full (xs : List Int) (N : Nat) (h : xs.length = N) : valsL N xs = xs.map (Value.int .i64) := by simp [valsL, h]
theorem int_info : (Try.prog.info? 3).map (fun i => (i.zero, i.size, i.bytes)) = some (some (.int .i64 0), 1, 8) := by kernel_rfl
theorem zero_info : (Try.prog.info? 47).map (fun i => (i.zero, i.size)) = some (some (.agg #[.int .i64 0, .int .i64 0, .int .i64 0, .int .i64 0, .int .i64 0]), 5) := by kernel_rfl

theorem wf_i64 {z : Int} (h0 : -9223372036854775808 ≤ z) (h1 : z ≤ 9223372036854775807) : (Lit.int .i64 z).wf = true := by
  simp [Lit.wf, IntKind.min, IntKind.max, IntKind.signed, IntKind.bits]
  omega
set_option maxRecDepth 100000 in
set_option maxHeartbeats 4000000 in
theorem unpack_ok (v : Value) (bs : List Int) (w : World) (h : Bytes w v bs) (h1 : 12 ≤ bs.length) (h2 : bs.length ≤ 26) (h3 : bs.length % 2 = 0) :
    Calls Try.prog 12 #[v] w fun e w' => ∃ u, e = .returned (.tuple #[u, .int .i64 0]) ∧ PkV w' u (ofB bs) ∧ Below w.heap.size w w' := by
  have H := Lib.hid h
  obtain ⟨⟨A, c, rfl, hc, hcm, hA⟩, hr⟩ := h
  rw [List.length_map] at hc H ⊢
  clear hA hr hcm
  obtain ⟨N, hN⟩ : ∃ N : Nat, bs.length = 10 + 2 * N := ⟨(bs.length - 10) / 2, by omega⟩
  have HN := Lib.hid hN
  clear hN
  have hrem : ((bs.length : Nat) : Int) % 2 = 0 := by omega
  have g1 : decide (((bs.length : Nat) : Int) < 12) = false := decide_eq_false (by omega)
  have g2 : decide (((bs.length : Nat) : Int) > 26) = false := decide_eq_false (by omega)
  go_enter Try.func12, Try.ntmps12
  go_wp2_with fail
  refine (heads_any _).mono ?_
  rintro e w2 ⟨rfl, hk⟩
  have hb2 : Below w.heap.size w w2 := (show Below w.heap.size w _ by go_grown).trans (hk.mono (by simp; omega))
  have HR2 := Lib.hid (((Blk.new w 24 #[.int .i64 0, .int .i64 0, .int .i64 0, .int .i64 0, .int .i64 0, .slice none 0 0] _ rfl).al (.cells #[.int .i64 0, .int .i64 0, .int .i64 0, .int .i64 0, .int .i64 0] 47)).below hk)
  have HA2 := Lib.hid (show Blk w2 (w.heap.size + 1) 47 (fvA bs 0) from (Blk.new (w.alloc (.cells #[.int .i64 0, .int .i64 0, .int .i64 0, .int .i64 0, .int .i64 0, .slice none 0 0] 24)) 47 #[.int .i64 0, .int .i64 0, .int .i64 0, .int .i64 0, .int .i64 0] (w.heap.size + 1) (by simp)).below hk)
  have hbs := hk.size
  clear hk
  go_wp2_with fail
  go_loopw [26] (fun i wr => ∃ k : Nat, k ≤ 5 ∧ i = .int .i64 k ∧ Below w.heap.size w wr ∧ Blk wr w.heap.size 24 #[.int .i64 0, .int .i64 0, .int .i64 0, .int .i64 0, .int .i64 0, .slice none 0 0] ∧ Blk wr (w.heap.size + 1) 47 (fvA bs k)) (fun i _ => 5 - (intOf i).toNat)
  case atStart => exact ⟨0, by omega, rfl, hb2, HR2.out, HA2.out⟩
  case round =>
    obtain ⟨k, hk, rfl, hb, hR, hAr⟩ := hrel
    have HRr := Lib.hid hR
    have HAr := Lib.hid hAr
    have lR := hR.lt
    have lA := hAr.lt
    clear HR2 HA2 hb2
    by_cases h5 : k = 5
    · subst h5
      have hdiv : ((bs.length : Int) - 10) / 2 = (N : Int) := by have := HN.out; omega
      have hmk : ∀ w : World, (Instr.makeSlice 22 (.int .i64 (N : Int)) (.int .i64 (N : Int))).run Try.prog w = .ok (.slice (some ⟨w.heap.size, 0, none⟩) N N) (w.alloc (.cells (valsL N []).toArray 3)) := by
        intro w
        have h := run_make_rowN (P := Try.prog) 22 3 (.int .i64 0) 8 (k := 1) (by kernel_rfl) int_info .i64 .i64 N (by have := HN.out; omega) (by have := HN.out; omega) w
        have e2 : madeCells (Value.int .i64 0).cells (N * 1) = (valsL N []).toArray := by
          rw [madeCells_rep _ (.int .i64 0) _ (by intro i hi; simp [Value.cells] at hi; subst hi; rfl) (by decide)]
          simp [valsL]
        rw [e2] at h
        exact h
      clear hR hAr
      go_wp2_with fail
      rw [show ((5 : Nat) : Int) = 5 from rfl]
      have HV := Lib.hid (show Blk (wr.alloc (.cells (valsL N []).toArray 3)) wr.heap.size 3 (valsL N []).toArray from heap_at wr _ _ rfl)
      have hN8 : (N : Int) ≤ 8 := by have := HN.out; omega
      clear hmk hdiv
      obtain ⟨g, hg⟩ : ∃ g, g = wr.heap.size := ⟨_, rfl⟩
      have HG := Lib.hid hg
      rw [← hg] at HV
      rw [← hg]
      have hb5 := Lib.hid (hb.alloc hb.size (.cells (valsL N []).toArray 3))
      have HR5 := Lib.hid (HRr.out.al (.cells (valsL N []).toArray 3))
      have HA5 := Lib.hid (HAr.out.al (.cells (valsL N []).toArray 3))
      have hgw : w.heap.size + 2 ≤ g := by omega
      clear hg
      go_loopw [43] (fun i wr => ∃ k : Nat, k ≤ N ∧ i = .int .i64 k ∧ Below w.heap.size w wr ∧ Blk wr w.heap.size 24 #[.int .i64 0, .int .i64 0, .int .i64 0, .int .i64 0, .int .i64 0, .slice none 0 0] ∧ Blk wr (w.heap.size + 1) 47 (fvA bs 5) ∧ Blk wr g 3 (valsL N (valsOf ((bs.drop 10).take (2 * k)))).toArray) (fun i _ => N - (intOf i).toNat)
      case atStart => exact ⟨0, by omega, rfl, hb5.out, HR5.out, HA5.out, HV.out⟩
      case round =>
        obtain ⟨k, hk, rfl, hb, hR, hAr, hVr⟩ := hrel
        have HVr := Lib.hid hVr
        have hxA : ∀ i, wr.cell? ⟨w.heap.size + 1, i, none⟩ = #[Value.int .i64 (fv bs 0), Value.int .i64 (fv bs 1), Value.int .i64 (fv bs 2), Value.int .i64 (fv bs 3), Value.int .i64 (fv bs 4)][i]? := hAr.cells
        have hxR := hR.cells
        have hfR := hR.froz
        have HRq := Lib.hid hR
        have HAq := Lib.hid hAr
        have lR' := hR.lt
        have lV := hVr.lt
        have hkl : (valsOf ((bs.drop 10).take (2 * k))).length = k := by
          have hr := H.out.2
          exact (vdata_valsOf k _ (by rw [List.length_take, List.length_drop]; have := HN.out; omega) (fun x hx => hr x (List.mem_of_mem_drop (List.mem_of_mem_take hx)))).2.1
        by_cases hlt : k < N
        · clear hxA hxR hfR hR hAr hVr
          go_wp2_with fail
          refine (valField_any _ (by omega) _).mono ?_
          rintro e W ⟨rfl, hkW⟩
          have hbW := hb.trans (hkW.mono hb.size)
          have HRW := Lib.hid (HRq.out.below hkW)
          have HAW := Lib.hid (HAq.out.below hkW)
          have HVW := Lib.hid (HVr.out.below hkW)
          clear hkW hb HRq HAq HVr
          go_wp2_with fail
          refine (in_any _ _ _ bs _ (H.out.below hbW) (by omega) (by omega) (by omega) (by have := HN.out; omega)).mono ?_
          rintro e W2 ⟨rfl, hkW⟩
          rw [show (10 + 2 * (k : Int)).toNat = 10 + 2 * k by omega, show (2 : Int).toNat = 2 from rfl]
          have hbW2 := hbW.trans (hkW.mono hbW.size)
          have HRW2 := Lib.hid (HRW.out.below hkW)
          have HAW2 := Lib.hid (HAW.out.below hkW)
          have HVW2 := Lib.hid (HVW.out.below hkW)
          clear hkW hbW HRW HAW HVW
          go_wp2_with fail
          refine (sign_any _ _).mono ?_
          rintro e W3 ⟨rfl, rfl⟩
          have HX := Lib.hid (show valsOf ((bs.drop 10).take (2 * (k + 1))) = valsOf ((bs.drop 10).take (2 * k)) ++ [sgn (num ((bs.drop (10 + 2 * k)).take 2))] by
            rw [valsOf_step k (bs.drop 10) (by rw [List.length_drop]; have := HN.out; omega), List.drop_drop])
          generalize sgn (num ((bs.drop (10 + 2 * k)).take 2)) = x at *
          have hcV : ∃ old, W2.cell? ⟨g, k, none⟩ = some old := by
            rw [HVW2.out.cells]
            have : k < (valsL N (valsOf ((bs.drop 10).take (2 * k)))).toArray.size := by rw [List.size_toArray, vals_len _ _ (by omega)]; exact hlt
            exact ⟨_, Array.getElem?_eq_getElem this⟩
          obtain ⟨old, hcV⟩ := hcV
          have hfV := HVW2.out.froz k
          go_wp2_with fail
          go_roundw
          case rel =>
            refine ⟨k + 1, by omega, by go_num, hbW2.setCell (by show w.heap.size ≤ g; omega) _, HRW2.out.setO (by omega) _ _, HAW2.out.setO (by omega) _ _, ?_⟩
            rw [HX.out, ← vals_set N _ k x hkl hlt]
            exact HVW2.out.set k _
          case measure => simp [intOf]; omega
        · have he : k = N := by omega
          subst he
          clear hR hAr hVr
          go_wp2_with fail
          have hvs : valsOf ((bs.drop 10).take (2 * k)) = valsOf (bs.drop 10) := valsOf_all _ _ (by rw [List.length_drop]; have := HN.out; omega)
          obtain ⟨W, hW⟩ : ∃ W, W = ((((((wr.setCell ⟨w.heap.size, 0, none⟩ (.int .i64 (fv bs 0))).setCell ⟨w.heap.size, 1, none⟩ (.int .i64 (fv bs 1))).setCell ⟨w.heap.size, 2, none⟩ (.int .i64 (fv bs 2))).setCell ⟨w.heap.size, 3, none⟩ (.int .i64 (fv bs 3))).setCell ⟨w.heap.size, 4, none⟩ (.int .i64 (fv bs 4))).setCell ⟨w.heap.size, 5, none⟩ (.slice (some ⟨g, 0, none⟩) k k)) := ⟨_, rfl⟩
          have hbl : Below w.heap.size w W := by
            rw [hW]
            exact (((((hb.setCell (Nat.le_refl _) _).setCell (Nat.le_refl _) _).setCell (Nat.le_refl _) _).setCell (Nat.le_refl _) _).setCell (Nat.le_refl _) _).setCell (Nat.le_refl _) _
          have hblk : Blk W g 3 (valsL k (valsOf ((bs.drop 10).take (2 * k)))).toArray := by
            rw [hW]
            exact (((((HVr.out.setO (c := w.heap.size) (by omega) 0 (.int .i64 (fv bs 0))).setO (c := w.heap.size) (by omega) 1 (.int .i64 (fv bs 1))).setO (c := w.heap.size) (by omega) 2 (.int .i64 (fv bs 2))).setO (c := w.heap.size) (by omega) 3 (.int .i64 (fv bs 3))).setO (c := w.heap.size) (by omega) 4 (.int .i64 (fv bs 4))).setO (c := w.heap.size) (by omega) 5 (.slice (some ⟨g, 0, none⟩) k k)
          have hres : Blk W w.heap.size 24 #[.int .i64 (fv bs 0), .int .i64 (fv bs 1), .int .i64 (fv bs 2), .int .i64 (fv bs 3), .int .i64 (fv bs 4), .slice (some ⟨g, 0, none⟩) k k] := by
            rw [hW]
            exact (((((HRq.out.set 0 (.int .i64 (fv bs 0))).set 1 (.int .i64 (fv bs 1))).set 2 (.int .i64 (fv bs 2))).set 3 (.int .i64 (fv bs 3))).set 4 (.int .i64 (fv bs 4))).set 5 (.slice (some ⟨g, 0, none⟩) k k)
          rw [← hW]
          clear hW
          rw [hvs] at hblk hkl
          have hxW := hres.cells
          refine bodyPost_ret (v := .tuple #[.agg #[.int .i64 (fv bs 0), .int .i64 (fv bs 1), .int .i64 (fv bs 2), .int .i64 (fv bs 3), .int .i64 (fv bs 4), .slice (some ⟨g, 0, none⟩) k k], .int .i64 0]) (by simp [results, Try.results12, go_sem, hxW]) rfl ?_
          refine ⟨_, rfl, ⟨_, by rw [ofB_fv bs (by omega)], ?_⟩, hbl⟩
          have hv : (ofB bs).vals = valsOf (bs.drop 10) := rfl
          rw [hv]
          refine ⟨Row.of_block hblk ?_ (by rw [List.length_map, hkl]) (Nat.le_refl _) (by unfold maxLen; omega), ?_⟩
          · rw [List.toList_toArray, vals_full _ _ hkl, List.drop_zero]
            exact List.take_of_length_le (by rw [List.length_map, hkl]; exact Nat.le_refl _)
          · intro z hz
            have hr := H.out.2
            have := (vdata_valsOf k (bs.drop 10) (by rw [List.length_drop]; have := HN.out; omega) (fun x hx => hr x (List.mem_of_mem_drop hx))).2.2 z hz
            exact wf_i64 (by omega) (by omega)
    obtain ⟨pl, l, p1, p2, p3, p4, hnum, hix⟩ := at_f bs k (by omega)
    have hk5 : k < 5 := by omega
    have hAf := hAr.froz
    clear hR hAr
    go_wp2_with fail
    have HF := Lib.hid (Blk.new wr 49 #[.int .i64 pl, .int .i64 l] _ rfl)
    have hx := HF.out.cells
    refine (in_any pl l _ bs _ (H.out.below (show Below w.heap.size w _ by go_grown)) p1 p2 p3 (by omega)).mono ?_
    rintro e W ⟨rfl, hkW⟩
    rw [hnum]
    have hbW : Below wr.heap.size wr W := (show Below wr.heap.size wr _ by go_grown).trans (hkW.mono (by simp))
    clear hkW
    have HAW := Lib.hid (HAr.out.below hbW)
    have HRW := Lib.hid (HRr.out.below hbW)
    have hbw := hb.trans (hbW.mono hb.size)
    obtain ⟨old, hold⟩ := fvA_at bs k hk5
    have hcA : W.cell? ⟨w.heap.size + 1, k, none⟩ = some old := by rw [HAW.out.cells]; exact hold
    have hfA := HAW.out.froz k
    clear hx hAf hold hbW
    go_wp2_with fail
    go_roundw
    case rel =>
      refine ⟨k + 1, by omega, by go_num, hbw.setCell (by show w.heap.size ≤ w.heap.size + 1; omega) _, HRW.out.setO (by omega) _ _, ?_⟩
      rw [← fvA_step bs k hk5]
      exact HAW.out.set k _
    case measure => simp [intOf]; omega

def badCode (n : Nat) : Int := if n < 12 then 2 else if n > 26 then 3 else 4
set_option maxHeartbeats 1000000 in
theorem unpack_bad (v : Value) (bs : List Int) (w : World) (h : Bytes w v bs) (h1 : ¬ (12 ≤ bs.length ∧ bs.length ≤ 26 ∧ bs.length % 2 = 0)) :
    Calls Try.prog 12 #[v] w fun e w' => e = .returned (.tuple #[.agg #[.int .i64 0, .int .i64 0, .int .i64 0, .int .i64 0, .int .i64 0, .slice none 0 0], .int .i64 (badCode bs.length)]) ∧ Below w.heap.size w w' := by
  obtain ⟨⟨A, c, rfl, hc, hcm, hA⟩, hr⟩ := h
  rw [List.length_map] at hc ⊢
  clear hA hr
  unfold maxLen at hcm
  by_cases h12 : bs.length < 12
  · have hbc : badCode bs.length = 2 := by unfold badCode; rw [if_pos h12]
    have g1 : decide (((bs.length : Nat) : Int) < 12) = true := decide_eq_true (by omega)
    go_enter Try.func12, Try.ntmps12
    go_wp2
    go_returns
    exact ⟨by simp [hbc], by go_grown⟩
  by_cases h26 : bs.length > 26
  · have hbc : badCode bs.length = 3 := by unfold badCode; rw [if_neg h12, if_pos h26]
    have g1 : decide (((bs.length : Nat) : Int) < 12) = false := decide_eq_false (by omega)
    have g2 : decide (((bs.length : Nat) : Int) > 26) = true := decide_eq_true (by omega)
    go_enter Try.func12, Try.ntmps12
    go_wp2
    go_returns
    exact ⟨by simp [hbc], by go_grown⟩
  · have hbc : badCode bs.length = 4 := by unfold badCode; rw [if_neg h12, if_neg h26]
    have g1 : decide (((bs.length : Nat) : Int) < 12) = false := decide_eq_false (by omega)
    have g2 : decide (((bs.length : Nat) : Int) > 26) = false := decide_eq_false (by omega)
    have g3 : ((bs.length : Nat) : Int) % 2 = 1 := by omega
    go_enter Try.func12, Try.ntmps12
    go_wp2
    go_returns
    exact ⟨by simp [hbc], by go_grown⟩
end Go.Proofs.Ytnimialdccbdfaa
