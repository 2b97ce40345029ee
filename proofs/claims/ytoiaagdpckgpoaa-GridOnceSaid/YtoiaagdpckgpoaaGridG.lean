/- Layer 13: Tell. -/
import Derived.Test.YtoiaagdpckgpoaaGridF
import Derived.BigQuiet
namespace Go.Proofs.Ytoiaagdpckgpoaa
open Go.ChangeShapes Go.WideShapes Go.ChangeAt Go.RowKit
set_option linter.unusedVariables false
set_option linter.unusedSimpArgs false

theorem c3_at (l : List (Int × Int × Int)) (i : Nat) (a : Int × Int × Int) (h : l[i]? = some a) : (c3 l)[i * 3]? = some (.int .i64 a.1) ∧ (c3 l)[i * 3 + 1]? = some (.int .i64 a.2.1) ∧ (c3 l)[i * 3 + 2]? = some (.int .i64 a.2.2) := by
  induction l generalizing i with
  | nil => simp at h
  | cons b l ih =>
    cases i with
    | zero =>
      simp at h
      subst h
      exact ⟨rfl, rfl, rfl⟩
    | succ i =>
      have h' : l[i]? = some a := by simpa using h
      have := ih i h'
      have e1 : (i + 1) * 3 = i * 3 + 3 := by omega
      rw [e1]
      exact this
theorem infoCell : (Try.prog.info? 51).map (fun i => (i.zero, i.size, i.bytes)) = some (some (.agg #[.int .i64 0, .int .i64 0, .int .i64 0]), 3, 24) := by kernel_rfl

set_option maxHeartbeats 2000000 in
theorem gtell_none (w : World) (g ab k nw cw : Nat) (bs : List (Nat × Nat)) (rs : List (Nat × List SB)) (Aw : Option Addr) (h : GridS w g ab bs k rs) (hn : nw ≠ bs.length) :
    Calls Try.prog 16 #[.pointer (some ⟨g, 0, none⟩), .slice Aw nw cw] w fun e w' => e = .returned (.slice none 0 0) ∧ Below w.heap.size w w' := by
  have hx := h.head.cells
  have hl := h.head.lt
  have g1 : ((nw : Int) != (bs.length : Int)) = true := by rw [bne_iff_ne]; omega
  clear h
  go_enter Try.func16, Try.ntmps16
  go_wp2_with fail
  go_quiet (fail)
  go_wp2
  go_ret
  exact ⟨rfl, Bdrew (by go_grown) _⟩

set_option maxRecDepth 100000 in
set_option maxHeartbeats 4000000 in
theorem gtell_any (w : World) (g ab k cw : Nat) (bs : List (Nat × Nat)) (rs : List (Nat × List SB)) (Aw : Option Addr) (why : List Int) (h : GridS w g ab bs k rs) (ht : ∀ r ∈ rs, r.1 < 4611686018427387904)
    (hw : Row w (.slice Aw why.length cw) (why.map (.int .i64))) (hl : why.length = bs.length) (ho : offRow (.slice Aw why.length cw) (gblocks g ab bs)) :
    Calls Try.prog 16 #[.pointer (some ⟨g, 0, none⟩), .slice Aw why.length cw] w fun e w' => ∃ cb, e = .returned (.slice (some ⟨cb, 0, none⟩) bs.length bs.length) ∧ Blk w' cb 51 (c3 (tellC why rs)).toArray ∧ w.heap.size ≤ cb ∧ GridS w' g ab bs k (rs.map adv) ∧ Only (gblocks g ab bs) w w' := by
  have hmk : ∀ w : World, (Instr.makeSlice 45 (.int .i64 (bs.length : Int)) (.int .i64 (bs.length : Int))).run Try.prog w = .ok (.slice (some ⟨w.heap.size, 0, none⟩) bs.length bs.length) (w.alloc (.cells (c3 (List.replicate bs.length (0, 0, 0))).toArray 51)) := by
    intro w
    have hm := run_make_rowN (P := Try.prog) 45 51 (.agg #[.int .i64 0, .int .i64 0, .int .i64 0]) 24 (k := 3) (by kernel_rfl) infoCell .i64 .i64 bs.length (by have := h.small; omega) (by have := h.small; omega) w
    rw [c3_rep] at hm
    exact hm
  have hx := h.head.cells
  have hll := h.head.lt
  have H := Lib.hid h
  have HT := Lib.hid ht
  have HW := Lib.hid hw
  have HOF := Lib.hid ho
  have hsm := h.small
  have HLT := Lib.hid h.lt
  have HTL := Lib.hid ((tellC_len why rs (by rw [h.len, hl])).trans h.len)
  have g1 : ((why.length : Int) != (bs.length : Int)) = false := by rw [bne_eq_false_iff_eq]; omega
  have HL := Lib.hid hl
  clear h ht hw ho hl
  go_enter Try.func16, Try.ntmps16
  go_wp2_with fail
  go_quiet (fail)
  go_wp2_with fail
  go_loopw [25] (fun i wr => ∃ j : Nat, j ≤ bs.length ∧ i = .int .i64 j ∧ Blk wr w.heap.size 29 #[.pointer (some ⟨g, 0, none⟩)] ∧ Blk wr (w.heap.size + 1) 42 #[.slice Aw why.length cw] ∧ Blk wr (w.heap.size + 1 + 1) 51 (c3 (part j (tellC why rs) bs.length)).toArray ∧ Row wr (.slice Aw why.length cw) (why.map (.int .i64)) ∧ GridS wr g ab bs k (advs j rs) ∧ Only (gblocks g ab bs) w wr) (fun i _ => bs.length - (intOf i).toNat)
  case atStart =>
    have hb : Below w.heap.size w ((((w.alloc (.cells #[.pointer (some ⟨g, 0, none⟩)] 29)).alloc (.cells #[.slice Aw why.length cw] 42)).drewN nq).alloc (.cells (c3 (List.replicate bs.length (0, 0, 0))).toArray 51)) := (Bdrew (by go_grown) nq).alloc (by simp; omega) _
    refine ⟨0, Nat.zero_le _, rfl, ?_, ?_, ?_, HW.out.below hb, ?_, Only.of_below _ hb⟩
    · exact (((Blk.new w _ _ _ rfl).al _).drwN _).al _
    · exact ((Blk.new _ _ _ _ (by simp)).drwN _).al _
    · rw [part_zero]; exact Blk.new _ _ _ _ (by simp [World.drewN])
    · rw [advs_zero]; exact H.out.below hb
  case round =>
    obtain ⟨j, hj, rfl, hp1, hp2, hcb, hwr, hgr, hon⟩ := hrel
    by_cases hlt : j < bs.length
    · obtain ⟨b, hb⟩ : ∃ b, bs[j]? = some b := ⟨_, List.getElem?_eq_getElem hlt⟩
      obtain ⟨r, hr⟩ : ∃ r, rs[j]? = some r := ⟨_, List.getElem?_eq_getElem (by rw [H.out.len]; exact hlt)⟩
      obtain ⟨y, hy⟩ : ∃ y, why[j]? = some y := ⟨_, List.getElem?_eq_getElem (by have := HL.out; omega)⟩
      have hgb := gb_ring g ab (List.mem_of_getElem? hb)
      have hb1 : b.1 < w.heap.size := HLT.out _ hgb.1
      have hb2 : b.2 < w.heap.size := HLT.out _ hgb.2
      have hfr := HT.out r (List.mem_of_getElem? hr)
      obtain ⟨f0, q⟩ := r
      have HP1 := Lib.hid hp1
      have HP2 := Lib.hid hp2
      have HCB := Lib.hid hcb
      have HWR := Lib.hid hwr
      have HGR := Lib.hid hgr
      have HON := Lib.hid hon
      have HB := Lib.hid hb
      have HR := Lib.hid hr
      have HY := Lib.hid hy
      have HGB := Lib.hid hgb
      have hlc := hcb.lt
      clear hx hp1 hp2 hcb hwr hgr hon hb hr hy hgb hmk
      go_wp2_with fail
      refine (tcell_any wr g ab k j w.heap.size (w.heap.size + 1) cw f0 bs (advs j rs) Aw why b q y HGR.out hfr HP1.out HP2.out HWR.out HB.out (advs_at j rs _ HR.out) HY.out (by simp; omega) (by simp; omega) (HOF.out.sub (fun x hx => by simp only [List.mem_cons, List.not_mem_nil, or_false] at hx; rcases hx with rfl | rfl; exact HGB.out.1; exact HGB.out.2))).mono ?_
      rintro e w5 ⟨rfl, hg5, ho5⟩
      rw [advs_set j rs _ HR.out] at hg5
      have hc5 := HCB.out.only ho5 (by simp; omega)
      have HP1' := Lib.hid (HP1.out.only ho5 (by simp; omega))
      have HP2' := Lib.hid (HP2.out.only ho5 (by simp; omega))
      have HWR' := Lib.hid (HWR.out.only ho5 (HOF.out.sub (fun x hx => by simp only [List.mem_cons, List.not_mem_nil, or_false] at hx; rcases hx with rfl | rfl; exact HGB.out.1; exact HGB.out.2)))
      have HON' := Lib.hid (HON.out.trans (only_ring H.out (List.mem_of_getElem? HB.out) ho5))
      have HG5 := Lib.hid hg5
      obtain ⟨z, hz⟩ : ∃ z, (part j (tellC why rs) bs.length)[j]? = some z := ⟨_, List.getElem?_eq_getElem (by rw [part_len _ _ _ (by omega) HTL.out]; exact hlt)⟩
      obtain ⟨z1, z2, z3⟩ := c3_at _ _ _ hz
      have q1 : w5.cell? ⟨w.heap.size + 1 + 1, j * 3, none⟩ = some (.int .i64 z.1) := by rw [hc5.cells]; simpa using z1
      have q2 : w5.cell? ⟨w.heap.size + 1 + 1, j * 3 + 1, none⟩ = some (.int .i64 z.2.1) := by rw [hc5.cells]; simpa using z2
      have q3 : w5.cell? ⟨w.heap.size + 1 + 1, j * 3 + 2, none⟩ = some (.int .i64 z.2.2) := by rw [hc5.cells]; simpa using z3
      have qf := hc5.froz
      have HC5 := Lib.hid hc5
      have HSET := Lib.hid (part_set j bs.length (tellC why rs) (cellOf y (f0, q)) HTL.out (tellC_at why rs j y _ HY.out HR.out))
      clear hg5 ho5 hc5 hz z1 z2 z3 HP1 HP2 HCB HWR HGR HON HB HR HY HGB
      generalize cellOf y (f0, q) = cc at *
      go_wp2
      go_roundw
      case rel =>
        have hset := ((HC5.out.set (j * 3) (.int .i64 cc.1)).set (j * 3 + 1) (.int .i64 cc.2.1)).set (j * 3 + 2) (.int .i64 cc.2.2)
        rw [setArr, setArr, setArr, c3_set, HSET.out] at hset
        have hon : Only [w.heap.size + 1 + 1] w5 (((w5.setCell ⟨w.heap.size + 1 + 1, j * 3, none⟩ (.int .i64 cc.1)).setCell ⟨w.heap.size + 1 + 1, j * 3 + 1, none⟩ (.int .i64 cc.2.1)).setCell ⟨w.heap.size + 1 + 1, j * 3 + 2, none⟩ (.int .i64 cc.2.2)) := (((Only.refl _ _).setCell (p := ⟨w.heap.size + 1 + 1, j * 3, none⟩) (by simp) _).setCell (p := ⟨w.heap.size + 1 + 1, j * 3 + 1, none⟩) (by simp) _).setCell (p := ⟨w.heap.size + 1 + 1, j * 3 + 2, none⟩) (by simp) _
        refine ⟨j + 1, by omega, by go_num, HP1'.out.only hon (by simp; omega), HP2'.out.only hon (by simp), hset, ?_, ?_, ?_⟩
        · exact HW.out.only (((HON'.out.ownCell (p := ⟨w.heap.size + 1 + 1, j * 3, none⟩) (by simp; omega) _).ownCell (p := ⟨w.heap.size + 1 + 1, j * 3 + 1, none⟩) (by simp; omega) _).ownCell (p := ⟨w.heap.size + 1 + 1, j * 3 + 2, none⟩) (by simp; omega) _) HOF.out
        · exact HG5.out.only hon (fun x hx hm => by have := HLT.out x hx; simp only [List.mem_cons, List.not_mem_nil, or_false] at hm; omega)
        · exact ((HON'.out.ownCell (p := ⟨w.heap.size + 1 + 1, j * 3, none⟩) (by simp; omega) _).ownCell (p := ⟨w.heap.size + 1 + 1, j * 3 + 1, none⟩) (by simp; omega) _).ownCell (p := ⟨w.heap.size + 1 + 1, j * 3 + 2, none⟩) (by simp; omega) _
      case measure => simp [intOf]; omega
    · have he : j = bs.length := by omega
      subst he
      go_wp2
      go_ret
      refine ⟨_, rfl, ?_, by omega, ?_, hon⟩
      · have := part_all (tellC why rs)
        rw [HTL.out] at this
        rw [← this]
        exact hcb
      · rw [← H.out.len, advs_all] at hgr
        exact hgr
end Go.Proofs.Ytoiaagdpckgpoaa
