/- Layer 19: palarms, step by step. -/
import Derived.Test.YtcdmojimdiiepaaPhysBV
import Derived.Test.YtcdmojimdiiepaaMemC
namespace Go.Proofs.Ytcdmojimdiiepaa
open Go.ChangeShapes Go.WideShapes Go.ChangeAt Go.RowKit
set_option linter.unusedVariables false
set_option linter.unusedSimpArgs false

def prun (h : Int) (la : Bool) (l : List Int) (m : List Bool) : Nat → Ph
  | 0 => ⟨0, false, false⟩
  | i + 1 => pstep h la (prun h la l m i) (l.getD i 0) (m.getD i false)
def palarmsTo (h : Int) (la : Bool) (l : List Int) (m : List Bool) (k : Nat) : List (Bool × Bool) :=
  (List.range k).map fun i => ((prun h la l m (i + 1)).on, (prun h la l m (i + 1)).now)
def palarms (h : Int) (la : Bool) (l : List Int) (m : List Bool) : List (Bool × Bool) := palarmsTo h la l m l.length
theorem palarmsTo_len (h : Int) (la : Bool) (l : List Int) (m : List Bool) (k : Nat) : (palarmsTo h la l m k).length = k := by simp [palarmsTo]
theorem palarmsTo_succ (h : Int) (la : Bool) (l : List Int) (m : List Bool) (k : Nat) : palarmsTo h la l m (k + 1) = palarmsTo h la l m k ++ [((prun h la l m (k + 1)).on, (prun h la l m (k + 1)).now)] := by
  simp [palarmsTo, List.range_succ]
theorem pstep_bd (h : Int) (la : Bool) (s : Ph) (t : Int) (ack : Bool) (hh : 1 ≤ h) (h0 : 0 ≤ s.run) (h1 : s.run ≤ h) : 0 ≤ (pstep h la s t ack).run ∧ (pstep h la s t ack).run ≤ h := by
  unfold pstep akd hrd
  (repeat' split) <;> first | omega | (dsimp only; omega)
theorem prun_bd (h : Int) (la : Bool) (l : List Int) (m : List Bool) (k : Nat) (hh : 1 ≤ h) : 0 ≤ (prun h la l m k).run ∧ (prun h la l m k).run ≤ h := by
  induction k with
  | zero => exact ⟨Int.le_refl _, by show 0 ≤ h; omega⟩
  | succ k ih => exact pstep_bd h la _ _ _ hh ih.1 ih.2

/-- what stands in the row that is laid, behind so many rounds -/
def pfillTo (c : List (Bool × Bool)) (n : Nat) : Array Value := (al2 c ++ List.replicate (2 * (n - c.length)) (Value.bool false)).toArray
theorem pfill_step (c : List (Bool × Bool)) (n : Nat) (a b : Bool) (h : c.length < n) :
    ((pfillTo c n).setIfInBounds (c.length * 2) (.bool a)).setIfInBounds (c.length * 2 + 1) (.bool b) = pfillTo (c ++ [(a, b)]) n := by
  unfold pfillTo
  have e : 2 * (n - c.length) = (2 * (n - (c ++ [(a, b)]).length)) + 1 + 1 := by simp; omega
  rw [e, List.replicate_succ, List.replicate_succ, al2_app]
  simp only [List.setIfInBounds_toArray, List.append_assoc]
  congr 1
  rw [List.set_append_right _ _ (by rw [al2_len]; exact Nat.le_refl _)]
  rw [List.set_append_right _ _ (by rw [al2_len]; omega)]
  rw [al2_len, show c.length * 2 - c.length * 2 = 0 by omega, show c.length * 2 + 1 - c.length * 2 = 1 by omega]
  rfl

theorem pinfo39 : (Try.prog.info? 53).map (fun i => (i.zero, i.size, i.bytes)) = some (some (.agg #[.bool false, .bool false]), 2, 2) := by kernel_rfl
theorem pfill_zero (n : Nat) : madeCells (Value.agg #[.bool false, .bool false]).cells (n * 2) = pfillTo [] n := by
  rw [madeCells_rep _ (.bool false) _ (by simp [Value.cells]; intro i hi; match i, hi with | 0, _ => rfl | 1, _ => rfl) (by simp [Value.cells])]
  unfold pfillTo
  simp [al2, Nat.mul_comm]

theorem pfill_at (c : List (Bool × Bool)) (n : Nat) (h : c.length < n) : (pfillTo c n)[c.length * 2]? = some (.bool false) ∧ (pfillTo c n)[c.length * 2 + 1]? = some (.bool false) := by
  unfold pfillTo
  simp only [List.getElem?_toArray]
  rw [List.getElem?_append_right (by rw [al2_len]; exact Nat.le_refl _), List.getElem?_append_right (by rw [al2_len]; omega), al2_len]
  constructor <;> (rw [List.getElem?_replicate, if_pos (by omega)])

/-- an ack, that is there or not -/
theorem pgetD_ge (m : List Bool) (i : Nat) (h : m.length ≤ i) : m.getD i false = false := by simp [List.getD, List.getElem?_eq_none h]
theorem pgetD_lt {α : Type} (m : List α) (i : Nat) (d x : α) (h : m[i]? = some x) : m.getD i d = x := by simp [List.getD, h]

set_option maxRecDepth 100000 in
set_option maxHeartbeats 4000000 in
theorem steps_any (sl : Value) (h : Int) (la : Bool) (vl vm : Value) (l : List Int) (m : List Bool) (w : World) (hh : 1 ≤ h) (hh2 : h ≤ 4611686018427387904)
    (hl : Row w vl (l.map (.int .i64))) (hm : Row w vm (m.map .bool)) (hsz : l.length ≤ 1000) :
    Calls Try.prog 25 #[.agg #[sl, .int .i64 h, .bool la], vl, vm] w fun e w' => ∃ v, e = .returned v ∧ RowN 2 w' v l.length (al2 (palarms h la l m)) ∧ Below w.heap.size w w' := by
  obtain ⟨A, c, rfl, hc, hcm, hA⟩ := hl
  obtain ⟨B, d, rfl, hd, hdm, hB⟩ := hm
  rw [List.length_map] at hc hA hd hB ⊢
  rw [List.length_map]
  unfold maxLen at hcm hdm
  have HCL : Hid (∀ k x, l[k]? = some x → ∃ ad, A = some ad ∧ ad.block < w.heap.size ∧ w.cell? (ad.add k) = some (.int .i64 x)) := Lib.hid (by
    intro k x hx
    have hk : k < l.length := (List.getElem?_eq_some_iff.1 hx).1
    rcases hA with ⟨_, h0⟩ | ⟨ad, h1, h2, h3⟩
    · omega
    · exact ⟨ad, h1, h2 (by omega), h3 k _ (by rw [List.getElem?_map, hx]; rfl)⟩)
  have HCM : Hid (∀ k x, m[k]? = some x → ∃ ad, B = some ad ∧ ad.block < w.heap.size ∧ w.cell? (ad.add k) = some (.bool x)) := Lib.hid (by
    intro k x hx
    have hk : k < m.length := (List.getElem?_eq_some_iff.1 hx).1
    rcases hB with ⟨_, h0⟩ | ⟨ad, h1, h2, h3⟩
    · omega
    · exact ⟨ad, h1, h2 (by omega), h3 k _ (by rw [List.getElem?_map, hx]; rfl)⟩)
  clear hA hB
  have hmk := fun w => run_make_rowN (P := Try.prog) 38 53 _ _ Try.underlying38 pinfo39 .i64 .i64 l.length (by omega) (by omega) w
  rw [pfill_zero] at hmk
  go_enter Try.func25, Try.ntmps25
  go_wp2_with fail
  refine (at_any _ _ _ _ _ _ _).mono ?_
  rintro e w1 ⟨rfl, rfl⟩
  go_wp2_with fail
  go_loopw [19] (fun i wr => ∃ k : Nat, k ≤ l.length ∧ i = .int .i64 k ∧ Below w.heap.size w wr ∧ Blk wr w.heap.size 50 #[sl, .int .i64 h, .bool la] ∧
      Blk wr (w.heap.size + 1) 53 (pfillTo (palarmsTo h la l m k) l.length) ∧
      ∃ b1 b2 : Nat, w.heap.size < b1 ∧ w.heap.size < b2 ∧ b1 ≠ w.heap.size + 1 ∧ b2 ≠ w.heap.size + 1 ∧ b1 ≠ w.heap.size + 1 + 1 + 1 + 1 + 1 ∧ b2 ≠ w.heap.size + 1 + 1 + 1 + 1 + 1 ∧
        Blk wr (w.heap.size + 1 + 1 + 1 + 1 + 1) 100 #[.int .i64 (prun h la l m k).run, .bool (prun h la l m k).on, .bool (prun h la l m k).now, .func (.func 68) #[] #[.pointer (some ⟨b1, 0, none⟩), .pointer (some ⟨b2, 0, none⟩)]] ∧
        Blk wr b1 50 #[sl, .int .i64 h, .bool la] ∧ Blk wr b2 71 #[.int .i64 (prun h la l m k).run, .bool (prun h la l m k).on, .bool (prun h la l m k).now]) (fun i _ => l.length - (intOf i).toNat)
  case atStart =>
    refine ⟨0, Nat.zero_le _, rfl, by go_grown, ?_, ?_, w.heap.size + 1 + 1, w.heap.size + 1 + 1 + 1, by omega, by omega, by omega, by omega, by omega, by omega, ?_, ?_, ?_⟩
    · exact (((((Blk.new _ _ _ _ rfl).al _).al _).al _).al _).al _
    · exact ((((Blk.new _ _ _ _ (by simp)).al _).al _).al _).al _
    · exact Blk.new _ _ _ _ (by simp)
    · exact (((Blk.new _ _ _ _ (by simp)).al _).al _).al _
    · exact ((Blk.new _ _ _ _ (by simp)).al _).al _
  case round =>
    obtain ⟨k, hk, rfl, hb, hbr, hba, b1, b2, n1, n2, n3, n4, n5, n6, hbs, hb1, hb2⟩ := hrel
    by_cases hlt : k < l.length
    · obtain ⟨x, hx⟩ : ∃ x, l[k]? = some x := ⟨_, List.getElem?_eq_getElem hlt⟩
      obtain ⟨ad, rfl, had, hcx⟩ := HCL.out k x hx
      have hcx' : wr.cell? (ad.add k) = some (.int .i64 x) := by rw [hb.cell (by rw [block_add]; exact had)]; exact hcx
      have HX := Lib.hid (pgetD_lt l k 0 x hx)
      clear hx hcx
      by_cases hkm : k < m.length
      · obtain ⟨y, hy⟩ : ∃ y, m[k]? = some y := ⟨_, List.getElem?_eq_getElem hkm⟩
        obtain ⟨bd, rfl, hbd, hcy⟩ := HCM.out k y hy
        have hcy' : wr.cell? (bd.add k) = some (.bool y) := by rw [hb.cell (by rw [block_add]; exact hbd)]; exact hcy
        have HY := Lib.hid (pgetD_lt m k false y hy)
        clear hy hcy
        have HBS := Lib.hid hbs
        have HBA := Lib.hid hba
        have HBR := Lib.hid hbr
        have HB1 := Lib.hid hb1
        have HB2 := Lib.hid hb2
        clear hbs hba hbr hb1 hb2
        have hs := HBS.out.cells
        have hsf := HBS.out.froz
        go_wp2_with fail
        go_still_tail 13, (by kernel_rfl)
        have r0 := prun_bd h la l m k hh
        go_wp2_with fail
        refine (next_any sl h la (prun h la l m k) x y b1 b2 _ r0.1 (by omega) HB1.out.drw HB2.out.drw).mono ?_
        rintro e w2 ⟨v, rfl, ⟨c1, c2, q1, q2, rfl, p1, p2⟩, hbw⟩
        have HBS2 := Lib.hid (HBS.out.drw.below hbw)
        have HBA2 := Lib.hid (HBA.out.drw.below hbw)
        have HBR2 := Lib.hid (HBR.out.drw.below hbw)
        have hb2 : Below w.heap.size w w2 := hb.drew.trans (hbw.mono hb.size)
        have l1 := HBS.out.lt
        have l2 := HBA.out.lt
        clear hs hsf HBS HBA HBR HB1 HB2 hbw hcx' hcy' hb
        have hs := HBS2.out.cells
        have hsf := HBS2.out.froz
        have haf := HBA2.out.froz
        have ha0 : w2.cell? ⟨w.heap.size + 1, k * 2, none⟩ = some (.bool false) := by
          have := (pfill_at (palarmsTo h la l m k) l.length (by rw [palarmsTo_len]; omega)).1
          rw [palarmsTo_len] at this
          rw [HBA2.out.cells, this]
        have ha1 : w2.cell? ⟨w.heap.size + 1, k * 2 + 1, none⟩ = some (.bool false) := by
          have := (pfill_at (palarmsTo h la l m k) l.length (by rw [palarmsTo_len]; omega)).2
          rw [palarmsTo_len] at this
          rw [HBA2.out.cells, this]
        have HE := Lib.hid (show prun h la l m (k + 1) = pstep h la (prun h la l m k) x y by show pstep h la (prun h la l m k) (l.getD k 0) (m.getD k false) = _; rw [HX.out, HY.out])
        have q1' : wr.heap.size ≤ c1 := q1
        have q2' : wr.heap.size ≤ c2 := q2
        clear q1 q2
        go_wp2
        go_roundw
        case rel =>
          refine ⟨k + 1, by omega, by go_num, ?_, ?_, ?_, c1, c2, by omega, by omega, by omega, by omega, by omega, by omega, ?_, ?_, ?_⟩
          · clear hs hsf haf ha0 ha1; go_grown
          · exact (((((HBR2.out.setO (by omega) _ _).setO (by omega) _ _).setO (by omega) _ _).setO (by omega) _ _).setO (by omega) _ _).setO (by omega) _ _
          · rw [palarmsTo_succ, HE.out, ← pfill_step _ _ _ _ (by rw [palarmsTo_len]; omega), palarmsTo_len]
            exact (((((HBA2.out.setO (by omega) _ _).setO (by omega) _ _).setO (by omega) _ _).setO (by omega) _ _).set _ _).set _ _
          · rw [HE.out]
            exact (((((HBS2.out.set _ _).set _ _).set _ _).set _ _).setO (by omega) _ _).setO (by omega) _ _
          · exact (((((p1.setO (by omega) _ _).setO (by omega) _ _).setO (by omega) _ _).setO (by omega) _ _).setO (by omega) _ _).setO (by omega) _ _
          · rw [HE.out]
            exact (((((p2.setO (by omega) _ _).setO (by omega) _ _).setO (by omega) _ _).setO (by omega) _ _).setO (by omega) _ _).setO (by omega) _ _
        case measure => simp [intOf]; omega
      · have HY := Lib.hid (pgetD_ge m k (by omega))
        have hdk : decide ((k : Int) < (m.length : Int)) = false := by simpa using hkm
        have HBS := Lib.hid hbs
        have HBA := Lib.hid hba
        have HBR := Lib.hid hbr
        have HB1 := Lib.hid hb1
        have HB2 := Lib.hid hb2
        clear hbs hba hbr hb1 hb2
        have hs := HBS.out.cells
        have hsf := HBS.out.froz
        go_wp2_with fail
        go_still_tail 13, (by kernel_rfl)
        have r0 := prun_bd h la l m k hh
        go_wp2_with fail
        refine (next_any sl h la (prun h la l m k) x false b1 b2 _ r0.1 (by omega) HB1.out.drw HB2.out.drw).mono ?_
        rintro e w2 ⟨v, rfl, ⟨c1, c2, q1, q2, rfl, p1, p2⟩, hbw⟩
        have HBS2 := Lib.hid (HBS.out.drw.below hbw)
        have HBA2 := Lib.hid (HBA.out.drw.below hbw)
        have HBR2 := Lib.hid (HBR.out.drw.below hbw)
        have hb2 : Below w.heap.size w w2 := hb.drew.trans (hbw.mono hb.size)
        have l1 := HBS.out.lt
        have l2 := HBA.out.lt
        clear hs hsf HBS HBA HBR HB1 HB2 hbw hcx' hb
        have hs := HBS2.out.cells
        have hsf := HBS2.out.froz
        have haf := HBA2.out.froz
        have ha0 : w2.cell? ⟨w.heap.size + 1, k * 2, none⟩ = some (.bool false) := by
          have := (pfill_at (palarmsTo h la l m k) l.length (by rw [palarmsTo_len]; omega)).1
          rw [palarmsTo_len] at this
          rw [HBA2.out.cells, this]
        have ha1 : w2.cell? ⟨w.heap.size + 1, k * 2 + 1, none⟩ = some (.bool false) := by
          have := (pfill_at (palarmsTo h la l m k) l.length (by rw [palarmsTo_len]; omega)).2
          rw [palarmsTo_len] at this
          rw [HBA2.out.cells, this]
        have HE := Lib.hid (show prun h la l m (k + 1) = pstep h la (prun h la l m k) x false by show pstep h la (prun h la l m k) (l.getD k 0) (m.getD k false) = _; rw [HX.out, HY.out])
        have q1' : wr.heap.size ≤ c1 := q1
        have q2' : wr.heap.size ≤ c2 := q2
        clear q1 q2
        go_wp2
        go_roundw
        case rel =>
          refine ⟨k + 1, by omega, by go_num, ?_, ?_, ?_, c1, c2, by omega, by omega, by omega, by omega, by omega, by omega, ?_, ?_, ?_⟩
          · clear hs hsf haf ha0 ha1; go_grown
          · exact (((((HBR2.out.setO (by omega) _ _).setO (by omega) _ _).setO (by omega) _ _).setO (by omega) _ _).setO (by omega) _ _).setO (by omega) _ _
          · rw [palarmsTo_succ, HE.out, ← pfill_step _ _ _ _ (by rw [palarmsTo_len]; omega), palarmsTo_len]
            exact (((((HBA2.out.setO (by omega) _ _).setO (by omega) _ _).setO (by omega) _ _).setO (by omega) _ _).set _ _).set _ _
          · rw [HE.out]
            exact (((((HBS2.out.set _ _).set _ _).set _ _).set _ _).setO (by omega) _ _).setO (by omega) _ _
          · exact (((((p1.setO (by omega) _ _).setO (by omega) _ _).setO (by omega) _ _).setO (by omega) _ _).setO (by omega) _ _).setO (by omega) _ _
          · rw [HE.out]
            exact (((((p2.setO (by omega) _ _).setO (by omega) _ _).setO (by omega) _ _).setO (by omega) _ _).setO (by omega) _ _).setO (by omega) _ _
        case measure => simp [intOf]; omega
    · have : k = l.length := by omega
      subst this
      have HBA := Lib.hid (RowN.of_blk (n := l.length) (k := 2) (c := l.length) (xs := al2 (palarms h la l m)) hba (by
        unfold pfillTo
        rw [palarmsTo_len]
        simp [palarms]
        rw [List.take_of_length_le (by rw [al2_len, palarmsTo_len]; exact Nat.le_refl _)]) (by rw [al2_len]; unfold palarms; rw [palarmsTo_len]) (Nat.le_refl _) (by unfold maxLen; omega))
      clear hba hbs hbr hb1 hb2
      go_wp2
      go_ret
      exact ⟨_, rfl, HBA.out, hb⟩
end Go.Proofs.Ytcdmojimdiiepaa
