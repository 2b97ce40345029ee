/- Layer 20: talarms, step by step. -/
import Derived.Test.YtcdmojimdiiepaaTechBV
namespace Go.Proofs.Ytcdmojimdiiepaa
open Go.ChangeShapes Go.WideShapes Go.ChangeAt Go.RowKit
set_option linter.unusedVariables false
set_option linter.unusedSimpArgs false


def trun (k : Int) (l m : List Bool) : Nat → Te
  | 0 => ⟨0, false, false, false⟩
  | i + 1 => tstep k (trun k l m i) (l.getD i false) (m.getD i false)
def talarmsTo (k : Int) (l m : List Bool) (n : Nat) : List (Bool × Bool) :=
  (List.range n).map fun i => ((trun k l m (i + 1)).on, (trun k l m (i + 1)).now)
def talarms (k : Int) (l m : List Bool) : List (Bool × Bool) := talarmsTo k l m l.length
theorem talarmsTo_len (k : Int) (l m : List Bool) (n : Nat) : (talarmsTo k l m n).length = n := by simp [talarmsTo]
theorem talarmsTo_succ (k : Int) (l m : List Bool) (n : Nat) : talarmsTo k l m (n + 1) = talarmsTo k l m n ++ [((trun k l m (n + 1)).on, (trun k l m (n + 1)).now)] := by
  simp [talarmsTo, List.range_succ]
theorem tstep_run (k : Int) (s : Te) (x y : Bool) : (tstep k s x y).run = (lst k s x).run := by
  unfold tstep clr
  split <;> rfl
theorem trun_bd (k : Int) (l m : List Bool) (n : Nat) (hh : 1 ≤ k) : 0 ≤ (trun k l m n).run ∧ (trun k l m n).run ≤ k := by
  induction n with
  | zero => exact ⟨Int.le_refl _, by show 0 ≤ k; omega⟩
  | succ n ih =>
    show 0 ≤ (tstep k (trun k l m n) (l.getD n false) (m.getD n false)).run ∧ (tstep k (trun k l m n) (l.getD n false) (m.getD n false)).run ≤ k
    rw [tstep_run]
    unfold lst
    (repeat' split) <;> first | omega | (dsimp only; omega)

set_option maxRecDepth 100000 in
set_option maxHeartbeats 4000000 in
theorem tsteps_any (kk : Int) (vl vm : Value) (l m : List Bool) (w : World) (hh : 1 ≤ kk) (hh2 : kk ≤ 4611686018427387904)
    (hl : Row w vl (l.map .bool)) (hm : Row w vm (m.map .bool)) (hsz : l.length ≤ 1000) :
    Calls Try.prog 26 #[.int .i64 kk, vl, vm] w fun e w' => ∃ v, e = .returned v ∧ RowN 2 w' v l.length (al2 (talarms kk l m)) ∧ Below w.heap.size w w' := by
  obtain ⟨A, c, rfl, hc, hcm, hA⟩ := hl
  obtain ⟨B, d, rfl, hd, hdm, hB⟩ := hm
  rw [List.length_map] at hc hA hd hB ⊢
  rw [List.length_map]
  unfold maxLen at hcm hdm
  have HCL : Hid (∀ k x, l[k]? = some x → ∃ ad, A = some ad ∧ ad.block < w.heap.size ∧ w.cell? (ad.add k) = some (.bool x)) := Lib.hid (by
    intro k x hx
    have hk : k < l.length := (List.getElem?_eq_some_iff.1 hx).1
    rcases hA with ⟨_, h0⟩ | ⟨ad, h1, h2, h3⟩
    · omega
    · exact ⟨ad, h1, h2 (by omega), h3 k _ (by rw [List.getElem?_map, hx]; rfl)⟩)
  have HCM : Hid (∀ k x, m[k]? = some x → ∃ ad, B = some ad ∧ ad.block < w.heap.size ∧ w.cell? (ad.add k) = some (.bool x)) := Lib.hid (by
    intro k x hx
    have hk : k < m.length := (List.getElem?_eq_some_iff.1 hx).1
    rcases hB with ⟨_, h0⟩ | ⟨ad, h1, h2, h3⟩
    · omega
    · exact ⟨ad, h1, h2 (by omega), h3 k _ (by rw [List.getElem?_map, hx]; rfl)⟩)
  clear hA hB
  have hmk := fun w => run_make_rowN (P := Try.prog) 38 53 _ _ Try.underlying38 info39 .i64 .i64 l.length (by omega) (by omega) w
  rw [fill_zero] at hmk
  go_enter Try.func26, Try.ntmps26
  go_wp2_with fail
  go_loopw [17] (fun i wr => ∃ k : Nat, k ≤ l.length ∧ i = .int .i64 k ∧ Below w.heap.size w wr ∧
      Blk wr w.heap.size 53 (fillTo (talarmsTo kk l m k) l.length) ∧ Blk wr (w.heap.size + 1) 80 #[.int .i64 (trun kk l m k).run, .bool (trun kk l m k).on, .bool (trun kk l m k).now, .bool (trun kk l m k).ok]) (fun i _ => l.length - (intOf i).toNat)
  case atStart =>
    refine ⟨0, Nat.zero_le _, rfl, by go_grown, (Blk.new _ _ _ _ rfl).al _, Blk.new _ _ _ _ (by simp)⟩
  case round =>
    obtain ⟨k, hk, rfl, hb, hba, hbs⟩ := hrel
    by_cases hlt : k < l.length
    · obtain ⟨x, hx⟩ : ∃ x, l[k]? = some x := ⟨_, List.getElem?_eq_getElem hlt⟩
      obtain ⟨ad, rfl, had, hcx⟩ := HCL.out k x hx
      have hcx' : wr.cell? (ad.add k) = some (.bool x) := by rw [hb.cell (by rw [block_add]; exact had)]; exact hcx
      have HX := Lib.hid (getD_lt l k false x hx)
      clear hx hcx
      by_cases hkm : k < m.length
      · obtain ⟨y, hy⟩ : ∃ y, m[k]? = some y := ⟨_, List.getElem?_eq_getElem hkm⟩
        obtain ⟨bd, rfl, hbd, hcy⟩ := HCM.out k y hy
        have hcy' : wr.cell? (bd.add k) = some (.bool y) := by rw [hb.cell (by rw [block_add]; exact hbd)]; exact hcy
        have HY := Lib.hid (getD_lt m k false y hy)
        clear hy hcy
        have HBS := Lib.hid hbs
        have HBA := Lib.hid hba
        clear hbs hba
        have hs := HBS.out.cells
        have hsf := HBS.out.froz
        have r0 := trun_bd kk l m k hh
        go_wp2_with fail
        go_still_tail 13, (by kernel_rfl)
        go_wp2_with fail
        refine (tstep_any kk (trun kk l m k) x y _ r0.1 (by omega)).mono ?_
        rintro e w2 ⟨rfl, hbw⟩
        have HBS2 := Lib.hid (HBS.out.drw.below hbw)
        have HBA2 := Lib.hid (HBA.out.drw.below hbw)
        have hb2 : Below w.heap.size w w2 := hb.drew.trans (hbw.mono hb.size)
        have l1 := HBS2.out.lt
        have HE := Lib.hid (show trun kk l m (k + 1) = (tstep kk (trun kk l m k) x y) by show tstep kk (trun kk l m k) (l.getD k false) (m.getD k false) = _; rw [HX.out, HY.out])
        clear hs hsf HBS HBA hbw hcx' hcy' hb
        have hs := HBS2.out.cells
        have hsf := HBS2.out.froz
        have haf := HBA2.out.froz
        have ha0 : w2.cell? ⟨w.heap.size, k * 2, none⟩ = some (.bool false) := by
          have := (fill_at (talarmsTo kk l m k) l.length (by rw [talarmsTo_len]; omega)).1
          rw [talarmsTo_len] at this
          rw [HBA2.out.cells, this]
        have ha1 : w2.cell? ⟨w.heap.size, k * 2 + 1, none⟩ = some (.bool false) := by
          have := (fill_at (talarmsTo kk l m k) l.length (by rw [talarmsTo_len]; omega)).2
          rw [talarmsTo_len] at this
          rw [HBA2.out.cells, this]
        go_wp2
        go_roundw
        case rel =>
          refine ⟨k + 1, by omega, by go_num, ?_, ?_, ?_⟩
          · clear hs hsf haf ha0 ha1; go_grown
          · rw [talarmsTo_succ, HE.out, ← fill_step _ _ _ _ (by rw [talarmsTo_len]; omega), talarmsTo_len]
            exact (((((HBA2.out.setO (by omega) _ _).setO (by omega) _ _).setO (by omega) _ _).setO (by omega) _ _).set _ _).set _ _
          · rw [HE.out]
            exact (((((HBS2.out.set _ _).set _ _).set _ _).set _ _).setO (by omega) _ _).setO (by omega) _ _
        case measure => simp [intOf]; omega
      · have HY := Lib.hid (getD_ge m k (by omega))
        have hdk : decide ((k : Int) < (m.length : Int)) = false := by simpa using hkm
        have HBS := Lib.hid hbs
        have HBA := Lib.hid hba
        clear hbs hba
        have hs := HBS.out.cells
        have hsf := HBS.out.froz
        have r0 := trun_bd kk l m k hh
        go_wp2_with fail
        go_still_tail 13, (by kernel_rfl)
        go_wp2_with fail
        refine (tstep_any kk (trun kk l m k) x false _ r0.1 (by omega)).mono ?_
        rintro e w2 ⟨rfl, hbw⟩
        have HBS2 := Lib.hid (HBS.out.drw.below hbw)
        have HBA2 := Lib.hid (HBA.out.drw.below hbw)
        have hb2 : Below w.heap.size w w2 := hb.drew.trans (hbw.mono hb.size)
        have l1 := HBS2.out.lt
        have HE := Lib.hid (show trun kk l m (k + 1) = (tstep kk (trun kk l m k) x false) by show tstep kk (trun kk l m k) (l.getD k false) (m.getD k false) = _; rw [HX.out, HY.out])
        clear hs hsf HBS HBA hbw hcx'  hb
        have hs := HBS2.out.cells
        have hsf := HBS2.out.froz
        have haf := HBA2.out.froz
        have ha0 : w2.cell? ⟨w.heap.size, k * 2, none⟩ = some (.bool false) := by
          have := (fill_at (talarmsTo kk l m k) l.length (by rw [talarmsTo_len]; omega)).1
          rw [talarmsTo_len] at this
          rw [HBA2.out.cells, this]
        have ha1 : w2.cell? ⟨w.heap.size, k * 2 + 1, none⟩ = some (.bool false) := by
          have := (fill_at (talarmsTo kk l m k) l.length (by rw [talarmsTo_len]; omega)).2
          rw [talarmsTo_len] at this
          rw [HBA2.out.cells, this]
        go_wp2
        go_roundw
        case rel =>
          refine ⟨k + 1, by omega, by go_num, ?_, ?_, ?_⟩
          · clear hs hsf haf ha0 ha1; go_grown
          · rw [talarmsTo_succ, HE.out, ← fill_step _ _ _ _ (by rw [talarmsTo_len]; omega), talarmsTo_len]
            exact (((((HBA2.out.setO (by omega) _ _).setO (by omega) _ _).setO (by omega) _ _).setO (by omega) _ _).set _ _).set _ _
          · rw [HE.out]
            exact (((((HBS2.out.set _ _).set _ _).set _ _).set _ _).setO (by omega) _ _).setO (by omega) _ _
        case measure => simp [intOf]; omega
    · have : k = l.length := by omega
      subst this
      have HBA := Lib.hid (RowN.of_blk (n := l.length) (k := 2) (c := l.length) (xs := al2 (talarms kk l m)) hba (by
        unfold fillTo
        rw [talarmsTo_len]
        simp [talarms]
        rw [List.take_of_length_le (by rw [al2_len, talarmsTo_len]; exact Nat.le_refl _)]) (by rw [al2_len]; unfold talarms; rw [talarmsTo_len]) (Nat.le_refl _) (by unfold maxLen; omega))
      clear hba hbs
      go_wp2
      go_ret
      exact ⟨_, rfl, HBA.out, hb⟩
end Go.Proofs.Ytcdmojimdiiepaa
