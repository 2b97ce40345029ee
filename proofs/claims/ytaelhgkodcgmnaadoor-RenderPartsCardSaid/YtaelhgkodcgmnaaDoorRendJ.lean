/- Layer 23: words of a writer. -/
import Derived.Test.YtaelhgkodcgmnaaDoorRendH
namespace Go.Proofs.YtaelhgkodcgmnaaDoor
open Go.ChangeShapes Go.WideShapes Go.ChangeAt Go.RowKit Go.Deep
open Go.Shelf
set_option linter.unusedVariables false
set_option linter.unusedSimpArgs false

/-- what a word adds to what a line holds -/
def addW (l : Str) (w : Str) : Str := (if l = [] then [] else l ++ [32]) ++ w
theorem byteCells_app (a b : Str) : Lib.byteCells (a ++ b) = Lib.byteCells a ++ Lib.byteCells b := by simp [Lib.byteCells]
theorem strCells_eq (s : ByteArray) : Lib.strCells s = Lib.byteCells s.data.toList := rfl
/-- a row of strings -/
def SRow (w : World) (v : Value) (ps : List ByteArray) : Prop := Row w v (ps.map Value.string)
theorem SRow.below {w w' : World} {v : Value} {ps : List ByteArray} (h : SRow w v ps) (hb : Below w.heap.size w w') : SRow w' v ps := Row.below h hb
theorem SRow.at {w : World} {A : Option Addr} {n c : Nat} {ps : List ByteArray} (h : SRow w (.slice A n c) ps) {i : Nat} {s : ByteArray} (hi : ps[i]? = some s) : ∃ ad, A = some ad ∧ (ad.add i).block < w.heap.size ∧ w.cell? (ad.add i) = some (.string s) := by
  obtain ⟨A1, c1, e, h2, h3, h4⟩ := h
  injection e with e1 e2 e3
  subst e1
  have hx : (ps.map Value.string)[i]? = some (.string s) := by rw [List.getElem?_map, hi]; rfl
  rcases h4 with ⟨_, h5⟩ | ⟨ad, rfl, hb, hc⟩
  · have := (List.getElem?_eq_some_iff.1 hi).1
    simp at h2
    omega
  · exact ⟨ad, rfl, by rw [block_add]; exact hb (by have := (List.getElem?_eq_some_iff.1 hi).1; simp; omega), hc i _ hx⟩
theorem SRow.len {w : World} {v : Value} {ps : List ByteArray} (h : SRow w v ps) : ∃ A c, v = .slice A ps.length c ∧ ps.length ≤ 9223372036854775807 := by
  obtain ⟨A, c, e, h2, h3, _⟩ := h
  rw [List.length_map] at e h2
  unfold maxLen at h3
  exact ⟨A, c, e, by omega⟩
def catB (ps : List ByteArray) : Str := ps.flatMap fun p => p.data.toList
/-- below B nothing turns; a row of the caller's that lies elsewhere stays -/
theorem SRow.keepB {w w' : World} {v : Value} {ps : List ByteArray} {B : Nat} (h : SRow w v ps) (hb : Below B w w') (hl : w.heap.size ≤ B) : SRow w' v ps := h.below (hb.mono hl)
/-- a block of another kind stays where a writer wrote -/
theorem Blk.others {w w' : World} {g b : Nat} {t : TypeId} {cs : Array Value} (h : Blk w g t cs) (hk : Lib.OthersKept 5 (some b) w w') (hg : g ≠ b) (ht : t ≠ 5) : Blk w' g t cs := hk g _ h (fun e => hg (Option.some.inj e)) (fun c fz e => by injection e with _ e _; exact ht e)
def sep (l : Str) : Str := if l = [] then [] else l ++ [32]
theorem sep_len (l : Str) : (sep l).length ≤ l.length + 1 := by
  unfold sep
  split <;> simp
theorem catB_le (ps : List ByteArray) (k : Nat) : (catB (ps.take k)).length ≤ (catB ps).length := by
  have e : catB ps = catB (ps.take k) ++ catB (ps.drop k) := by
    unfold catB
    rw [← List.flatMap_append, List.take_append_drop]
  rw [e, List.length_append]
  omega
set_option maxRecDepth 100000 in
set_option maxHeartbeats 4000000 in
theorem word_any (B b g : Nat) (l : Str) (ps : List ByteArray) (w : World) (h : IsWr B b (Lib.byteCells l) w) (hp : Blk w g 9 (ps.map Value.string).toArray) (hgb : g ≠ b) (hlen : l.length + 1 + (catB ps).length ≤ 1099511627776) (hBw : B ≤ w.heap.size) (hn : ps.length ≤ 10) :
    Calls Tryd.prog 27 #[.pointer (some ⟨b, 0, none⟩), .slice (some ⟨g, 0, none⟩) ps.length ps.length] w fun e w' => e = .returned (.tuple #[]) ∧ IsWr B b (Lib.byteCells (sep l ++ catB ps)) w' ∧ Below B w w' ∧ Lib.OthersKept 5 (some b) w w' := by
  have HP0 := Lib.hid hp
  have HLen := Lib.hid hlen
  have H0 := Lib.hid h
  clear hp hlen h
  by_cases hl : l = []
  · have HS := Lib.hid (show sep l = l by rw [hl]; rfl)
    have hz : (Lib.byteCells l).length = 0 := by rw [hl]; rfl
    have HZ := Lib.hid hz
    clear hl hz
    go_enter Tryd.func27, Tryd.ntmps27
    go_wp2_with fail
    go_at_call 47
    refine (len_any B b _ _ H0.out).mono ?_
    rintro e w1 ⟨rfl, hw⟩
    rw [hw, HZ.out]
    clear hw w1
    go_wp2_with fail
    go_loopw [17] (fun i wr => ∃ k : Nat, k ≤ ps.length ∧ i = .int .i64 k ∧ IsWr B b (Lib.byteCells (sep l ++ catB (ps.take k))) wr ∧ Below B w wr ∧ Lib.OthersKept 5 (some b) w wr) (fun i _ => ps.length - (intOf i).toNat)
    case atStart => exact ⟨0, Nat.zero_le _, rfl, by rw [HS.out]; simpa [catB] using H0.out, Below.refl _ _, Lib.OthersKept.refl _ _ _⟩
    case round =>
      obtain ⟨k, hk, rfl, hI, hb, ho⟩ := hrel
      have HI := Lib.hid hI
      have HB := Lib.hid hb
      have HO := Lib.hid ho
      have hbs := hb.size
      clear hI hb ho
      by_cases hlt : k < ps.length
      · obtain ⟨x, hx⟩ : ∃ x, ps[k]? = some x := ⟨_, List.getElem?_eq_getElem hlt⟩
        have ck : wr.cell? ⟨g, k, none⟩ = some (.string x) := by
          rw [(Blk.others HP0.out HO.out hgb (by decide)).cells]
          simp [hx]
        have hkl : (k : Int) < (ps.length : Int) := by omega
        have HTK := Lib.hid (show catB (ps.take (k + 1)) = catB (ps.take k) ++ x.data.toList by rw [List.take_add_one, hx]; simp [catB])
        have HLE := Lib.hid (show (sep l ++ catB (ps.take k)).length + x.size ≤ 1099511627777 by
          have h1 := catB_le ps (k + 1)
          have h2 := HTK.out
          have h3 := congrArg List.length h2
          rw [List.length_append] at h3
          have h4 := sep_len l
          have h5 := HLen.out
          rw [List.length_append, Lib.size_eq]
          omega)
        clear hx
        go_wp2_with fail
        go_at_call 35
        refine (wstr_any B b _ x _ HI.out (by have := HLE.out; rw [Lib.byteCells_length]; omega) (by omega)).mono ?_
        rintro e W2 ⟨rfl, h2, hb2, hk2⟩
        have HI2 := Lib.hid (show IsWr B b (Lib.byteCells (sep l ++ catB (ps.take (k + 1)))) W2 by
          rw [HTK.out, ← List.append_assoc, byteCells_app, ← strCells_eq]
          exact .inr h2)
        have HB2 := Lib.hid (HB.out.trans hb2)
        have HO2 := Lib.hid (HO.out.trans hk2)
        clear h2 hb2 hk2 ck
        go_wp2
        go_roundw
        case rel => exact ⟨k + 1, by omega, by go_num, HI2.out, HB2.out, HO2.out⟩
        case measure => simp [intOf]; omega
      · obtain rfl : k = ps.length := by omega
        rw [List.take_length] at HI
        go_wp2
        go_end0
        exact ⟨rfl, HI.out, HB.out, HO.out⟩
  · have HS := Lib.hid (show sep l = l ++ [32] from if_neg hl)
    have hz : 0 < (Lib.byteCells l).length := by rw [Lib.byteCells_length]; exact List.length_pos_iff.2 hl
    obtain ⟨z, hzz⟩ : ∃ z, z = (Lib.byteCells l).length := ⟨_, rfl⟩
    rw [← hzz] at hz
    have HZ := Lib.hid hzz
    have HZL := Lib.hid (show (Lib.byteCells l).length + 1 ≤ 140737488355328 by have := HLen.out; rw [Lib.byteCells_length]; omega)
    have hzi : (0 : Int) < (z : Int) := by omega
    clear hl hzz
    go_enter Tryd.func27, Tryd.ntmps27
    go_wp2_with fail
    go_at_call 47
    refine (len_any B b _ _ H0.out).mono ?_
    rintro e w1 ⟨rfl, hw⟩
    rw [hw, ← HZ.out]
    clear hw w1
    go_wp2_with fail
    go_at_call 36
    refine (wbyte_any B b _ 32 _ H0.out HZL.out hBw).mono ?_
    rintro e W1 ⟨rfl, h1, hb1, hk1⟩
    have H1 := Lib.hid (show IsWr B b (Lib.byteCells (sep l ++ catB (ps.take 0))) W1 by
      rw [HS.out]
      have : Lib.byteCells (l ++ [32] ++ catB (ps.take 0)) = Lib.byteCells l ++ [.int .u8 32] := by simp [catB, Lib.byteCells]
      rw [this]
      exact .inr h1)
    have HB1 := Lib.hid hb1
    have HK1 := Lib.hid hk1
    clear h1 hb1 hk1
    go_wp2_with fail
    go_loopw [17] (fun i wr => ∃ k : Nat, k ≤ ps.length ∧ i = .int .i64 k ∧ IsWr B b (Lib.byteCells (sep l ++ catB (ps.take k))) wr ∧ Below B w wr ∧ Lib.OthersKept 5 (some b) w wr) (fun i _ => ps.length - (intOf i).toNat)
    case atStart => exact ⟨0, Nat.zero_le _, rfl, H1.out, HB1.out, HK1.out⟩
    case round =>
      obtain ⟨k, hk, rfl, hI, hb, ho⟩ := hrel
      have HI := Lib.hid hI
      have HB := Lib.hid hb
      have HO := Lib.hid ho
      have hbs := hb.size
      clear hI hb ho
      by_cases hlt : k < ps.length
      · obtain ⟨x, hx⟩ : ∃ x, ps[k]? = some x := ⟨_, List.getElem?_eq_getElem hlt⟩
        have ck : wr.cell? ⟨g, k, none⟩ = some (.string x) := by
          rw [(Blk.others HP0.out HO.out hgb (by decide)).cells]
          simp [hx]
        have hkl : (k : Int) < (ps.length : Int) := by omega
        have HTK := Lib.hid (show catB (ps.take (k + 1)) = catB (ps.take k) ++ x.data.toList by rw [List.take_add_one, hx]; simp [catB])
        have HLE := Lib.hid (show (sep l ++ catB (ps.take k)).length + x.size ≤ 1099511627777 by
          have h1 := catB_le ps (k + 1)
          have h2 := HTK.out
          have h3 := congrArg List.length h2
          rw [List.length_append] at h3
          have h4 := sep_len l
          have h5 := HLen.out
          rw [List.length_append, Lib.size_eq]
          omega)
        clear hx
        go_wp2_with fail
        go_at_call 35
        refine (wstr_any B b _ x _ HI.out (by have := HLE.out; rw [Lib.byteCells_length]; omega) (by omega)).mono ?_
        rintro e W2 ⟨rfl, h2, hb2, hk2⟩
        have HI2 := Lib.hid (show IsWr B b (Lib.byteCells (sep l ++ catB (ps.take (k + 1)))) W2 by
          rw [HTK.out, ← List.append_assoc, byteCells_app, ← strCells_eq]
          exact .inr h2)
        have HB2 := Lib.hid (HB.out.trans hb2)
        have HO2 := Lib.hid (HO.out.trans hk2)
        clear h2 hb2 hk2 ck
        go_wp2
        go_roundw
        case rel => exact ⟨k + 1, by omega, by go_num, HI2.out, HB2.out, HO2.out⟩
        case measure => simp [intOf]; omega
      · obtain rfl : k = ps.length := by omega
        rw [List.take_length] at HI
        go_wp2
        go_end0
        exact ⟨rfl, HI.out, HB.out, HO.out⟩
end Go.Proofs.YtaelhgkodcgmnaaDoor
