/- Layer 23: Read. -/
import Derived.Test.YtaelhgkodcgmnaaDoorRendAC
namespace Go.Proofs.YtaelhgkodcgmnaaDoor
open Go.ChangeShapes Go.WideShapes Go.ChangeAt Go.RowKit Go.Deep
open Go.Shelf
set_option linter.unusedVariables false
set_option linter.unusedSimpArgs false

/-- what a text tells -/
def ReadQ (w' : World) (s : Str) (e : Ending) : Prop := ∃ v t o, e = .returned (.tuple #[v, .bool o]) ∧ ToldV w' v t ∧ ((o = true ∧ readR s = some t) ∨ (o = false ∧ readR s = none ∧ t = Td.zero))
theorem words_small {s : ByteArray} {ps : List ByteArray} (h : D ps = spl 32 s.data.toList) (hs : s.size ≤ 900000) : (∀ p ∈ ps, p.size < 4294967281) ∧ ps.length ≤ 900001 := by
  refine ⟨fun p hp => ?_, ?_⟩
  · have h1 : p.data.toList ∈ D ps := List.mem_map.2 ⟨p, hp, rfl⟩
    rw [h] at h1
    have h2 := spl_small _ _ _ h1
    have h3 : s.data.toList.length = s.size := by rfl
    have h4 : p.data.toList.length = p.size := by rfl
    omega
  · have h1 := spl_len 32 s.data.toList
    have h3 : s.data.toList.length = s.size := by rfl
    have h4 : (D ps).length = ps.length := by simp [D]
    rw [← h, h4] at h1
    omega
theorem told_setT {W : World} {g : Nat} {cg : Array Value} {v : Value} {t : Td} (u1 u2 u3 u4 : Value) (hz : Blk W g 25 cg) (h : ToldO W v t) :
    ToldO ((((W.setCell ⟨g, 0, none⟩ u1).setCell ⟨g, 1, none⟩ u2).setCell ⟨g, 2, none⟩ u3).setCell ⟨g, 3, none⟩ u4) v t := by
  have z1 := hz.set 0 u1
  have z2 := z1.set 1 u2
  have z3 := z2.set 2 u3
  exact (((h.setCell hz (by decide) (by decide)).setCell z1 (by decide) (by decide)).setCell z2 (by decide) (by decide)).setCell z3 (by decide) (by decide)
set_option maxRecDepth 100000 in
set_option maxHeartbeats 4000000 in
theorem read_any (s : ByteArray) (w : World) (hs : s.size ≤ 900000) (hE : Env w) :
    Calls Tryd.prog 11 #[.string s] w fun e w' => ReadQ w' s.data.toList e ∧ Below w.heap.size w w' := by
  have HE := Lib.hid hE
  have HS := Lib.hid hs
  clear hE hs
  go_enter Tryd.func11, Tryd.ntmps11
  go_wp2_with fail
  go_at_call 21
  refine calls_world (fun W => Below w.heap.size w W ∧ Blk W w.heap.size 25 #[.int .i64 0, .slice none 0 0, .slice none 0 0, .slice none 0 0]) ⟨by go_grown, Blk.new _ _ _ _ rfl⟩ fun W0 ⟨hb, hq⟩ => ?_
  refine (split_any s (by have := HS.out; omega) _ (HE.out.below hb)).mono ?_
  rintro e W1 ⟨⟨v1, ps, rfl, hw, hD⟩, hk⟩
  have HB1 := Lib.hid (Btrans hb hk)
  have HQ1 := Lib.hid (hq.below hk)
  have HW := Lib.hid hw
  have HD := Lib.hid hD
  obtain ⟨hsm, hpl⟩ := words_small hD HS.out
  have HSM := Lib.hid hsm
  have HPL := Lib.hid hpl
  clear hb hq hk hw hD hsm hpl
  go_wp2_with fail
  go_at_call 23
  refine (told_any v1 ps _ HW.out (HE.out.below HB1.out) HSM.out (by have := HPL.out; omega)).mono ?_
  rintro e W2 ⟨⟨v, t, o, rfl, hT, ht⟩, hk⟩
  have HB2 := Lib.hid (Btrans HB1.out hk)
  have HQ2 := Lib.hid (HQ1.out.below hk)
  have HT := Lib.hid hT
  have HR := Lib.hid (show toldR (spl 32 s.data.toList) = if o = true then some t else none by rw [← HD.out]; exact ht)
  have hw2 := HB2.out.size
  clear hk hT ht
  have cQ := HQ2.out.cells
  have lQ := HQ2.out.lt
  have fQ := HQ2.out.froz
  obtain ⟨_, _, _, CA, cc, RA, rc, HA_, hc, hv, _, _, _⟩ := HT.out
  subst hv
  cases o
  · have HN := Lib.hid (show readR s.data.toList = none by unfold readR; rw [HR.out]; rfl)
    go_wp2_with fail
    refine bodyPost_ret (v := .tuple #[.agg #[.int .i64 0, .slice none 0 0, .slice none 0 0, .slice none 0 0], .bool false]) (by simp [results, Tryd.results11, go_sem, cQ, lQ]) rfl ?_
    exact ⟨⟨_, Td.zero, false, rfl, ToldV.zero_, .inr ⟨rfl, HN.out, rfl⟩⟩, HB2.out.trans (by go_grown)⟩
  · have HR2 := Lib.hid (show toldR (spl 32 s.data.toList) = some t from HR.out)
    clear cQ lQ fQ
    go_wp2_with fail
    go_at_call 15
    refine calls_world (fun W => Below W2.heap.size W2 W ∧ Blk W W2.heap.size 25 #[.int .i64 t.tick, .slice CA t.cells.length cc, .slice RA t.rules.length rc, .slice HA_ t.chans.length hc]) ⟨by go_grown, Blk.new _ _ _ _ (by first | rfl | simp)⟩ fun W3 ⟨hb, hq⟩ => ?_
    refine (line_any _ t _ (HT.out.told.below hb) (told_64 HR2.out) (HE.out.below (Btrans HB2.out hb)) (by
      have h1 := told_len HR2.out
      rw [← HD.out] at h1
      have h2 : (D ps).length = ps.length := by simp [D]
      have h3 := HPL.out
      omega)).mono ?_
    rintro e W4 ⟨rfl, hk⟩
    have HB4 := Lib.hid (Btrans (Btrans HB2.out hb) hk)
    have HQ4 := Lib.hid ((HQ2.out.below hb).below hk)
    have HX4 := Lib.hid (hq.below hk)
    have HT4 := Lib.hid ((HT.out.below hb).below hk)
    clear hb hq hk
    have cQ := HQ4.out.cells
    have lQ := HQ4.out.lt
    have fQ := HQ4.out.froz
    have cX := HX4.out.cells
    have lX := HX4.out.lt
    have hne : ¬ w.heap.size = W2.heap.size := by have := HQ2.out.lt; omega
    by_cases hl : lineR t = s.data.toList
    · have hcmp : ((strB (lineR t)).toList == s.toList) = true := by
        rw [toList_data, toList_data, strB_data, hl]
        exact beq_self_eq_true _
      have HY := Lib.hid (show readR s.data.toList = some t by unfold readR; rw [HR2.out]; exact if_pos hl)
      have HOUT := Lib.hid (fun u1 u2 u3 u4 => told_setT (g := w.heap.size) u1 u2 u3 u4 HQ4.out HT4.out)
      have HBW := Lib.hid (fun u1 u2 u3 u4 => (((HB4.out.setCell (p := ⟨w.heap.size, 0, none⟩) (Nat.le_refl _) u1).setCell (p := ⟨w.heap.size, 1, none⟩) (Nat.le_refl _) u2).setCell (p := ⟨w.heap.size, 2, none⟩) (Nat.le_refl _) u3).setCell (p := ⟨w.heap.size, 3, none⟩) (Nat.le_refl _) u4)
      clear hl
      go_wp2_with fail
      refine bodyPost_ret (v := .tuple #[.agg #[.int .i64 t.tick, .slice CA t.cells.length cc, .slice RA t.rules.length rc, .slice HA_ t.chans.length hc], .bool true]) (by simp [results, Tryd.results11, go_sem, cQ, lQ]) rfl ?_
      exact ⟨⟨_, t, true, rfl, (HOUT.out _ _ _ _).told, .inl ⟨rfl, HY.out⟩⟩, HBW.out _ _ _ _⟩
    · have hcmp : ((strB (lineR t)).toList == s.toList) = false := by
        rw [toList_data, toList_data, strB_data, beq_eq_false_iff_ne]
        exact hl
      have HN := Lib.hid (show readR s.data.toList = none by unfold readR; rw [HR2.out]; exact if_neg hl)
      clear hl
      go_wp2_with fail
      refine bodyPost_ret (v := .tuple #[.agg #[.int .i64 0, .slice none 0 0, .slice none 0 0, .slice none 0 0], .bool false]) (by simp [results, Tryd.results11, go_sem, cQ, lQ]) rfl ?_
      exact ⟨⟨_, Td.zero, false, rfl, ToldV.zero_, .inr ⟨rfl, HN.out, rfl⟩⟩, HB4.out.trans (by go_grown)⟩
end Go.Proofs.YtaelhgkodcgmnaaDoor
