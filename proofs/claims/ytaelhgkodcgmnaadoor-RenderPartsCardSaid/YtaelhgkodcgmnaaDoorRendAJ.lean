/- Layer 23: the document's Read. -/
import Derived.Test.YtaelhgkodcgmnaaDoorRendAI
import Derived.Handy
import Derived.IntWalk
import Derived.StillTailTactics
namespace Go.Proofs.YtaelhgkodcgmnaaDoor
open Go.ChangeShapes Go.WideShapes Go.ChangeAt Go.RowKit Go.Deep
open Go.Shelf
set_option linter.unusedVariables false
set_option linter.unusedSimpArgs false

theorem guess_short {ws : List Str} (h : ws.length ≤ 1) : guess ws = Td.zero := by
  have e1 : gtick ws = 0 := by
    unfold gtick
    rw [List.getElem?_eq_none h]
  unfold guess gst
  rw [List.drop_eq_nil_of_le (by rw [List.length_take]; omega), e1]
  rfl
theorem gstep_one {t : Td} {w : Str} {a : Bool × Bool} (h : ¬ w = [47]) (hg : galarm w = a) : gstep (1, t) w = (1, { t with rules := t.rules ++ [a] }) := by
  unfold gstep
  rw [if_neg h, if_neg (by simp), if_pos rfl, hg]
theorem gstep_two {p : Nat} {t : Td} {w : Str} {a : Bool × Bool} (h : ¬ w = [47]) (hp : 1 < p) (hg : galarm w = a) : gstep (p, t) w = (p, { t with chans := t.chans ++ [a] }) := by
  unfold gstep
  rw [if_neg h, if_neg (by dsimp only; omega), if_neg (by dsimp only; omega), hg]
set_option maxRecDepth 100000 in
set_option maxHeartbeats 8000000 in
theorem rread_short (s : ByteArray) (w : World) (hs : s.size ≤ 900000) (hE : Env w) (hsp : (spl 32 s.data.toList).length ≤ 1) :
    Calls Tryd.prog 12 #[.string s] w fun e w' => ReadQ w' s.data.toList e ∧ Below w.heap.size w w' := by
  have HE := Lib.hid hE
  have HS := Lib.hid hs
  clear hE hs
  go_enter Tryd.func12, Tryd.ntmps12
  go_wp2_with fail
  go_at_call 21
  refine calls_world (fun W => Below w.heap.size w W ∧ Blk W w.heap.size 25 #[.int .i64 0, .slice none 0 0, .slice none 0 0, .slice none 0 0]) ⟨by go_grown, Blk.new _ _ _ _ rfl⟩ fun W0 ⟨hb, hq⟩ => ?_
  refine (split_any s (by have := HS.out; omega) _ (HE.out.below hb)).mono ?_
  rintro e W1 ⟨⟨v1, ps, rfl, hw, hD⟩, hk⟩
  obtain ⟨A, c, rfl, hl⟩ := hw.1.len
  have HB1 := Lib.hid (Btrans hb hk)
  have HQ1 := Lib.hid (hq.below hk)
  have HW := Lib.hid hw
  have HD := Lib.hid hD
  obtain ⟨hsm, hpl⟩ := words_small hD HS.out
  have HSM := Lib.hid hsm
  have HPL := Lib.hid hpl
  clear hb hq hk hw hD hsm hl
  have h1 : ¬ (1 : Int) < (ps.length : Int) := by
    have h2 : (D ps).length = ps.length := by simp [D]
    rw [HD.out] at h2
    omega
  go_wp2_with fail
  go_loopw [6, 7] (fun pt i wr => ∃ (CA : Option Addr) (cc : Nat) (RA : Option Addr) (rc : Nat) (HA_ : Option Addr) (hc : Nat), pt = .int .i64 0 ∧ i = .int .i64 2 ∧ GS W1.heap.size W1.heap.size Td.zero 0 wr CA cc RA rc HA_ hc ∧ Below W1.heap.size W1 wr) (fun _ _ _ => 0)
  case atStart => exact ⟨none, 0, none, 0, none, 0, rfl, rfl, ⟨Blk.new _ _ _ _ rfl, own_nilN _ _, own_nilN _ _, own_nilN _ _, fun g hg => by simp [Value.ownBlock] at hg, fun _ => ⟨rfl, rfl, rfl⟩⟩, by go_grown⟩
  case round =>
    obtain ⟨CA, cc, RA, rc, HA_, hc, rfl, rfl, hg, hb⟩ := hrel
    obtain ⟨t, ht⟩ : ∃ t, t = Td.zero := ⟨_, rfl⟩
    rw [← ht] at hg
    have HG := Lib.hid hg
    have HB := Lib.hid hb
    have H64 := Lib.hid (show td64 t by rw [ht]; exact ⟨⟨by decide, by decide⟩, by simp [Td.zero]⟩)
    have HTOT := Lib.hid (show tot t ≤ 900001 by rw [ht]; decide)
    have HGE := Lib.hid (show t = guess (spl 32 s.data.toList) by
      rw [← HD.out, ht]
      exact (guess_short (by simp [D]; omega)).symm)
    have cB := hg.1.cells
    have lB := hg.1.lt
    have fB := hg.1.froz
    have hl2' : ¬ (2 : Int) < (ps.length : Int) := by omega
    clear hg hb ht
    have HRG := Lib.hid (read_guess s.data.toList)
    rw [← HGE.out] at HRG
    have HBW := Lib.hid (HB1.out.trans (HB.out.mono HB1.out.size))
    have HZ := Lib.hid (HQ1.out.below HB.out)
    have cQ := HZ.out.cells
    have lQ := HZ.out.lt
    have fQ := HZ.out.froz
    have hne : ¬ w.heap.size = W1.heap.size := by have := HQ1.out.lt; omega
    by_cases hs0 : s.data.toList = []
    · have q1 : (s.toList == []) = true := by rw [toList_data, hs0]; rfl
      have HN := Lib.hid (show readR s.data.toList = none by rw [HRG.out]; exact if_neg (fun h => h.1 hs0))
      clear hs0
      go_wp2_with fail
      refine bodyPost_ret (v := .tuple #[.agg #[.int .i64 0, .slice none 0 0, .slice none 0 0, .slice none 0 0], .bool false]) (by simp [results, Tryd.results12, go_sem, cQ, lQ]) rfl ?_
      exact ⟨⟨_, Td.zero, false, rfl, ToldV.zero_, .inr ⟨rfl, HN.out, rfl⟩⟩, HBW.out.trans (by go_grown)⟩
    · have q1 : (s.toList == []) = false := by rw [toList_data, beq_eq_false_iff_ne]; exact hs0
      have HS0 := Lib.hid hs0
      clear hs0
      go_wp2_with fail
      go_at_call 16
      refine (rline_any _ t _ HG.out.told.told H64.out (HE.out.below HBW.out) (by have := HTOT.out; unfold tot at this; omega)).mono ?_
      rintro e U ⟨rfl, hk⟩
      have HBU := Lib.hid (Btrans HBW.out hk)
      have HQU := Lib.hid (HZ.out.below hk)
      have HGU := Lib.hid (HG.out.below hk)
      clear hk cQ lQ fQ cB lB fB
      have cQ := HQU.out.cells
      have lQ := HQU.out.lt
      have fQ := HQU.out.froz
      have cX := HGU.out.1.cells
      have lX := HGU.out.1.lt
      by_cases hl2 : lineR t = s.data.toList
      · have hcmp : ((strB (lineR t)).toList == s.toList) = true := by
          rw [toList_data, toList_data, strB_data, hl2]
          exact beq_self_eq_true _
        have HY := Lib.hid (show readR s.data.toList = some t by rw [HRG.out]; exact if_pos ⟨HS0.out, hl2⟩)
        have HOUT := Lib.hid (fun u1 u2 u3 u4 => told_setT (g := w.heap.size) u1 u2 u3 u4 HQU.out HGU.out.told)
        have HBX := Lib.hid (fun u1 u2 u3 u4 => (((HBU.out.setCell (p := ⟨w.heap.size, 0, none⟩) (Nat.le_refl _) u1).setCell (p := ⟨w.heap.size, 1, none⟩) (Nat.le_refl _) u2).setCell (p := ⟨w.heap.size, 2, none⟩) (Nat.le_refl _) u3).setCell (p := ⟨w.heap.size, 3, none⟩) (Nat.le_refl _) u4)
        clear hl2
        go_wp2_with fail
        refine bodyPost_ret (v := .tuple #[.agg #[.int .i64 t.tick, .slice CA (t.cells.length) cc, .slice RA (t.rules.length) rc, .slice HA_ (t.chans.length) hc], .bool true]) (by simp [results, Tryd.results12, go_sem, cQ, lQ]) rfl ?_
        exact ⟨⟨_, t, true, rfl, (HOUT.out _ _ _ _).told, .inl ⟨rfl, HY.out⟩⟩, HBX.out _ _ _ _⟩
      · have hcmp : ((strB (lineR t)).toList == s.toList) = false := by
          rw [toList_data, toList_data, strB_data, beq_eq_false_iff_ne]
          exact hl2
        have HN := Lib.hid (show readR s.data.toList = none by rw [HRG.out]; exact if_neg (fun h => hl2 h.2))
        clear hl2
        go_wp2_with fail
        refine bodyPost_ret (v := .tuple #[.agg #[.int .i64 0, .slice none 0 0, .slice none 0 0, .slice none 0 0], .bool false]) (by simp [results, Tryd.results12, go_sem, cQ, lQ]) rfl ?_
        exact ⟨⟨_, Td.zero, false, rfl, ToldV.zero_, .inr ⟨rfl, HN.out, rfl⟩⟩, HBU.out.trans (by go_grown)⟩
end Go.Proofs.YtaelhgkodcgmnaaDoor
