/- Layer 4: a packet is laid; Data. -/
import Derived.Test.YtgklbmhihfmagaaPackD
import Derived.StillTailTactics
namespace Go.Proofs.Ytgklbmhihfmagaa
open Go.ChangeShapes Go.WideShapes Go.ChangeAt Go.RowKit
set_option linter.unusedVariables false
set_option linter.unusedSimpArgs false

theorem Side.drew {g : Nat} {a b : World} (h : Side g a b) : Side g a b.drew := ⟨h.os, h.tape, h.output, h.size, h.block⟩

set_option maxRecDepth 100000 in
set_option maxHeartbeats 4000000 in
theorem packet_any (g N : Nat) (p : Pk) (vs : Value) (w0 w : World) (hr : p.right) (hN : N = 10 + 2 * p.vals.length) (hI : Ints .i64 w0 vs p.vals) (hw : Below w0.heap.size w0 w) (hg : w0.heap.size ≤ g) (hL : Laid w g N []) :
    Calls Try.prog 41 #[.agg #[.slice (some ⟨g, 0, none⟩) N N], .agg #[.int .i64 p.dev, .int .i64 p.chan, .int .i64 p.boot, .int .i64 p.seq, .int .i64 p.stamp, vs]] w fun e w' =>
      e = .returned (.tuple #[]) ∧ Laid w' g N p.data ∧ Side g w w' := by
  obtain ⟨⟨A, cp, rfl, hcp, hcm, hA⟩, hwf⟩ := hI
  rw [List.length_map] at hcp hA ⊢
  have HC : Hid (∀ (k : Nat) (x : Int), p.vals[k]? = some x → ∃ ad, A = some ad ∧ ad.block < w0.heap.size ∧ w0.cell? (ad.add k) = some (.int .i64 x)) := Lib.hid (by
    intro k x hx
    have hk : k < p.vals.length := (List.getElem?_eq_some_iff.1 hx).1
    rcases hA with ⟨_, h0⟩ | ⟨ad, h1, h2, h3⟩
    · omega
    · exact ⟨ad, h1, h2 (by omega), h3 k _ (by rw [List.getElem?_map, hx]; rfl)⟩)
  obtain ⟨hh, ⟨hv1, hv8⟩, hvo⟩ := hr
  have HH := Lib.hid hh
  have HVO := Lib.hid hvo
  have HL := Lib.hid hL
  have lg := hL.lt
  have hN26 : N ≤ 26 := by omega
  have HNN := Lib.hid hN
  clear hA hwf hcm hL hh hvo hN
  go_enter Try.func41, Try.ntmps41
  go_wp2_with fail
  have HW := Lib.hid ((Blk.new w 75 #[.slice (some ⟨g, 0, none⟩) N N] _ rfl).al (.cells #[.int .i64 p.dev, .int .i64 p.chan, .int .i64 p.boot, .int .i64 p.seq, .int .i64 p.stamp, .slice A p.vals.length cp] 31))
  have HP := Lib.hid (Blk.new (w.alloc (.cells #[.slice (some ⟨g, 0, none⟩) N N] 75)) 31 #[.int .i64 p.dev, .int .i64 p.chan, .int .i64 p.boot, .int .i64 p.seq, .int .i64 p.stamp, .slice A p.vals.length cp] _ rfl)
  refine (headOf_any _ _ _ _ _ _ _).mono ?_
  rintro e w1 ⟨rfl, hk⟩
  have hb1 : Below w.heap.size w w1 := (show Below w.heap.size w _ by go_grown).trans (hk.mono (by simp; omega))
  have HP1 := Lib.hid (HP.out.below hk)
  have HW1 := Lib.hid (HW.out.below hk)
  have sz1 : w.heap.size + 2 ≤ w1.heap.size := by have := hk.size; simp at this; omega
  clear hk HP HW
  go_wp2_with fail
  have HN := Lib.hid (Blk.new w1 97 #[.int .i64 p.dev, .int .i64 p.chan, .int .i64 p.boot, .int .i64 p.seq, .int .i64 p.stamp] _ rfl)
  refine (heads_any _).mono ?_
  rintro e w2 ⟨rfl, hk⟩
  have hb2 : Below w.heap.size w w2 := (hb1.alloc hb1.size _).trans (hk.mono (by have := hb1.size; simp; omega))
  have HP2 := Lib.hid ((HP1.out.al _).below hk)
  have HW2 := Lib.hid ((HW1.out.al _).below hk)
  have HN2 := Lib.hid (HN.out.below hk)
  have sz2 : w1.heap.size + 1 ≤ w2.heap.size := by have := hk.size; simp at this; omega
  clear hk HP1 HN HW1
  go_wp2_with fail
  go_loopw [12] (fun i wr => ∃ k : Nat, k ≤ 5 ∧ i = .int .i64 k ∧ Side g w wr ∧ w1.heap.size < wr.heap.size ∧ Laid wr g N (hdata p k) ∧ Blk wr w1.heap.size 97 #[.int .i64 p.dev, .int .i64 p.chan, .int .i64 p.boot, .int .i64 p.seq, .int .i64 p.stamp] ∧ Blk wr (w.heap.size + 1) 31 #[.int .i64 p.dev, .int .i64 p.chan, .int .i64 p.boot, .int .i64 p.seq, .int .i64 p.stamp, .slice A p.vals.length cp] ∧ Blk wr w.heap.size 75 #[.slice (some ⟨g, 0, none⟩) N N]) (fun i _ => 5 - (intOf i).toNat)
  case atStart => exact ⟨0, by omega, rfl, Side.of_below hb2, by omega, HL.out.below hb2, HN2.out, by simpa using HP2.out, HW2.out⟩
  case round =>
    obtain ⟨k, hk, rfl, hs, hsz, hl, hn, hp, hwt⟩ := hrel
    have HNr := Lib.hid hn
    have HPr := Lib.hid hp
    have HWr := Lib.hid hwt
    have HLr := Lib.hid hl
    by_cases h5 : k = 5
    · subst h5
      have hxP := hp.cells
      have HSz := Lib.hid hsz
      clear hp hn hwt hl HNr HN2 HP2 HW2 hsz
      go_wp2_with fail
      rw [show ((5 : Nat) : Int) = 5 from rfl]
      go_loopw [27] (fun i wr => ∃ k : Nat, k ≤ p.vals.length ∧ i = .int .i64 k ∧ Side g w wr ∧ w1.heap.size < wr.heap.size ∧ Laid wr g N (hdata p 5 ++ vdata (p.vals.take k)) ∧ Blk wr w.heap.size 75 #[.slice (some ⟨g, 0, none⟩) N N]) (fun i _ => p.vals.length - (intOf i).toNat)
      case atStart => exact ⟨0, by omega, rfl, hs, HSz.out, by simpa [vdata] using HLr.out, HWr.out⟩
      clear hxP HLr HPr HWr HSz hs
      case round =>
        obtain ⟨k, hk, rfl, hs, hsz, hl, hwt⟩ := hrel
        have hb0 : Below w0.heap.size w0 _ := Side.below hw hw.size hs hg
        by_cases hlt : k < p.vals.length
        · obtain ⟨x, hx⟩ : ∃ x, p.vals[k]? = some x := ⟨_, List.getElem?_eq_getElem hlt⟩
          obtain ⟨ad, rfl, had, hcx⟩ := HC.out k x hx
          have hcx' := (hb0.cell (by rw [block_add]; exact had)).trans hcx
          have HLr := Lib.hid hl
          have HLEN := Lib.hid (show (hdata p 5 ++ vdata (p.vals.take k)).length + 2 ≤ N by rw [List.length_append, hdata_len, vdata_len, List.length_take]; have := HNN.out; omega)
          have HPL := Lib.hid (show (10 + 2 * (k : Int)) = (((hdata p 5 ++ vdata (p.vals.take k)).length : Nat) : Int) by rw [List.length_append, hdata_len, vdata_len, List.length_take]; omega)
          have HNX := Lib.hid (show (hdata p 5 ++ vdata (p.vals.take k)) ++ putB (bre x) (2 : Int).toNat = hdata p 5 ++ vdata (p.vals.take (k + 1)) by rw [List.take_add_one, hx, List.append_assoc]; congr 1; exact (vdata_snoc _ _).symm)
          have HWt := Lib.hid hwt
          have lw := hwt.lt
          have dW : ∀ w', Side g wr w' → ∀ i, w'.cell? ⟨w.heap.size, i, none⟩ = #[Value.slice (some ⟨g, 0, none⟩) N N][i]? := fun w' hb i => by rw [hb.cell (p := ⟨w.heap.size, i, none⟩) lw (by show w.heap.size ≠ g; omega)]; exact HWt.out.cells i
          clear hx hcx hl hwt
          go_wp2_with fail
          refine wp_region_held_drew (S := fun w' => Side g wr w') (by kernel_rfl) (Side.refl _ _).drew (fun hHeld => ?_)
          refine takeD 0 (some 32) (v := ?_) rfl rfl (by kernel_rfl) (by kernel_rfl) (by kernel_rfl) (fun _ _ _ h => h) (by rfl) ?_ (by assumption) ?_
          rotate_left
          · intro w hSw
            (try dsimp only at hSw)
            go_simp
            try with_reducible rfl
          try simp only [Act.put, List.setIfInBounds_toArray, List.set_cons_zero, List.set_cons_succ]
          refine takeD 1 (some 33) (v := ?_) rfl rfl (by kernel_rfl) (by kernel_rfl) (by kernel_rfl) (fun _ _ _ h => h) (by rfl) ?_ (by assumption) ?_
          rotate_left
          · intro w hSw
            (try dsimp only at hSw)
            go_simp
            try with_reducible rfl
          try simp only [Act.put, List.setIfInBounds_toArray, List.set_cons_zero, List.set_cons_succ]
          refine takeD 2 (some 34) (v := ?_) rfl rfl (by kernel_rfl) (by kernel_rfl) (by kernel_rfl) (fun _ _ _ h => h) (by rfl) ?_ (by assumption) ?_
          rotate_left
          · intro w hSw
            (try dsimp only at hSw)
            go_simp
            try with_reducible rfl
          try simp only [Act.put, List.setIfInBounds_toArray, List.set_cons_zero, List.set_cons_succ]
          refine takeD 4 (some 36) (v := ?_) rfl rfl (by kernel_rfl) (by kernel_rfl) (by kernel_rfl) (fun _ _ _ h => h) (by rfl) ?_ (by assumption) ?_
          rotate_left
          · intro w hSw
            (try dsimp only at hSw)
            go_simp
            try with_reducible rfl
          try simp only [Act.put, List.setIfInBounds_toArray, List.set_cons_zero, List.set_cons_succ]
          refine wpAnyH_ready (rs := [3]) (by kernel_rfl) (by simp) ?_
          refine AllReadyH.cons rfl (fun K hK => ?_) AllReadyH.nil
          rw [if_pos (by rfl)]
          go_simp
          go_at_call 61
          refine (valField_any _ (by omega) _).mono ?_
          rintro e w3 ⟨rfl, hk0⟩
          have hk := Side.of_below (g := g) hk0
          have hLq := HLr.out.drw.below hk0
          clear hk0
          go_wp2_with fail
          refine hK.out _ _ ?_ (fun hHeld2 => ?_)
          · first | exact hHeld.trans hk | (clear hK; exact hHeld)
          clear hK K hHeld
          have hHeld := hHeld2
          clear hHeld2
          try clear hk
          try simp only [Act.put, List.setIfInBounds_toArray, List.set_cons_zero, List.set_cons_succ]
          refine wpAnyH_ready (rs := [5]) (by kernel_rfl) (by simp) ?_
          refine AllReadyH.cons rfl (fun K hK => ?_) AllReadyH.nil
          rw [if_pos (by rfl)]
          go_simp
          go_at_call 62
          refine (bare_any _ _).mono ?_
          rintro e w3 ⟨rfl, rfl⟩
          go_wp2_with fail
          refine hK.out _ _ ?_ (fun hHeld2 => ?_)
          · first | exact hHeld.trans hk | (clear hK; exact hHeld)
          clear hK K hHeld
          have hHeld := hHeld2
          clear hHeld2
          try clear hk
          try simp only [Act.put, List.setIfInBounds_toArray, List.set_cons_zero, List.set_cons_succ]
          refine wpAnyH_ready (rs := [6]) (by kernel_rfl) (by simp) ?_
          refine AllReadyH.cons rfl (fun K hK => ?_) AllReadyH.nil
          rw [if_pos (by rfl)]
          go_simp
          go_at_call 60
          rw [HPL.out]
          refine (lay_any g N _ 2 (bre x) _ hN26 (by omega) (bre_range x).1 (bre_range x).2 HLEN.out hLq).mono ?_
          rintro e w3 ⟨rfl, hL3, hk⟩
          go_wp2_with fail
          refine hK.out _ _ ?_ (fun hHeld2 => ?_)
          · first | exact hHeld.trans hk | (clear hK; exact hHeld)
          clear hK K hHeld
          have hHeld := hHeld2
          clear hHeld2
          try clear hk
          try simp only [Act.put, List.setIfInBounds_toArray, List.set_cons_zero, List.set_cons_succ]
          refine wpAnyH_done (by kernel_rfl) ?_ _
          go_wp2
          go_roundw
          case rel => exact ⟨k + 1, by omega, by go_num, hs.trans hHeld, by have := hHeld.size; omega, by rw [← HNX.out]; exact hL3, HWt.out.side hHeld (by omega)⟩
          case measure => simp [intOf]; omega
        · have he : k = p.vals.length := by omega
          subst he
          rw [List.take_length] at hl
          have HLr := Lib.hid hl
          clear hl
          go_wp2
          go_returns
          exact ⟨rfl, HLr.out, hs⟩
    obtain ⟨l, n, hlc, hn0, hnb, hfit, hnext, hix, hcell⟩ := at_h p k (by omega) HH.out
    have hk5 : k < 5 := by omega
    have HNX := Lib.hid hnext
    have HNB := Lib.hid hnb
    have HFit := Lib.hid hfit
    have HNN' := Lib.hid (show 10 ≤ N by have := HNN.out; omega)
    have hpl : ((hdata p k).length : Int) ≤ 10 := by omega
    clear hn hp hwt hl hnext hnb hfit
    go_wp2_with fail
    refine wp_world (fun W => Below wr.heap.size wr W ∧ Blk W wr.heap.size 100 #[.int .i64 (hdata p k).length, .int .i64 l]) ⟨by go_grown, Blk.new _ _ _ _ rfl⟩ fun W ⟨hbW, hF⟩ => ?_
    have HLW := Lib.hid (HLr.out.below hbW)
    have HNW := Lib.hid (HNr.out.below hbW)
    have HPW := Lib.hid (HPr.out.below hbW)
    have HWW := Lib.hid (HWr.out.below hbW)
    have hc0 : W.cell? ⟨w1.heap.size, k, none⟩ = some (.int .i64 n) := by rw [HNW.out.cells]; exact hcell
    have hcw := HWW.out.cells
    have hcF := hF.cells
    have HbW := Lib.hid hbW
    clear hcell hF hbW hix HLr HNr HPr HWr
    go_wp2_with fail
    go_still_tail 6, (by kernel_rfl)
    go_wp2_with fail
    refine (lay_any g N (hdata p k) l n _ hN26 hlc hn0 HNB.out (by have := HFit.out; have := HNN'.out; omega) HLW.out.drw).mono ?_
    rintro e w3 ⟨rfl, hL3, hk3⟩
    have hSW : Side g W w3 := (Side.refl g W).drew.trans hk3
    have hS3 : Side g wr w3 := (Side.of_below HbW.out).trans hSW
    go_wp2
    go_roundw
    case rel => exact ⟨k + 1, by omega, by go_num, hs.trans hS3, by have := hS3.size; omega, by rw [← HNX.out]; exact hL3, HNW.out.side hSW (by omega), HPW.out.side hSW (by omega), HWW.out.side hSW (by omega)⟩
    case measure => simp [intOf]; omega
end Go.Proofs.Ytgklbmhihfmagaa
