/- Layer 3: a spoilt frame. -/
import Derived.Test.YtkpdfapfcmlhhaaFrameI
namespace Go.Proofs.Ytkpdfapfcmlhhaa
open Go.ChangeShapes Go.WideShapes Go.ChangeAt Go.RowKit
set_option linter.unusedVariables false
set_option linter.unusedSimpArgs false

theorem OwnB.some_ {w : World} {base : Nat} {v : Value} {xs : List Int} (h : OwnB w base v xs) (h0 : 0 < xs.length) : ∃ b c, v = .slice (some ⟨b, 0, none⟩) xs.length c ∧ base ≤ b ∧ b < w.heap.size ∧ (∀ (i : Nat) x, xs[i]? = some x → w.cell? ⟨b, i, none⟩ = some (.int .u8 x) ∧ w.frozen? ⟨b, i, none⟩ = false) ∧
    ∀ (k : Nat) (y : Int), OwnB (w.setCell ⟨b, k, none⟩ (.int .u8 y)) base (.slice (some ⟨b, 0, none⟩) xs.length c) (xs.set k y) := by
  obtain ⟨hl, h⟩ := h
  rcases h with ⟨_, h0'⟩ | ⟨g, cap, cur, rfl, hb, hh, hn, hc, hs, ht⟩
  · have : xs.length = 0 := by simpa using h0'
    omega
  · have hB : Blk w g 5 cur := hh
    rw [Nat.mul_one] at ht hs
    refine ⟨g, cap, rfl, hb, hB.lt, fun i x hx => ⟨?_, hB.froz i⟩, fun k y => ⟨by simp, .inr ⟨g, cap, cur.setIfInBounds k (.int .u8 y), by rw [List.length_set], hb, hB.set k _, by rw [List.length_set]; exact hn, hc, by simpa using hs, ?_⟩⟩⟩
    · have hi : i < xs.length := (List.getElem?_eq_some_iff.1 hx).1
      have e : (xs.map (Value.int .u8))[i]? = some (.int .u8 x) := by rw [List.getElem?_map, hx]; rfl
      rw [← ht, List.getElem?_take, if_pos hi] at e
      rw [hB.cells]
      simpa using e
    · rw [Array.toList_setIfInBounds, List.length_set, Nat.mul_one, List.take_set, ht, List.map_set]
theorem Frows.first {w : World} {base : Nat} {v : Value} {f : List Int} {F : List (List Int)} (h : Frows w base v (f :: F)) : ∃ g c u, v = .slice (some ⟨g, 0, none⟩) (f :: F).length c ∧ w.cell? ⟨g, 0, none⟩ = some u ∧ Bytes w u f := by
  obtain ⟨vs, ⟨hl, ho⟩, hn, hf⟩ := h
  obtain ⟨u, hu, hB⟩ := hf 0 f rfl
  rcases ho with ⟨_, h0⟩ | ⟨g, cap, cur, rfl, hb, hh, hm, hc, hs, ht⟩
  · simp at h0

  · refine ⟨g, cap, u, rfl, ?_, hB.bytes⟩
    rw [cell_of_row w g 0 cur _ (0, 0) hh]
    rw [← ht, List.getElem?_take] at hu
    split at hu
    · simpa using hu
    · cases hu
theorem xor_u8 (x y : Int) (hx : 0 ≤ x ∧ x ≤ 255) (hy : 0 ≤ y ∧ y ≤ 255) (h0 : y ≠ 0) : 0 ≤ bits .xor .u8 x y ∧ bits .xor .u8 x y ≤ 255 ∧ bits .xor .u8 x y ≠ x := by
  obtain ⟨a, rfl⟩ := Int.eq_ofNat_of_zero_le hx.1
  obtain ⟨b, rfl⟩ := Int.eq_ofNat_of_zero_le hy.1
  rw [u8_xor_nat a b (by omega) (by omega)]
  have h1 : a ^^^ b < 256 := Nat.xor_lt_two_pow (n := 8) (by omega) (by omega)
  refine ⟨by omega, by omega, fun h => h0 ?_⟩
  have h2 : a ^^^ b = a := by omega
  have h3 : a ^^^ (a ^^^ b) = a ^^^ a := by rw [h2]
  rw [← Nat.xor_assoc, Nat.xor_self, Nat.zero_xor] at h3
  omega

set_option maxRecDepth 100000 in
set_option maxHeartbeats 8000000 in
theorem walk_FrameSpoilt (va : Value) (za : List Int) (at_ : Int) (by_ : Int) (w : World) (h0 : Ints .u8 w va za) (h1 : (Lit.int .u16 at_).wf = true) (h2 : (Lit.int .u8 by_).wf = true) :
    Calls Try.prog 8 #[va, .int .u16 at_, .int .u8 by_] w fun e w' => e = .returned (.bool true) ∧ Below w.heap.size w w' := by
  have HA0 := Lib.hid h0.bytes
  have b1 := bounds_u16 h1
  have b2 := bounds_u8 h2
  obtain ⟨A, ca, rfl, hca, hcma, q1⟩ := h0.bytes.src
  clear h0 h1 h2 q1
  obtain ⟨at_, rfl⟩ := Int.eq_ofNat_of_zero_le b1.1
  go_enter Try.func8, Try.ntmps8
  go_wp2_with fail
  refine (head_any _).mono ?_
  rintro e w1 ⟨rfl, hb1⟩
  by_cases ha : 255 < za.length
  · go_wp2
    go_ret
    exact ⟨rfl, hb1⟩
  by_cases hz : by_ = 0
  · have gz : (by_ == 0) = true := by simp [hz]
    clear hz
    go_wp2
    go_ret
    exact ⟨rfl, hb1⟩
  have gz : (by_ == 0) = false := beq_false_of_ne hz
  have HZ := Lib.hid hz
  have HA1 := Lib.hid (HA0.out.below hb1)
  clear HA0 hz
  go_wp2_with fail
  refine (frame_yes _ za _ HA1.out (by omega)).mono ?_
  rintro e w2 ⟨xa, rfl, hx, hk⟩
  have HXa2 := Lib.hid hx
  obtain ⟨ba, cax, csa, rfl, q1, q2, q3, q4⟩ := hx.some_ (by rw [framed_len]; omega)
  rw [framed_len] at HXa2 ⊢
  have HA2 := Lib.hid (HA1.out.below hk)
  have hb2 := Btrans hb1 hk
  clear q1 q2 q3 q4 hx hk hb1 HA1
  obtain ⟨K, hK⟩ : ∃ K, K = at_ % (za.length + 4) := ⟨_, rfl⟩
  have hKl : K < za.length + 4 := by rw [hK]; exact Nat.mod_lt _ (by omega)
  have hS2 : (za.length : Int) + 6 - 2 = ((za.length + 4 : Nat) : Int) := by omega
  obtain ⟨K2, hK2⟩ : ∃ K2, K2 = K + 2 := ⟨_, rfl⟩
  have hW : wrap64 (2 + (at_ : Int) % ((za.length : Int) + 4)) = (K2 : Int) := by
    rw [show (at_ : Int) % ((za.length : Int) + 4) = (K : Int) by rw [hK]; simp, IntWalk.wrap64_in _ (by omega)]; omega
  have hW0 : (0 : Int) ≤ (K2 : Int) := by omega
  have hW1 : (K2 : Int) < (za.length : Int) + 6 := by omega
  have HK2 := Lib.hid hK2
  clear hK2
  have HK := Lib.hid hK
  clear hK
  go_wp2_with (at_builtin; refine wpList_apO rfl (.tmp 46) (.tmp 47) rfl w2.heap.size _ [] rfl (ownB_empty _ _ _ (Nat.le_refl _) rfl) _ (framed za) rfl ((HXa2.out.bytes).below (by go_grown)) (framed za) (by simp) (by first | omega | (simp [framed_len]; omega) | simp [framed_len]) (by simp) w2 w2.heap.size (Nat.le_refl _) (by go_grown) ?_)
  intro v3 w3 hO3 hq3
  have hlen : 0 < (framed za).length := by rw [framed_len]; omega
  obtain ⟨bg, cg, rfl, hbg, hbl, hcg, hset⟩ := hO3.out.some_ hlen
  obtain ⟨x, hx⟩ : ∃ x, (framed za)[K2]? = some x := ⟨_, List.getElem?_eq_getElem (by rw [framed_len]; have := HK2.out; omega)⟩
  have hxr := framed_range HA2.out.2 (by omega) x (List.mem_of_getElem? hx)
  have hy := xor_u8 x by_ hxr b2 HZ.out
  have hcx := (hcg K2 x hx).1
  have hfx := (hcg K2 x hx).2
  have hst := hset K2 (bits .xor .u8 x by_)
  have hsp := split_spoilt za HA2.out.2 (by omega) K (bits .xor .u8 x by_) hKl ⟨hy.1, hy.2.1⟩ (by rw [← HK2.out, hx]; exact fun h => hy.2.2 (Option.some.inj h).symm)
  rw [← HK2.out] at hsp
  have hgr : U8s ((framed za).set K2 (bits .xor .u8 x by_)) := (framed_range HA2.out.2 (by omega)).set _ ⟨hy.1, hy.2.1⟩
  have hgl : ((framed za).set K2 (bits .xor .u8 x by_)).length = za.length + 6 := by rw [List.length_set, framed_len]
  have HSP := Lib.hid hsp
  have HST := Lib.hid hst
  have HGR := Lib.hid hgr
  have HGL := Lib.hid hgl
  have hb3 := Btrans hb2 hq3
  have hbw : Below w.heap.size w (w3.setCell ⟨bg, K2, none⟩ (.int .u8 (bits .xor .u8 x by_))) := below_set hb3 (by have := hb2.size; omega) _
  have HBW := Lib.hid hbw
  obtain ⟨y, hyE⟩ : ∃ y, y = bits .xor .u8 x by_ := ⟨_, rfl⟩
  rw [← hyE] at HSP HST HGR HGL HBW
  have HYE := Lib.hid hyE
  clear hyE
  generalize hG : (framed za).set K2 y = G at HSP HST HGR HGL
  rw [framed_len] at HST ⊢
  clear hx hxr hst hset hsp hgr hgl hcg hO3 hq3 hbw hG hlen HXa2 hy
  go_wp2_with fail
  rw [← HYE.out]
  refine (split_any _ G _ (HST.out.own HGR.out).bytes (by rw [HGL.out]; omega)).mono ?_
  rintro e w5 ⟨vf, vr, rfl, hfr, hrb, hk⟩
  have HSP2 := Lib.hid HSP.out
  have hb5 := Btrans HBW.out hk
  rcases hF : (split G).fs with _ | ⟨f0, F⟩
  · rw [hF] at hfr
    obtain ⟨A2, c2, rfl, _, _, q5⟩ := hfr.rows.src
    clear hfr hrb hk q5 hF HSP HSP2 HST HBW
    go_wp2
    go_ret
    exact ⟨by first | rfl | simp, hb5⟩
  · have hne : f0.length ≠ za.length := HSP2.out f0 (by rw [hF]; simp)
    rw [hF] at hfr
    obtain ⟨g, c2, u, rfl, hcu, hbu⟩ := hfr.first
    obtain ⟨A3, c3, rfl, _, _, q5⟩ := hbu.src
    have gne : ((f0.length : Int) != (za.length : Int)) = true := by simp; omega
    have hfl : (0 : Int) < ((f0 :: F).length : Int) := by simp only [List.length_cons]; omega
    clear hfr hrb hk q5 hF HSP HSP2 HST HBW hbu hne
    go_wp2
    go_ret
    exact ⟨by first | rfl | simp, hb5⟩
end Go.Proofs.Ytkpdfapfcmlhhaa
