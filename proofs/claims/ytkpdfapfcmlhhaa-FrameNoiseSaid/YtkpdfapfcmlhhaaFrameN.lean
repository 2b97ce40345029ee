/- Layer 3: noise between frames. -/
import Derived.Test.YtkpdfapfcmlhhaaFrameI
namespace Go.Proofs.Ytkpdfapfcmlhhaa
open Go.ChangeShapes Go.WideShapes Go.ChangeAt Go.RowKit
set_option linter.unusedVariables false
set_option linter.unusedSimpArgs false

def keep165 (l : List Int) : List Int := l.filter fun x => x != 165
theorem keep_step {l : List Int} {k : Nat} {x : Int} (h : l[k]? = some x) : keep165 (l.take (k + 1)) = keep165 (l.take k) ++ (if x = 165 then [] else [x]) := by
  unfold keep165
  rw [List.take_add_one, h, List.filter_append]
  congr 1
  by_cases hx : x = 165
  · simp [hx]
  · simp [hx]
theorem keep_ne (l : List Int) : ∀ x ∈ keep165 l, x ≠ 165 := by
  intro x hx
  have := (List.mem_filter.1 hx).2
  simpa using this
theorem keep_u8 {l : List Int} (h : U8s l) : U8s (keep165 l) := fun x hx => h x (List.mem_filter.1 hx).1
theorem keep_len (l : List Int) : (keep165 l).length ≤ l.length := List.length_filter_le _ _
theorem OwnB.shape {w : World} {base : Nat} {v : Value} {xs : List Int} (h : OwnB w base v xs) : ∃ A c, v = .slice A xs.length c := by
  obtain ⟨hl, h⟩ := h
  rcases h with ⟨rfl, h0⟩ | ⟨g, cap, cur, rfl, _⟩
  · exact ⟨none, 0, by rw [show xs.length = 0 by simpa using h0]⟩
  · exact ⟨_, _, rfl⟩
theorem split_five (n a b : List Int) (hn : ∀ x ∈ n, x ≠ 165) (ha : U8s a) (hb : U8s b) (hal : a.length ≤ 255) (hbl : b.length ≤ 255) :
    split (n ++ (framed a ++ (n ++ (framed b ++ n)))) = ⟨[a, b], [], 3 * n.length⟩ := by
  have h0 : split n = ⟨[], [], n.length⟩ := by
    have := split_noise n [] hn
    rw [List.append_nil, split_nil] at this
    rw [this]
    simp [Sp.put]
  rw [split_noise n _ hn, split_framed a _ ha hal, split_noise n _ hn, split_framed b _ hb hbl, h0]
  simp [Sp.put]
  omega

set_option maxRecDepth 100000 in
set_option maxHeartbeats 8000000 in
theorem walk_FrameNoise (va : Value) (za : List Int) (vb : Value) (zb : List Int) (vc : Value) (zc : List Int) (w : World) (h0 : Ints .u8 w va za) (h1 : Ints .u8 w vb zb) (h2 : Ints .u8 w vc zc) :
    Calls Try.prog 7 #[va, vb, vc] w fun e w' => e = .returned (.bool true) ∧ Below w.heap.size w w' := by
  have HA0 := Lib.hid h0.bytes
  have HB0 := Lib.hid h1.bytes
  have HC0 := Lib.hid h2.bytes
  obtain ⟨A, ca, rfl, hca, hcma, q1⟩ := h0.bytes.src
  obtain ⟨B, cb, rfl, hcb, hcmb, q2⟩ := h1.bytes.src
  obtain ⟨C, cc, rfl, hcc, hcmc, q3⟩ := h2.bytes.src
  have Q3 := Lib.hid q3
  clear h0 h1 h2 q1 q2 q3
  go_enter Try.func7, Try.ntmps7
  go_wp2_with fail
  refine (head_any _).mono ?_
  rintro e w1 ⟨rfl, hb1⟩
  by_cases ha : 255 < za.length
  · go_wp2
    go_ret
    exact ⟨rfl, hb1⟩
  by_cases hb : 255 < zb.length
  · go_wp2
    go_ret
    exact ⟨rfl, hb1⟩
  by_cases hc : 300 < zc.length
  · go_wp2
    go_ret
    exact ⟨rfl, hb1⟩
  go_wp2_with fail
  go_loopw [8, 9] (fun nv i wr => ∃ k : Nat, k ≤ zc.length ∧ i = .int .i64 k ∧ OwnB wr w1.heap.size nv (keep165 (zc.take k)) ∧ Below w.heap.size w wr ∧ Below w1.heap.size w1 wr) (fun _ i _ => zc.length - (intOf i).toNat)
  case atStart => exact ⟨0, Nat.zero_le _, rfl, ownB_nil, hb1, Below.refl _ _⟩
  case round =>
    obtain ⟨k, hk, rfl, hO, hbr, hb1r⟩ := hrel
    by_cases hlt : k < zc.length
    · obtain ⟨x, hx⟩ : ∃ x, zc[k]? = some x := ⟨_, List.getElem?_eq_getElem hlt⟩
      obtain ⟨ad, e0, had, hcell⟩ := Q3.out (by omega)
      subst e0
      have hcx : wr.cell? (ad.add k) = some (.int .u8 x) := (hbr.cell (by rw [block_add]; exact had)).trans (hcell k _ (by rw [List.getElem?_map, hx]; rfl))
      have HS := Lib.hid (keep_step hx)
      have hkl := keep_len (zc.take k)
      rw [List.length_take] at hkl
      have hxr := HC0.out.2 x (List.mem_of_getElem? hx)
      have HO := Lib.hid hO
      have HZ := Lib.hid hcell
      clear hx hO hcell
      by_cases hxm : x = 165
      · have gx : (x != 165) = false := by simp [hxm]
        have HXM := Lib.hid hxm
        clear hxm
        go_wp2
        go_roundw
        case rel => exact ⟨k + 1, by omega, by go_num, by rw [HS.out, if_pos HXM.out, List.append_nil]; exact HO.out, hbr, hb1r⟩
        case measure => simp [intOf]; omega
      · have gx : (x != 165) = true := by simp [hxm]
        have HXM := Lib.hid hxm
        clear hxm
        go_wp2_with (at_builtin; refine wpList_apO rfl (.tmp 44) (.tmp 49) rfl w1.heap.size _ (keep165 (zc.take k)) rfl (HO.out.below ((Below.refl _ _).alloc (Nat.le_refl _) _)) _ [x] rfl (lit8 (heap_at _ _ _ rfl) rfl (show (1 : Nat) ≤ maxLen by decide) (U8s.cons hxr (by unfold U8s; simp))) (keep165 (zc.take k) ++ [x]) rfl (by simp; omega) (by have := hb1r.size; simp; omega) w1 w1.heap.size (Nat.le_refl _) (hb1r.alloc hb1r.size _) ?_)
        intro v5 w5 hO5 hq5
        have HO5 := Lib.hid hO5.out
        clear hO5
        go_wp2
        go_roundw
        case rel => exact ⟨k + 1, by omega, by go_num, by rw [HS.out, if_neg HXM.out]; exact HO5.out, Btrans hb1 hq5, hq5⟩
        case measure => simp [intOf]; omega
    · have he : k = zc.length := by omega
      subst he
      rw [List.take_length] at hO
      have hNr := keep_u8 HC0.out.2
      have hNn := keep_ne zc
      have hNl := keep_len zc
      generalize hN : keep165 zc = N at *
      obtain ⟨E, cn, rfl⟩ := hO.shape
      have HN0 := Lib.hid hO
      have HNR := Lib.hid hNr
      have HNN := Lib.hid hNn
      have HA1 := Lib.hid (HA0.out.below hbr)
      have HB1 := Lib.hid (HB0.out.below hbr)
      have HN1 := Lib.hid (hO.own hNr).bytes
      clear hO HA0 HB0 hNr hNn hN HC0 hb1r hb1 HN0
      have hb1 := hbr
      clear hbr
      go_wp2_with fail
      refine (frame_yes _ za _ HA1.out (by omega)).mono ?_
      rintro e w2 ⟨xa, rfl, hx, hk⟩
      have HXa2 := Lib.hid hx
      obtain ⟨ba, cax, csa, rfl, q1, q2, q3, q4⟩ := hx.some_ (by rw [framed_len]; omega)
      rw [framed_len] at HXa2 ⊢
      have HA2 := Lib.hid (HA1.out.below hk)
      have HB2 := Lib.hid (HB1.out.below hk)
      have HN2 := Lib.hid (HN1.out.below hk)
      have hb2 := Btrans hb1 hk
      clear q1 q2 q3 q4 hx hk hb1 HA1 HB1 HN1
      go_wp2_with fail
      refine (frame_yes _ zb _ HB2.out (by omega)).mono ?_
      rintro e w3 ⟨xb, rfl, hx, hk⟩
      have HXb3 := Lib.hid hx
      obtain ⟨bb, cbx, csb, rfl, q1, q2, q3, q4⟩ := hx.some_ (by rw [framed_len]; omega)
      rw [framed_len] at HXb3 ⊢
      have HA3 := Lib.hid (HA2.out.below hk)
      have HB3 := Lib.hid (HB2.out.below hk)
      have HN3 := Lib.hid (HN2.out.below hk)
      have HXa3 := Lib.hid (HXa2.out.below hk)
      have hb3 := Btrans hb2 hk
      clear q1 q2 q3 q4 hx hk hb2 HA2 HB2 HN2 HXa2
      go_wp2_with (at_builtin; refine wpList_apO rfl (.tmp 61) (.tmp 62) rfl w3.heap.size _ [] rfl (ownB_empty _ _ _ (Nat.le_refl _) rfl) _ N rfl ((HN3.out).below (by go_grown)) N (by simp) (by first | omega | (simp [framed_len]; omega) | simp [framed_len]) (by simp) w3 w3.heap.size (Nat.le_refl _) (by go_grown) ?_)
      intro v4 w4 hO4 hq4
      go_wp2_with (at_builtin; refine wpList_apO rfl (.tmp 63) (.tmp 64) rfl w3.heap.size _ N rfl hO4.out _ (framed za) rfl ((HXa3.out.bytes).below hq4) (N ++ framed za) (by simp) (by first | omega | (simp [framed_len]; omega) | simp [framed_len]) hq4.size w3 w3.heap.size (Nat.le_refl _) hq4 ?_)
      intro v5 w5 hO5 hq5
      go_wp2_with (at_builtin; refine wpList_apO rfl (.tmp 65) (.tmp 66) rfl w3.heap.size _ (N ++ framed za) rfl hO5.out _ N rfl ((HN3.out).below hq5) (N ++ (framed za ++ N)) (by simp) (by first | omega | (simp [framed_len]; omega) | simp [framed_len]) hq5.size w3 w3.heap.size (Nat.le_refl _) hq5 ?_)
      intro v6 w6 hO6 hq6
      go_wp2_with (at_builtin; refine wpList_apO rfl (.tmp 67) (.tmp 68) rfl w3.heap.size _ (N ++ (framed za ++ N)) rfl hO6.out _ (framed zb) rfl ((HXb3.out.bytes).below hq6) (N ++ (framed za ++ (N ++ framed zb))) (by simp) (by first | omega | (simp [framed_len]; omega) | simp [framed_len]) hq6.size w3 w3.heap.size (Nat.le_refl _) hq6 ?_)
      intro v7 w7 hO7 hq7
      go_wp2_with (at_builtin; refine wpList_apO rfl (.tmp 69) (.tmp 70) rfl w3.heap.size _ (N ++ (framed za ++ (N ++ framed zb))) rfl hO7.out _ N rfl ((HN3.out).below hq7) (N ++ (framed za ++ (N ++ (framed zb ++ N)))) (by simp) (by first | omega | (simp [framed_len]; omega) | simp [framed_len]) hq7.size w3 w3.heap.size (Nat.le_refl _) hq7 ?_)
      intro v8 w8 hO8 hq8
      have hu : U8s (N ++ (framed za ++ (N ++ (framed zb ++ N)))) := U8s.app HNR.out (U8s.app (framed_range HA3.out.2 (by omega)) (U8s.app HNR.out (U8s.app (framed_range HB3.out.2 (by omega)) HNR.out)))
      have hsp := split_five N za zb HNN.out HA3.out.2 HB3.out.2 (by omega) (by omega)
      have HU := Lib.hid hu
      have HSP := Lib.hid hsp
      have HA7 := Lib.hid (HA3.out.below hq8)
      have HB7 := Lib.hid (HB3.out.below hq8)
      have hb7 := Btrans hb3 hq8
      clear hu hsp hO4 hO5 hO6 hO7 hq4 hq5 hq6 hq7 hq8 HXa3 HXb3 HA3 HB3 HN3
      go_wp2_with fail
      refine (split_any _ _ _ (hO8.out.own HU.out).bytes (by simp [framed_len]; omega)).mono ?_
      rw [HSP.out]
      rintro e w9 ⟨vf, vr, rfl, hfr, hrb, hk⟩
      have HFR := Lib.hid hfr.rows
      obtain ⟨Rr, cr, rfl, hcr, hcmr, q4⟩ := hrb.src
      have HA8 := Lib.hid (HA7.out.below hk)
      have HB8 := Lib.hid (HB7.out.below hk)
      have hb8 := Btrans hb7 hk
      clear hfr hrb q4 hk hb7 hO8 HA7 HB7
      go_wp2_with fail
      refine (sameall_any _ _ [za, zb] [za, zb] _ (HFR.out.below (by go_grown)) (rowsLit (us := [.slice A za.length ca, .slice B zb.length cb]) (heap_at _ _ _ rfl) rfl (show (2 : Nat) ≤ maxLen by decide) rfl (fun i f hi => by
        match i, hi with
        | 0, hi => simp at hi; subst hi; exact ⟨_, rfl, HA8.out.below (by go_grown)⟩
        | 1, hi => simp at hi; subst hi; exact ⟨_, rfl, HB8.out.below (by go_grown)⟩
        | i + 2, hi => simp at hi))).mono ?_
      rintro e w10 ⟨rfl, hk⟩
      have hz8 := hb8.size
      have hb9 : Below w.heap.size w w10 := (show Below w.heap.size w _ by go_grown).trans (hk.mono (by simp; omega))
      go_wp2
      go_ret
      exact ⟨by first | rfl | simp, hb9⟩
end Go.Proofs.Ytkpdfapfcmlhhaa
