/- Layer 3: parts. -/
import Derived.Test.YtkpdfapfcmlhhaaFrameI
namespace Go.Proofs.Ytkpdfapfcmlhhaa
open Go.ChangeShapes Go.WideShapes Go.ChangeAt Go.RowKit
set_option linter.unusedVariables false
set_option linter.unusedSimpArgs false

theorem Frows.parts {w : World} {base : Nat} {v : Value} {F : List (List Int)} (h : Frows w base v F) : ∃ vs, w.ownsRow base 22 1 v F.length vs ∧ Row w v vs ∧ (vs.length = F.length ∧ ∀ (i : Nat) f, F[i]? = some f → ∃ u, vs[i]? = some u ∧ Own8 w u f) ∧ ∀ u ∈ vs, u.oneCell' = true := by
  obtain ⟨vs, h1, h2, h3⟩ := h
  refine ⟨vs, h1, by rw [← h2] at h1; exact Row.of_own h1, ⟨h2, h3⟩, fun u hu => ?_⟩
  obtain ⟨i, hi⟩ := List.mem_iff_getElem?.1 hu
  have hil : i < F.length := by rw [← h2]; exact (List.getElem?_eq_some_iff.1 hi).1
  obtain ⟨u', hu', ho⟩ := h3 i _ (List.getElem?_eq_getElem hil)
  rw [hi] at hu'
  injection hu' with hu'
  rw [hu']
  exact ho.one
theorem Bytes.empty' {w : World} {A : Option Addr} {n c : Nat} (hn : n = 0) (hc : c = 0) : Bytes w (.slice A n c) [] := by
  subst hn hc
  exact Bytes.empty _ _ (by decide) (fun _ => rfl)
theorem fs_len (b : List Int) : (split b).fs.length + (split b).bad ≤ b.length := by
  have h := (split_count b.length b (Nat.le_refl _)).1
  have h2 : (split b).fs.length ≤ flen (split b).fs := by
    generalize (split b).fs = F
    induction F with
    | nil => exact Nat.zero_le _
    | cons f F ih => simp [flen] at *; omega
  omega
theorem Own8.grown {w w' : World} {base n : Nat} {u v : Value} {f : List Int} {vs : List Value} (h : Own8 w u f) (hown : w.ownsRow base 22 1 v n vs) (hg : w.grownBy w' v.ownBlock) : Own8 w' u f := by
  refine h.move fun b cs hb => (hg.block b hb.lt ?_).trans hb
  intro he
  rcases hown.2 with ⟨rfl, _⟩ | ⟨g, cap, cur, rfl, _, hh, _⟩
  · simp [Value.ownBlock] at he
  · simp [Value.ownBlock] at he
    subst he
    exact blk_ne hb (show Blk w _ 22 cur from hh) (by decide) rfl
theorem part_facts (za R : List Int) (f T : Nat) (hza : ∀ x ∈ za, 0 ≤ x ∧ x ≤ 255) (hR : U8s R) (hfT : f ≤ T) (hTl : T ≤ za.length) (hl : za.length ≤ 1500) (hrl : R.length ≤ 260) : ∃ seg, seg = (za.drop f).take (T - f) ∧ seg.length = T - f ∧ seg.length ≤ 1500 ∧ U8s ([] ++ R ++ seg) ∧
    ∃ s6, split ([] ++ R ++ seg) = s6 ∧ (s6.rest.length : Int) ≤ 260 ∧ s6.fs.length + s6.bad ≤ 2000 := by
  have hsl : ((za.drop f).take (T - f)).length = T - f := by rw [List.length_take, List.length_drop]; omega
  have hsu : U8s ((za.drop f).take (T - f)) := U8s.take (U8s.drop (l := za) hza f) _
  have hu : U8s ([] ++ R ++ (za.drop f).take (T - f)) := by rw [List.nil_append]; exact U8s.app hR hsu
  have h0 := rest_len hu
  have h1 := fs_len ([] ++ R ++ (za.drop f).take (T - f))
  have h2 : ([] ++ R ++ (za.drop f).take (T - f)).length = R.length + (T - f) := by rw [List.nil_append, List.length_append, hsl]
  rw [h2] at h1
  exact ⟨_, rfl, hsl, by omega, hu, _, rfl, by omega, by omega⟩
theorem split_next (b : List Int) (f t : Nat) (hft : f ≤ t) : split (b.take t) = (split ((split (b.take f)).rest ++ (b.drop f).take (t - f))).put (split (b.take f)).fs (split (b.take f)).bad := by
  have e : b.take t = b.take f ++ (b.drop f).take (t - f) := by
    rw [← List.drop_take]
    conv => lhs; rw [← List.take_append_drop f (b.take t)]
    rw [List.take_take, Nat.min_eq_left hft]
  conv => lhs; rw [e]
  exact split_app _ _

set_option maxRecDepth 100000 in
set_option maxHeartbeats 8000000 in
theorem walk_FrameParts (va : Value) (za : List Int) (vt : Value) (zt : List Int) (w : World) (h0 : Ints .u8 w va za) (h1 : Ints .u16 w vt zt) :
    Calls Try.prog 5 #[va, vt] w fun e w' => e = .returned (.bool true) ∧ Below w.heap.size w w' := by
  have HA0 := Lib.hid h0.bytes
  obtain ⟨A, ca, rfl, hca, hcma, q1⟩ := h0.bytes.src
  have Q1 := Lib.hid q1
  obtain ⟨⟨B, cb, rfl, hcb, hcmb, hBt⟩, hwt⟩ := h1
  rw [List.length_map] at hcb hBt ⊢
  unfold maxLen at hcmb
  have QT : Hid (∀ (k : Nat) (x : Int), zt[k]? = some x → 0 ≤ x ∧ x ≤ 65535 ∧ ∃ ad, B = some ad ∧ ad.block < w.heap.size ∧ w.cell? (ad.add k) = some (.int .u16 x)) := Lib.hid (by
    intro k x hx
    have hb := bounds_u16 (hwt x (List.mem_of_getElem? hx))
    have hk : k < zt.length := (List.getElem?_eq_some_iff.1 hx).1
    refine ⟨hb.1, hb.2, ?_⟩
    rcases hBt with ⟨_, h⟩ | ⟨ad, e, hb, hc⟩
    · omega
    · exact ⟨ad, e, hb (by omega), hc k _ (by rw [List.getElem?_map, hx]; rfl)⟩)
  have hAc : (∃ ada, A = some ada) ∨ ca = 0 := by
    obtain ⟨A', c', e, h2, h3, hA⟩ := HA0.out.1
    injection e with e1 e2 e3
    rcases hA with ⟨_, h⟩ | ⟨ad, e, _⟩
    · exact .inr (e3.trans h)
    · exact .inl ⟨ad, e1.trans e⟩
  have HAC := Lib.hid hAc
  clear h0 q1 hBt hwt hAc
  go_enter Try.func5, Try.ntmps5
  go_wp2_with fail
  refine (head_any _).mono ?_
  rintro e w1 ⟨rfl, hb1⟩
  by_cases ha : 1500 < za.length
  · go_wp2
    go_ret
    exact ⟨rfl, hb1⟩
  by_cases hat : 20 < zt.length
  · go_wp2
    go_ret
    exact ⟨rfl, hb1⟩
  have HA1 := Lib.hid (HA0.out.below hb1)
  go_wp2_with fail
  refine (split_own _ za _ HA1.out (by omega)).mono ?_
  rintro e w2 ⟨vf, vr, rfl, hfr, hrb, hk⟩
  have hb2 := Btrans hb1 hk
  have HFR := Lib.hid hfr.rows
  have HRB := Lib.hid hrb
  have HW2 : Hid (w.heap.size ≤ w2.heap.size) := Lib.hid hb2.size
  clear hfr hrb HA1 hk hb1
  have hs0 : split (za.take 0) = ⟨[], [], 0⟩ := split_nil
  go_wp2_with fail
  go_loopw [9, 10, 11, 12, 13] (fun mv kv nv fv iv wr => ∃ (i f : Nat), i ≤ zt.length + 1 ∧ f ≤ za.length ∧ (i = zt.length + 1 → f = za.length) ∧ iv = .int .i64 i ∧ fv = .int .i64 f ∧ nv = .int .i64 ((split (za.take f)).bad : Int) ∧ Frows wr w2.heap.size mv (split (za.take f)).fs ∧ Own8 wr kv (split (za.take f)).rest ∧ Below w.heap.size w wr ∧ Below w2.heap.size w2 wr)
    (fun _ _ _ _ iv _ => zt.length + 1 - (intOf iv).toNat)
  case atStart => exact ⟨0, 0, Nat.zero_le _, Nat.zero_le _, by omega, rfl, rfl, by rw [hs0]; rfl, by rw [hs0]; exact Frows.nil_, by rw [hs0]; exact .inr ⟨rfl, rfl⟩, hb2, Below.refl _ _⟩
  case round =>
    obtain ⟨i, f, hi, hf, hend, rfl, rfl, rfl, hM, hK, hbw, hb2w⟩ := hrel
    by_cases hie : i = zt.length + 1
    · have hfe := hend hie
      subst hfe
      rw [List.take_length] at hM hK ⊢
      have HM := Lib.hid hM.rows
      have HK := Lib.hid hK.bytes
      have HFR2 := Lib.hid (HFR.out.below hb2w)
      have HRB2 := Lib.hid (HRB.out.bytes.below hb2w)
      have hgt : ¬ ((i : Int) ≤ (zt.length : Int)) := by omega
      clear hM hK hend hie
      go_wp2_with fail
      refine (sameall_any _ _ _ _ _ HFR2.out HM.out).mono ?_
      rintro e w8 ⟨rfl, hk8⟩
      have HK8 := Lib.hid (HK.out.below hk8)
      have HRB8 := Lib.hid (HRB2.out.below hk8)
      have hb8 := Btrans hbw hk8
      clear hk8
      go_wp2_with fail
      refine (same_any _ _ _ _ _ HRB8.out HK8.out).mono ?_
      rintro e w9 ⟨rfl, rfl⟩
      go_wp2
      go_ret
      exact ⟨by first | rfl | simp, hb8⟩
    have hil : (i : Int) ≤ (zt.length : Int) := by omega
    have HM := Lib.hid hM
    have HK := Lib.hid hK
    have hrl := rest_len (U8s.take (l := za) HA0.out.2 f)
    have hRr := split_rest_range (U8s.take (l := za) HA0.out.2 f)
    have hfsl := fs_len (za.take f)
    rw [List.length_take] at hfsl
    have HAw := Lib.hid (HA0.out.below hbw)
    have hfs2 : (split (za.take f)).fs.length + (split (za.take f)).bad ≤ 1500 := Nat.le_trans hfsl (Nat.le_trans (Nat.min_le_right _ _) (Nat.le_of_not_lt ha))
    have hza : za.length ≤ 1500 := Nat.le_of_not_lt ha
    clear hfsl
    -- where the part ends
    have key : ∀ T : Nat, f ≤ T → T ≤ za.length → split (za.take T) = (split ([] ++ (split (za.take f)).rest ++ (za.drop f).take (T - f))).put (split (za.take f)).fs (split (za.take f)).bad := fun T h1 _ => split_next za f T h1
    have HKEY := Lib.hid key
    generalize (split (za.take f)).rest = R at *
    generalize (split (za.take f)).fs = F at *
    generalize (split (za.take f)).bad = p at *
    clear hM hK key hend
    by_cases hlast : i = zt.length
    · have hilf : ¬ ((i : Int) < (zt.length : Int)) := by omega
      have hfT : f ≤ za.length := hf
      have hTl : za.length ≤ za.length := Nat.le_refl _
      have HTL : Hid (i + 1 = zt.length + 1 → za.length = za.length) := Lib.hid (fun _ => rfl)
      obtain ⟨seg, hseg, hsl, hsl2, hu, s6, hS6, hr260, hfs⟩ := part_facts za R f za.length HA0.out.2 hRr hfT hTl hza hrl
      have HU := Lib.hid hu
      have HNX : Hid (split (za.take za.length) = s6.put F p) := Lib.hid (by rw [HKEY.out za.length hfT hTl, ← hseg, hS6])
      have HS6 := Lib.hid hS6
      have hT1 : (f : Int) ≤ (za.length : Int) := by omega
      have hT2 : (za.length : Int) ≤ (ca : Int) := by omega
      have HSG := Lib.hid hseg
      clear hu hS6 hseg HKEY hRr
      by_cases hcf : ca = f
      · have HSN : Hid (seg = []) := Lib.hid (List.eq_nil_of_length_eq_zero (by omega))
        have hfe : f = f := rfl
        subst hcf
        go_wp2_with fail
        try rw [HTW.out]
        go_region_law (first
          | (refine step_ap8 rfl (.tmp 60) (.tmp 61) rfl wr.heap.size _ [] rfl (own_empty _ _ _ _ (Nat.le_refl _) rfl) _ R rfl (HK.out.bytes.below (by go_grown)) (by simp; omega) (by simp) wr (by go_grown) ?_; intro v4 w4 hO4 hb4 hg4)
          | (refine step_ap8 rfl (.tmp 62) (.tmp 66) rfl wr.heap.size _ ([] ++ R) rfl hO4.out _ seg rfl (by first | exact HSEG.out.below hb4 | (rw [HSN.out]; first | exact Bytes.empty _ _ (by decide) (fun _ => rfl) | exact Bytes.empty' (by omega) (by omega))) (by simp; omega) hb4.size wr hb4 ?_; intro v5 w5 hO5 hb5 hg5)
          | (rw [if_pos (by rfl)]; go_simp; go_at_call 12; refine (split_own _ ([] ++ R ++ seg) _ (Own8.of_own hO5.out HU.out).bytes (by simp; omega)).mono ?_; rw [HS6.out]; rintro e w6 ⟨vl, vk, rfl, hfr, hrb, hk6⟩; go_simp))
        have HB6 := Lib.hid (Btrans hb5 hk6)
        obtain ⟨us, g1, g2, g3, g4⟩ := hfr.parts
        have HG2 := Lib.hid g2
        have HG3 := Lib.hid g3
        have HG4 := Lib.hid g4
        obtain ⟨Rk, ck, rfl, hck, hcmk, q6⟩ := hrb.bytes.src
        have HRB := Lib.hid hrb
        have HM6 := Lib.hid (HM.out.below HB6.out)
        obtain ⟨vs, m1, m2, m3, m4⟩ := HM6.out.parts
        have M1 := Lib.hid m1
        have M3 := Lib.hid m3
        have BW6 := Lib.hid (Btrans hbw HB6.out)
        have B26 := Lib.hid (Btrans hb2w HB6.out)
        have hus := g3.1
        have hvs := m3.1
        clear hfr hrb q6 g1 g2 g3 g4 m1 m2 m3 m4 hO4 hb4 hg4 hO5 hb5 hg5 hk6 HK
        try clear HSEG
        go_wp2_with (at_builtin; refine wpList_app elR rfl (.tmp 75) (.tmp 76) rfl w2.heap.size _ F.length vs rfl M1.out _ us rfl HG2.out HG4.out ?_ ?_ ?_ ?_)
        case refine_1 => unfold maxLen; omega
        case refine_2 => omega
        case refine_3 => exact B26.out.size
        intro v7 w7 hown7 hg7 _
        have HF7 := Lib.hid (Frows.app M1.out M3.out HG3.out (by first | exact hown7 | (rw [hus]; exact hown7)) hg7)
        have hbel : Below w6.heap.size w6 w6 := Below.refl _ _
        have B27 := Lib.hid (below_app B26.out B26.out.size M1.out hg7 (Nat.le_refl _))
        have BW7 := Lib.hid (below_app BW6.out BW6.out.size M1.out hg7 (by have := HW2.out; exact this))
        have HR7 := Lib.hid (HRB.out.grown M1.out hg7)
        clear hown7 hg7
        go_wp2
        go_roundw
        case rel =>
          refine ⟨i + 1, za.length, by omega, by omega, (by first | exact HTL.out | exact fun _ => rfl), by go_num, by go_num, ?_, ?_, ?_, BW7.out, B27.out⟩
          · rw [HNX.out]; simp [Sp.put]
          · rw [HNX.out]; exact HF7.out
          · rw [HNX.out]; exact HR7.out
        case measure => simp [intOf]; omega
      · obtain ⟨ada, rfl⟩ := HAC.out.resolve_right (by omega)
        have HSEG : Hid (Bytes wr (.slice (some (ada.add f)) (za.length - f) (ca - f)) seg) := Lib.hid (by rw [HSG.out]; exact Bytes.sub HAw.out f (za.length - f) (ca - f) (by omega) (by omega) (by unfold maxLen; omega))
        go_wp2_with fail
        try rw [HTW.out]
        go_region_law (first
          | (refine step_ap8 rfl (.tmp 60) (.tmp 61) rfl wr.heap.size _ [] rfl (own_empty _ _ _ _ (Nat.le_refl _) rfl) _ R rfl (HK.out.bytes.below (by go_grown)) (by simp; omega) (by simp) wr (by go_grown) ?_; intro v4 w4 hO4 hb4 hg4)
          | (refine step_ap8 rfl (.tmp 62) (.tmp 66) rfl wr.heap.size _ ([] ++ R) rfl hO4.out _ seg rfl (by first | exact HSEG.out.below hb4 | (rw [HSN.out]; first | exact Bytes.empty _ _ (by decide) (fun _ => rfl) | exact Bytes.empty' (by omega) (by omega))) (by simp; omega) hb4.size wr hb4 ?_; intro v5 w5 hO5 hb5 hg5)
          | (rw [if_pos (by rfl)]; go_simp; go_at_call 12; refine (split_own _ ([] ++ R ++ seg) _ (Own8.of_own hO5.out HU.out).bytes (by simp; omega)).mono ?_; rw [HS6.out]; rintro e w6 ⟨vl, vk, rfl, hfr, hrb, hk6⟩; go_simp))
        have HB6 := Lib.hid (Btrans hb5 hk6)
        obtain ⟨us, g1, g2, g3, g4⟩ := hfr.parts
        have HG2 := Lib.hid g2
        have HG3 := Lib.hid g3
        have HG4 := Lib.hid g4
        obtain ⟨Rk, ck, rfl, hck, hcmk, q6⟩ := hrb.bytes.src
        have HRB := Lib.hid hrb
        have HM6 := Lib.hid (HM.out.below HB6.out)
        obtain ⟨vs, m1, m2, m3, m4⟩ := HM6.out.parts
        have M1 := Lib.hid m1
        have M3 := Lib.hid m3
        have BW6 := Lib.hid (Btrans hbw HB6.out)
        have B26 := Lib.hid (Btrans hb2w HB6.out)
        have hus := g3.1
        have hvs := m3.1
        clear hfr hrb q6 g1 g2 g3 g4 m1 m2 m3 m4 hO4 hb4 hg4 hO5 hb5 hg5 hk6 HK
        try clear HSEG
        go_wp2_with (at_builtin; refine wpList_app elR rfl (.tmp 75) (.tmp 76) rfl w2.heap.size _ F.length vs rfl M1.out _ us rfl HG2.out HG4.out ?_ ?_ ?_ ?_)
        case refine_1 => unfold maxLen; omega
        case refine_2 => omega
        case refine_3 => exact B26.out.size
        intro v7 w7 hown7 hg7 _
        have HF7 := Lib.hid (Frows.app M1.out M3.out HG3.out (by first | exact hown7 | (rw [hus]; exact hown7)) hg7)
        have hbel : Below w6.heap.size w6 w6 := Below.refl _ _
        have B27 := Lib.hid (below_app B26.out B26.out.size M1.out hg7 (Nat.le_refl _))
        have BW7 := Lib.hid (below_app BW6.out BW6.out.size M1.out hg7 (by have := HW2.out; exact this))
        have HR7 := Lib.hid (HRB.out.grown M1.out hg7)
        clear hown7 hg7
        go_wp2
        go_roundw
        case rel =>
          refine ⟨i + 1, za.length, by omega, by omega, (by first | exact HTL.out | exact fun _ => rfl), by go_num, by go_num, ?_, ?_, ?_, BW7.out, B27.out⟩
          · rw [HNX.out]; simp [Sp.put]
          · rw [HNX.out]; exact HF7.out
          · rw [HNX.out]; exact HR7.out
        case measure => simp [intOf]; omega
    · obtain ⟨x, hx⟩ : ∃ x, zt[i]? = some x := ⟨_, List.getElem?_eq_getElem (by omega)⟩
      obtain ⟨hx0, hx1, ad, e0, had, hcx0⟩ := QT.out i x hx
      subst e0
      have hcx : wr.cell? (ad.add i) = some (.int .u16 x) := (hbw.cell (by rw [block_add]; exact had)).trans hcx0
      obtain ⟨x, rfl⟩ := Int.eq_ofNat_of_zero_le hx0
      obtain ⟨D, hD⟩ : ∃ D : Nat, D = za.length - f + 1 := ⟨_, rfl⟩
      obtain ⟨M, hMM⟩ : ∃ M : Nat, M = x % D := ⟨_, rfl⟩
      have hMl : M < D := by rw [hMM]; exact Nat.mod_lt _ (by omega)
      have hDi : (za.length : Int) - (f : Int) + 1 = (D : Int) := by omega
      have hMi : (x : Int) % (D : Int) = (M : Int) := by rw [hMM]; simp
      have hMt : (x : Int).tmod (D : Int) = (M : Int) := by rw [Int.tmod_eq_emod_of_nonneg (by omega)]; exact hMi
      have hD0 : ¬ D = 0 := by omega
      have hil2 : (i : Int) < (zt.length : Int) := by omega
      obtain ⟨T, hT⟩ : ∃ T : Nat, T = f + M := ⟨_, rfl⟩
      have hfT : f ≤ T := by omega
      have hTl : T ≤ za.length := by omega
      have hTW : wrap64 ((f : Int) + (x : Int) % ((za.length : Int) - (f : Int) + 1)) = (T : Int) := by
        rw [hDi, hMi, IntWalk.wrap64_in _ (by omega)]
        omega
      have HTL : Hid (i + 1 = zt.length + 1 → T = za.length) := Lib.hid (fun h => absurd h (by omega))
      have HTW := Lib.hid hTW
      clear hcx0 hx hMM hT hMi hMt hDi hTW
      obtain ⟨seg, hseg, hsl, hsl2, hu, s6, hS6, hr260, hfs⟩ := part_facts za R f T HA0.out.2 hRr hfT hTl hza hrl
      have HU := Lib.hid hu
      have HNX : Hid (split (za.take T) = s6.put F p) := Lib.hid (by rw [HKEY.out T hfT hTl, ← hseg, hS6])
      have HS6 := Lib.hid hS6
      have hT1 : (f : Int) ≤ (T : Int) := by omega
      have hT2 : (T : Int) ≤ (ca : Int) := by omega
      have HSG := Lib.hid hseg
      clear hu hS6 hseg HKEY hRr
      by_cases hcf : ca = f
      · have HSN : Hid (seg = []) := Lib.hid (List.eq_nil_of_length_eq_zero (by omega))
        obtain rfl : T = f := by omega
        subst hcf
        go_wp2_with fail
        try rw [HTW.out]
        go_region_law (first
          | (refine step_ap8 rfl (.tmp 60) (.tmp 61) rfl wr.heap.size _ [] rfl (own_empty _ _ _ _ (Nat.le_refl _) rfl) _ R rfl (HK.out.bytes.below (by go_grown)) (by simp; omega) (by simp) wr (by go_grown) ?_; intro v4 w4 hO4 hb4 hg4)
          | (refine step_ap8 rfl (.tmp 62) (.tmp 66) rfl wr.heap.size _ ([] ++ R) rfl hO4.out _ seg rfl (by first | exact HSEG.out.below hb4 | (rw [HSN.out]; first | exact Bytes.empty _ _ (by decide) (fun _ => rfl) | exact Bytes.empty' (by omega) (by omega))) (by simp; omega) hb4.size wr hb4 ?_; intro v5 w5 hO5 hb5 hg5)
          | (rw [if_pos (by rfl)]; go_simp; go_at_call 12; refine (split_own _ ([] ++ R ++ seg) _ (Own8.of_own hO5.out HU.out).bytes (by simp; omega)).mono ?_; rw [HS6.out]; rintro e w6 ⟨vl, vk, rfl, hfr, hrb, hk6⟩; go_simp))
        have HB6 := Lib.hid (Btrans hb5 hk6)
        obtain ⟨us, g1, g2, g3, g4⟩ := hfr.parts
        have HG2 := Lib.hid g2
        have HG3 := Lib.hid g3
        have HG4 := Lib.hid g4
        obtain ⟨Rk, ck, rfl, hck, hcmk, q6⟩ := hrb.bytes.src
        have HRB := Lib.hid hrb
        have HM6 := Lib.hid (HM.out.below HB6.out)
        obtain ⟨vs, m1, m2, m3, m4⟩ := HM6.out.parts
        have M1 := Lib.hid m1
        have M3 := Lib.hid m3
        have BW6 := Lib.hid (Btrans hbw HB6.out)
        have B26 := Lib.hid (Btrans hb2w HB6.out)
        have hus := g3.1
        have hvs := m3.1
        clear hfr hrb q6 g1 g2 g3 g4 m1 m2 m3 m4 hO4 hb4 hg4 hO5 hb5 hg5 hk6 HK
        try clear HSEG
        go_wp2_with (at_builtin; refine wpList_app elR rfl (.tmp 75) (.tmp 76) rfl w2.heap.size _ F.length vs rfl M1.out _ us rfl HG2.out HG4.out ?_ ?_ ?_ ?_)
        case refine_1 => unfold maxLen; omega
        case refine_2 => omega
        case refine_3 => exact B26.out.size
        intro v7 w7 hown7 hg7 _
        have HF7 := Lib.hid (Frows.app M1.out M3.out HG3.out (by first | exact hown7 | (rw [hus]; exact hown7)) hg7)
        have hbel : Below w6.heap.size w6 w6 := Below.refl _ _
        have B27 := Lib.hid (below_app B26.out B26.out.size M1.out hg7 (Nat.le_refl _))
        have BW7 := Lib.hid (below_app BW6.out BW6.out.size M1.out hg7 (by have := HW2.out; exact this))
        have HR7 := Lib.hid (HRB.out.grown M1.out hg7)
        clear hown7 hg7
        go_wp2
        go_roundw
        case rel =>
          refine ⟨i + 1, ca, by omega, by omega, (by first | exact HTL.out | exact fun _ => rfl), by go_num, by go_num, ?_, ?_, ?_, BW7.out, B27.out⟩
          · rw [HNX.out]; simp [Sp.put]
          · rw [HNX.out]; exact HF7.out
          · rw [HNX.out]; exact HR7.out
        case measure => simp [intOf]; omega
      · obtain ⟨ada, rfl⟩ := HAC.out.resolve_right (by omega)
        have HSEG : Hid (Bytes wr (.slice (some (ada.add f)) (T - f) (ca - f)) seg) := Lib.hid (by rw [HSG.out]; exact Bytes.sub HAw.out f (T - f) (ca - f) (by omega) (by omega) (by unfold maxLen; omega))
        go_wp2_with fail
        try rw [HTW.out]
        go_region_law (first
          | (refine step_ap8 rfl (.tmp 60) (.tmp 61) rfl wr.heap.size _ [] rfl (own_empty _ _ _ _ (Nat.le_refl _) rfl) _ R rfl (HK.out.bytes.below (by go_grown)) (by simp; omega) (by simp) wr (by go_grown) ?_; intro v4 w4 hO4 hb4 hg4)
          | (refine step_ap8 rfl (.tmp 62) (.tmp 66) rfl wr.heap.size _ ([] ++ R) rfl hO4.out _ seg rfl (by first | exact HSEG.out.below hb4 | (rw [HSN.out]; first | exact Bytes.empty _ _ (by decide) (fun _ => rfl) | exact Bytes.empty' (by omega) (by omega))) (by simp; omega) hb4.size wr hb4 ?_; intro v5 w5 hO5 hb5 hg5)
          | (rw [if_pos (by rfl)]; go_simp; go_at_call 12; refine (split_own _ ([] ++ R ++ seg) _ (Own8.of_own hO5.out HU.out).bytes (by simp; omega)).mono ?_; rw [HS6.out]; rintro e w6 ⟨vl, vk, rfl, hfr, hrb, hk6⟩; go_simp))
        have HB6 := Lib.hid (Btrans hb5 hk6)
        obtain ⟨us, g1, g2, g3, g4⟩ := hfr.parts
        have HG2 := Lib.hid g2
        have HG3 := Lib.hid g3
        have HG4 := Lib.hid g4
        obtain ⟨Rk, ck, rfl, hck, hcmk, q6⟩ := hrb.bytes.src
        have HRB := Lib.hid hrb
        have HM6 := Lib.hid (HM.out.below HB6.out)
        obtain ⟨vs, m1, m2, m3, m4⟩ := HM6.out.parts
        have M1 := Lib.hid m1
        have M3 := Lib.hid m3
        have BW6 := Lib.hid (Btrans hbw HB6.out)
        have B26 := Lib.hid (Btrans hb2w HB6.out)
        have hus := g3.1
        have hvs := m3.1
        clear hfr hrb q6 g1 g2 g3 g4 m1 m2 m3 m4 hO4 hb4 hg4 hO5 hb5 hg5 hk6 HK
        try clear HSEG
        go_wp2_with (at_builtin; refine wpList_app elR rfl (.tmp 75) (.tmp 76) rfl w2.heap.size _ F.length vs rfl M1.out _ us rfl HG2.out HG4.out ?_ ?_ ?_ ?_)
        case refine_1 => unfold maxLen; omega
        case refine_2 => omega
        case refine_3 => exact B26.out.size
        intro v7 w7 hown7 hg7 _
        have HF7 := Lib.hid (Frows.app M1.out M3.out HG3.out (by first | exact hown7 | (rw [hus]; exact hown7)) hg7)
        have hbel : Below w6.heap.size w6 w6 := Below.refl _ _
        have B27 := Lib.hid (below_app B26.out B26.out.size M1.out hg7 (Nat.le_refl _))
        have BW7 := Lib.hid (below_app BW6.out BW6.out.size M1.out hg7 (by have := HW2.out; exact this))
        have HR7 := Lib.hid (HRB.out.grown M1.out hg7)
        clear hown7 hg7
        go_wp2
        go_roundw
        case rel =>
          refine ⟨i + 1, T, by omega, by omega, (by first | exact HTL.out | exact fun _ => rfl), by go_num, by go_num, ?_, ?_, ?_, BW7.out, B27.out⟩
          · rw [HNX.out]; simp [Sp.put]
          · rw [HNX.out]; exact HF7.out
          · rw [HNX.out]; exact HR7.out
        case measure => simp [intOf]; omega
end Go.Proofs.Ytkpdfapfcmlhhaa
