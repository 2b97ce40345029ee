/- Layer 23: the document's Read. -/
import Derived.Test.YtaelhgkodcgmnaaDoorRendAJ
import Derived.StillTailTactics
namespace Go.Proofs.YtaelhgkodcgmnaaDoor
open Go.ChangeShapes Go.WideShapes Go.ChangeAt Go.RowKit Go.Deep
open Go.Shelf
set_option linter.unusedVariables false
set_option linter.unusedSimpArgs false

set_option maxRecDepth 100000 in
set_option maxHeartbeats 8000000 in
theorem rread_long (s : ByteArray) (w : World) (hs : s.size ≤ 900000) (hE : Env w) (hsp : 1 < (spl 32 s.data.toList).length) :
    Calls Tryd.prog 12 #[.string s] w fun e w' => ReadQ w' s.data.toList e ∧ Below w.heap.size w w' := by
  have HE := Lib.hid hE
  have HS := Lib.hid hs
  clear hE hs
  go_enter Tryd.func12, Tryd.ntmps12
  go_wp2_with fail
  go_at_call 21
  refine calls_world (fun W => Below w.heap.size w W ∧ Blk W w.heap.size 25 #[.int .i64 0, .slice none 0 0, .slice none 0 0, .slice none 0 0]) ⟨by go_grown, Blk.new _ _ _ _ rfl⟩ fun W0 ⟨hb, hq⟩ => ?_
  refine (split_any s (by have := HS.out; omega) _ (HE.out.below hb)).mono ?_
  rintro e W1 ⟨⟨v1, ps, rfl, hw, hD⟩, hk⟩
  obtain ⟨A, c, rfl, hl⟩ := hw.1.len
  have HB1 := Lib.hid (Btrans hb hk)
  have HQ1 := Lib.hid (hq.below hk)
  have HW := Lib.hid hw
  have HD := Lib.hid hD
  obtain ⟨hsm, hpl⟩ := words_small hD HS.out
  have HSM := Lib.hid hsm
  have HPL := Lib.hid hpl
  clear hb hq hk hw hD hsm hl
  have h1 : (1 : Int) < (ps.length : Int) := by
    have h2 : (D ps).length = ps.length := by simp [D]
    rw [HD.out] at h2
    omega
  obtain ⟨p1, hp1⟩ : ∃ p1, ps[1]? = some p1 := ⟨_, List.getElem?_eq_getElem (by omega)⟩
  obtain ⟨ad, rfl, hab, c1⟩ := HW.out.1.at hp1
  rw [addkk _ _ (by decide)] at c1
  have hab1 : ad.block < W1.heap.size := by rw [block_add] at hab; exact hab
  have HTK := Lib.hid (show gtick (D ps) = numR p1.data.toList by unfold gtick D; rw [List.getElem?_map, hp1]; rfl)
  have HM1 := Lib.hid (HSM.out p1 (List.mem_of_getElem? hp1))
  clear hab hp1
  go_wp2_with fail
  go_at_call 24
  refine calls_world (fun W => Below W1.heap.size W1 W ∧ Blk W W1.heap.size 25 #[.int .i64 0, .slice none 0 0, .slice none 0 0, .slice none 0 0]) ⟨by go_grown, Blk.new _ _ _ _ rfl⟩ fun U0 ⟨hb, hq⟩ => ?_
  refine (number_num p1 (by have := HM1.out; omega) _ (HE.out.below (HB1.out.trans (hb.mono HB1.out.size)))).mono ?_
  rintro e U1 ⟨rfl, hk⟩
  rw [← HTK.out]
  have HBU := Lib.hid (Btrans hb hk)
  have HQU := Lib.hid (hq.below hk)
  clear hb hq hk c1 hab1
  have cB := HQU.out.cells
  have lB := HQU.out.lt
  have fB := HQU.out.froz
  go_wp2_with fail
  clear cB lB fB
  go_loopw [6, 7] (fun pt i wr => ∃ (k : Nat) (CA : Option Addr) (cc : Nat) (RA : Option Addr) (rc : Nat) (HA_ : Option Addr) (hc : Nat), 2 ≤ k ∧ k ≤ ps.length ∧ pt = .int .i64 ((gst (D ps) k).1 : Nat) ∧ i = .int .i64 k ∧ GS W1.heap.size W1.heap.size (gst (D ps) k).2 (gst (D ps) k).1 wr CA cc RA rc HA_ hc ∧ Below W1.heap.size W1 wr) (fun _ i _ => ps.length - (intOf i).toNat)
  case atStart => exact ⟨2, none, 0, none, 0, none, 0, Nat.le_refl _, by omega, by rw [gst_two]; rfl, rfl, by rw [gst_two]; exact ⟨HQU.out.set 0 _, own_nilN _ _, own_nilN _ _, own_nilN _ _, fun g hg => by simp [Value.ownBlock] at hg, fun _ => ⟨rfl, rfl, rfl⟩⟩, HBU.out.setCell (p := ⟨W1.heap.size, 0, none⟩) (Nat.le_refl _) _⟩
  case round =>
    clear HBU HQU
    obtain ⟨k, CA, cc, RA, rc, HA_, hc, h2k, hk, rfl, rfl, hg, hb⟩ := hrel
    obtain ⟨⟨p, t⟩, hpt⟩ : ∃ g, g = gst (D ps) k := ⟨_, rfl⟩
    have HLN := Lib.hid (gst_len (D ps) k)
    have H64 := Lib.hid (gst_64 (D ps) k)
    have HSU := Lib.hid (fun w hw => gst_succ (ws := D ps) (k := k) (w := w) h2k hw)
    rw [← hpt] at hg HLN H64 HSU ⊢
    have HPT := Lib.hid hpt
    dsimp only at hg HLN H64
    clear hpt
    have HG := Lib.hid hg
    have HB := Lib.hid hb
    have hbs := hb.size
    have hpl2 : p ≤ 900001 := by have := HLN.out; omega
    have cB := hg.1.cells
    have lB := hg.1.lt
    have fB := hg.1.froz
    clear hg hb
    by_cases hlt : k < ps.length
    · obtain ⟨x, hx⟩ : ∃ x, ps[k]? = some x := ⟨_, List.getElem?_eq_getElem hlt⟩
      have HM := Lib.hid (HSM.out x (List.mem_of_getElem? hx))
      have HST := Lib.hid (HSU.out x.data.toList (by unfold D; rw [List.getElem?_map, hx]; rfl))
      obtain ⟨_, e1, hab, c0⟩ := HW.out.1.at hx
      injection e1 with e1
      subst e1
      have k0 := (HB.out.cell hab).trans c0
      have hab2 : (ad.add k).block < wr.heap.size := by omega
      have hkl : (k : Int) < (ps.length : Int) := by omega
      clear c0 hab HSU
      by_cases hs : x.data.toList = [47]
      · have q0 : (x.toList == [47]) = true := by rw [toList_data, hs]; rfl
        have HN := Lib.hid (show gst (D ps) (k + 1) = (p + 1, t) by rw [HST.out]; unfold gstep; rw [if_pos hs])
        clear hs
        go_wp2
        go_roundw
        case rel => exact ⟨k + 1, CA, cc, RA, rc, HA_, hc, by omega, by omega, by rw [HN.out]; go_num, by go_num, by rw [HN.out]; exact HG.out.more (by omega), HB.out⟩
        case measure => simp [intOf]; omega
      · have q0 : (x.toList == [47]) = false := by rw [toList_data, beq_eq_false_iff_ne]; exact hs
        by_cases hp0 : p = 0
        · subst hp0
          have HSL := Lib.hid hs
          clear hs
          have htl : t.cells.length ≤ 900001 := by have := HLN.out; unfold tot at this; omega
          by_cases hm : x.data.toList = [109]
          · have q1 : (x.toList == [109]) = true := by rw [toList_data, hm]; rfl
            have HN := Lib.hid (show gst (D ps) (k + 1) = (0, { t with cells := t.cells ++ [⟨2, 0, 0⟩] }) by rw [HST.out]; unfold gstep; rw [if_neg HSL.out, if_pos rfl]; unfold gcell;  rw [if_pos hm])
            clear hm
            go_wp2_with (at_builtin; refine wpList_appN elCl rfl (.tmp 74) (.tmp 76) rfl W1.heap.size _ t.cells.length (tk f3 t.cells) rfl (own_below HG.out.2.1 (by go_grown)) _ 1 (tk f3 [⟨2, 0, 0⟩]) rfl (RowN.of_blk (Blk.new _ _ _ _ (by simp)) rfl rfl (Nat.le_refl _) (by decide)) (tk_all f3_one _) (by unfold maxLen; omega) (by omega) (by simp; omega) ?_)
            intro v2 W2 hO2 hg2 hk2
            have hbA : Below wr.heap.size wr ((wr.alloc (.cells #[.int .i64 2, .int .i64 0, .int .i64 0] 44)).alloc (.cells #[.int .i64 2, .int .i64 0, .int .i64 0] 44)) := ((Below.refl _ _).alloc (Nat.le_refl _) _).alloc (by simp) _
            have hGA := HG.out.below hbA
            obtain ⟨FB, fb, rfl⟩ := own_shapeZ hO2
            have HG2 := Lib.hid (hGA.cell ⟨2, 0, 0⟩ hO2 hg2)
            have HB2 := Lib.hid ((below_app (B := W1.heap.size) (HB.out.trans (hbA.mono hbs)) (by have := hbA.size; simp at this ⊢; omega) hGA.2.1 hg2 (Nat.le_refl _)).setCell (p := ⟨W1.heap.size, 1, none⟩) (Nat.le_refl _) (.slice FB (t.cells.length + 1) fb))
            have hBK := blk_own hGA.1 hGA.2.1 (by decide) hg2
            have cB2 := hBK.cells
            have lB2 := hBK.lt
            have fB2 := hBK.froz
            clear hO2 hg2 hk2 hGA hbA hBK cB lB fB
            go_wp2
            go_roundw
            case rel => exact ⟨k + 1, FB, fb, RA, rc, HA_, hc, by omega, by omega, by (rw [HN.out]) <;> (first | rfl | simp), by go_num, by rw [HN.out]; exact HG2.out, HB2.out⟩
            case measure => simp [intOf]; omega
          · have q1 : (x.toList == [109]) = false := by rw [toList_data, beq_eq_false_iff_ne]; exact hm
            have HM1 := Lib.hid hm
            clear hm
            by_cases hm : x.data.toList = [117]
            · have q2 : (x.toList == [117]) = true := by rw [toList_data, hm]; rfl
              have HN := Lib.hid (show gst (D ps) (k + 1) = (0, { t with cells := t.cells ++ [⟨3, 0, 0⟩] }) by rw [HST.out]; unfold gstep; rw [if_neg HSL.out, if_pos rfl]; unfold gcell; rw [if_neg HM1.out]; rw [if_pos hm])
              clear hm
              go_wp2_with (at_builtin; refine wpList_appN elCl rfl (.tmp 74) (.tmp 76) rfl W1.heap.size _ t.cells.length (tk f3 t.cells) rfl (own_below HG.out.2.1 (by go_grown)) _ 1 (tk f3 [⟨3, 0, 0⟩]) rfl (RowN.of_blk (Blk.new _ _ _ _ (by simp)) rfl rfl (Nat.le_refl _) (by decide)) (tk_all f3_one _) (by unfold maxLen; omega) (by omega) (by simp; omega) ?_)
              intro v2 W2 hO2 hg2 hk2
              have hbA : Below wr.heap.size wr ((wr.alloc (.cells #[.int .i64 3, .int .i64 0, .int .i64 0] 44)).alloc (.cells #[.int .i64 3, .int .i64 0, .int .i64 0] 44)) := ((Below.refl _ _).alloc (Nat.le_refl _) _).alloc (by simp) _
              have hGA := HG.out.below hbA
              obtain ⟨FB, fb, rfl⟩ := own_shapeZ hO2
              have HG2 := Lib.hid (hGA.cell ⟨3, 0, 0⟩ hO2 hg2)
              have HB2 := Lib.hid ((below_app (B := W1.heap.size) (HB.out.trans (hbA.mono hbs)) (by have := hbA.size; simp at this ⊢; omega) hGA.2.1 hg2 (Nat.le_refl _)).setCell (p := ⟨W1.heap.size, 1, none⟩) (Nat.le_refl _) (.slice FB (t.cells.length + 1) fb))
              have hBK := blk_own hGA.1 hGA.2.1 (by decide) hg2
              have cB2 := hBK.cells
              have lB2 := hBK.lt
              have fB2 := hBK.froz
              clear hO2 hg2 hk2 hGA hbA hBK cB lB fB
              go_wp2
              go_roundw
              case rel => exact ⟨k + 1, FB, fb, RA, rc, HA_, hc, by omega, by omega, by (rw [HN.out]) <;> (first | rfl | simp), by go_num, by rw [HN.out]; exact HG2.out, HB2.out⟩
              case measure => simp [intOf]; omega
            · have q2 : (x.toList == [117]) = false := by rw [toList_data, beq_eq_false_iff_ne]; exact hm
              have HM2 := Lib.hid hm
              clear hm
              by_cases hm : x.data.toList = [114]
              · have q3 : (x.toList == [114]) = true := by rw [toList_data, hm]; rfl
                have HN := Lib.hid (show gst (D ps) (k + 1) = (0, { t with cells := t.cells ++ [⟨4, 0, 0⟩] }) by rw [HST.out]; unfold gstep; rw [if_neg HSL.out, if_pos rfl]; unfold gcell; rw [if_neg HM1.out, if_neg HM2.out]; rw [if_pos hm])
                clear hm
                go_wp2_with (at_builtin; refine wpList_appN elCl rfl (.tmp 74) (.tmp 76) rfl W1.heap.size _ t.cells.length (tk f3 t.cells) rfl (own_below HG.out.2.1 (by go_grown)) _ 1 (tk f3 [⟨4, 0, 0⟩]) rfl (RowN.of_blk (Blk.new _ _ _ _ (by simp)) rfl rfl (Nat.le_refl _) (by decide)) (tk_all f3_one _) (by unfold maxLen; omega) (by omega) (by simp; omega) ?_)
                intro v2 W2 hO2 hg2 hk2
                have hbA : Below wr.heap.size wr ((wr.alloc (.cells #[.int .i64 4, .int .i64 0, .int .i64 0] 44)).alloc (.cells #[.int .i64 4, .int .i64 0, .int .i64 0] 44)) := ((Below.refl _ _).alloc (Nat.le_refl _) _).alloc (by simp) _
                have hGA := HG.out.below hbA
                obtain ⟨FB, fb, rfl⟩ := own_shapeZ hO2
                have HG2 := Lib.hid (hGA.cell ⟨4, 0, 0⟩ hO2 hg2)
                have HB2 := Lib.hid ((below_app (B := W1.heap.size) (HB.out.trans (hbA.mono hbs)) (by have := hbA.size; simp at this ⊢; omega) hGA.2.1 hg2 (Nat.le_refl _)).setCell (p := ⟨W1.heap.size, 1, none⟩) (Nat.le_refl _) (.slice FB (t.cells.length + 1) fb))
                have hBK := blk_own hGA.1 hGA.2.1 (by decide) hg2
                have cB2 := hBK.cells
                have lB2 := hBK.lt
                have fB2 := hBK.froz
                clear hO2 hg2 hk2 hGA hbA hBK cB lB fB
                go_wp2
                go_roundw
                case rel => exact ⟨k + 1, FB, fb, RA, rc, HA_, hc, by omega, by omega, by (rw [HN.out]) <;> (first | rfl | simp), by go_num, by rw [HN.out]; exact HG2.out, HB2.out⟩
                case measure => simp [intOf]; omega
              · have q3 : (x.toList == [114]) = false := by rw [toList_data, beq_eq_false_iff_ne]; exact hm
                have HM3 := Lib.hid hm
                clear hm
                go_wp2_with fail
                go_at_call 26
                refine calls_world (fun W => Below wr.heap.size wr W ∧ Blk W wr.heap.size 44 #[.int .i64 1, .int .i64 0, .int .i64 0]) ⟨by go_grown, Blk.new _ _ _ _ (by first | rfl | simp)⟩ fun V0 ⟨hb0, hq0⟩ => ?_
                refine (Tryd.strings_TrimPrefix x ⟨#[118]⟩ V0).mono ?_
                rintro e V1 ⟨rfl, hw⟩
                subst hw
                obtain ⟨y, hy⟩ : ∃ y : ByteArray, y = ⟨(Lib.trimPrefix x.data.toList (⟨#[118]⟩ : ByteArray).data.toList).toArray⟩ := ⟨_, rfl⟩
                rw [← hy]
                have HY := Lib.hid (show y.data.toList = Lib.trimPrefix x.data.toList [118] by rw [hy])
                have HYS := Lib.hid (show y.size ≤ x.size by
                  have h1 := Lib.trimPrefix_le x.data.toList [118]
                  rw [← HY.out] at h1
                  exact h1)
                have HB0 := Lib.hid hb0
                have HQ0 := Lib.hid hq0
                clear hy hb0 hq0
                go_wp2_with fail
                go_at_call 25
                refine (cut_any y (by have h1 := HYS.out; have h2 := HM.out; omega) _ (HE.out.below (HB1.out.trans ((HB.out.trans (HB0.out.mono hbs)).mono HB1.out.size)))).mono ?_
                rintro e V2 ⟨⟨ca, cb, oc, rfl, hC⟩, hk⟩
                have HCV := Lib.hid hC
                have HCS := Lib.hid (show ca.size ≤ 281474976710656 ∧ cb.size ≤ 281474976710656 by
                  have h1 := cut_size y.data.toList [64]
                  rw [← hC.1, ← hC.2] at h1
                  have h2 := HYS.out
                  have h3 := HM.out
                  have h4 : y.data.toList.length = y.size := by rfl
                  have h5 : ca.data.toList.length = ca.size := by rfl
                  have h6 : cb.data.toList.length = cb.size := by rfl
                  omega)
                have HB2 := Lib.hid (Btrans HB0.out hk)
                have HQ2 := Lib.hid (HQ0.out.below hk)
                clear hC hk
                go_wp2_with fail
                go_at_call 24
                refine (number_num ca HCS.out.1 _ (HE.out.below (HB1.out.trans ((HB.out.trans (HB2.out.mono hbs)).mono HB1.out.size)))).mono ?_
                rintro e V3 ⟨rfl, hk⟩
                obtain ⟨n1, hn1⟩ : ∃ n1, n1 = numR ca.data.toList := ⟨_, rfl⟩
                rw [← hn1]
                have HN1 := Lib.hid hn1
                have HB3 := Lib.hid (Btrans HB2.out hk)
                have HQ3 := Lib.hid (HQ2.out.below hk)
                clear hn1 hk
                have cC := HQ3.out.cells
                have lC := HQ3.out.lt
                have fC := HQ3.out.froz
                go_wp2_with fail
                go_at_call 24
                refine calls_world (fun W => Below wr.heap.size wr W ∧ Blk W wr.heap.size 44 #[.int .i64 1, .int .i64 n1, .int .i64 0]) ⟨HB3.out.setCell (p := ⟨wr.heap.size, 1, none⟩) (Nat.le_refl _) _, HQ3.out.set 1 _⟩ fun V4 ⟨hb4, hq4⟩ => ?_
                refine (number_num cb HCS.out.2 _ (HE.out.below (HB1.out.trans ((HB.out.trans (hb4.mono hbs)).mono HB1.out.size)))).mono ?_
                rintro e V5 ⟨rfl, hk⟩
                obtain ⟨n2, hn2⟩ : ∃ n2, n2 = numR cb.data.toList := ⟨_, rfl⟩
                rw [← hn2]
                have HN2 := Lib.hid hn2
                have HB5 := Lib.hid (Btrans hb4 hk)
                have HQ5 := Lib.hid (hq4.below hk)
                clear hn2 hk hb4 hq4 cC lC fC
                have cC := HQ5.out.cells
                have lC := HQ5.out.lt
                have fC := HQ5.out.froz
                have cD := (HG.out.1.below HB5.out).cells
                have lD := (HG.out.1.below HB5.out).lt
                have fD := (HG.out.1.below HB5.out).froz
                have hne : ¬ W1.heap.size = wr.heap.size := by have := HG.out.1.lt; omega
                clear cB lB fB k0
                have HN := Lib.hid (show gst (D ps) (k + 1) = (0, { t with cells := t.cells ++ [⟨1, n1, n2⟩] }) by
                  rw [HST.out]
                  unfold gstep
                  rw [if_neg HSL.out, if_pos rfl]
                  unfold gcell
                  rw [if_neg HM1.out, if_neg HM2.out, if_neg HM3.out, ← HY.out, ← HCV.out.1, ← HCV.out.2, ← HN1.out, ← HN2.out])
                go_wp2_with (at_builtin; refine wpList_appN elCl rfl (.tmp 74) (.tmp 76) rfl W1.heap.size _ t.cells.length (tk f3 t.cells) rfl (own_below HG.out.2.1 ((HB5.out.setCell (p := ⟨wr.heap.size, 2, none⟩) (Nat.le_refl _) _).alloc (by have := HB5.out.size; simp; omega) _)) _ 1 (tk f3 [⟨1, n1, n2⟩]) rfl (RowN.of_blk (Blk.new _ _ _ _ (by simp)) rfl rfl (Nat.le_refl _) (by decide)) (tk_all f3_one _) (by unfold maxLen; omega) (by omega) (by have := HB5.out.size; simp; omega) ?_)
                intro v2 W2 hO2 hg2 hk2
                have hbA : Below wr.heap.size wr ((V5.setCell ⟨wr.heap.size, 2, none⟩ (.int .i64 n2)).alloc (.cells #[.int .i64 1, .int .i64 n1, .int .i64 n2] 44)) := (HB5.out.setCell (p := ⟨wr.heap.size, 2, none⟩) (Nat.le_refl _) _).alloc (by have := HB5.out.size; simp; omega) _
                have hGA := HG.out.below hbA
                obtain ⟨FB, fb, rfl⟩ := own_shapeZ hO2
                have HG2 := Lib.hid (hGA.cell ⟨1, n1, n2⟩ hO2 hg2)
                have HB2 := Lib.hid ((below_app (B := W1.heap.size) (HB.out.trans (hbA.mono hbs)) (by have := hbA.size; simp at this ⊢; omega) hGA.2.1 hg2 (Nat.le_refl _)).setCell (p := ⟨W1.heap.size, 1, none⟩) (Nat.le_refl _) (.slice FB (t.cells.length + 1) fb))
                have hBK := blk_own hGA.1 hGA.2.1 (by decide) hg2
                have cB2 := hBK.cells
                have lB2 := hBK.lt
                have fB2 := hBK.froz
                clear hO2 hg2 hk2 hGA hbA hBK cC lC fC cD lD fD
                go_wp2
                go_roundw
                case rel => exact ⟨k + 1, FB, fb, RA, rc, HA_, hc, by omega, by omega, by (rw [HN.out]) <;> (first | rfl | simp), by go_num, by rw [HN.out]; exact HG2.out, HB2.out⟩
                case measure => simp [intOf]; omega
        · have HSL := Lib.hid hs
          clear hs
          have htl : t.rules.length ≤ 900001 ∧ t.chans.length ≤ 900001 := by have := HLN.out; unfold tot at this; omega
          have hpi : ((p : Int) == 0) = false := by rw [beq_eq_false_iff_ne]; omega
          by_cases hm : x.data.toList = [43]
          · have q1 : (x.toList == [43]) = true := by rw [toList_data, hm]; rfl
            have HGA := Lib.hid (show galarm x.data.toList = (true, true) by rw [hm]; rfl)
            clear hm
            go_wp2_with fail
            refine wp_region_held_drew (S := fun V => V.cell? (ad.add k) = some (.string x)) (by kernel_rfl) (by exact k0) (fun hHeld => ?_)
            refine takeD 0 (some 79) (v := ?_) rfl rfl (by kernel_rfl) (by kernel_rfl) (by kernel_rfl) (fun _ _ _ h => h) (by rfl) ?_ (by assumption) ?_
            rotate_left
            · intro w hSw
              (try dsimp only at hSw)
              go_simp
              try with_reducible rfl
            try simp only [Act.put, List.setIfInBounds_toArray, List.set_cons_zero, List.set_cons_succ]
            refine takeD 1 (some 80) (v := ?_) rfl rfl (by kernel_rfl) (by kernel_rfl) (by kernel_rfl) (fun _ _ _ h => h) (by rfl) ?_ (by assumption) ?_
            rotate_left
            · intro w hSw
              (try dsimp only at hSw)
              go_simp
              try with_reducible rfl
            try simp only [Act.put, List.setIfInBounds_toArray, List.set_cons_zero, List.set_cons_succ]
            refine takeD 2 (some 81) (v := ?_) rfl rfl (by kernel_rfl) (by kernel_rfl) (by kernel_rfl) (fun _ _ _ h => h) (by rfl) ?_ (by assumption) ?_
            rotate_left
            · intro w hSw
              (try dsimp only at hSw)
              go_simp
              try with_reducible rfl
            try simp only [Act.put, List.setIfInBounds_toArray, List.set_cons_zero, List.set_cons_succ]
            refine takeD 3 (some 82) (v := ?_) rfl rfl (by kernel_rfl) (by kernel_rfl) (by kernel_rfl) (fun _ _ _ h => h) (by rfl) ?_ (by assumption) ?_
            rotate_left
            · intro w hSw
              (try dsimp only at hSw)
              go_simp
              try with_reducible rfl
            try simp only [Act.put, List.setIfInBounds_toArray, List.set_cons_zero, List.set_cons_succ]
            refine takeD 4 (some 83) (v := ?_) rfl rfl (by kernel_rfl) (by kernel_rfl) (by kernel_rfl) (fun _ _ _ h => h) (by rfl) ?_ (by assumption) ?_
            rotate_left
            · intro w hSw
              (try dsimp only at hSw)
              go_simp
              try with_reducible rfl
            try simp only [Act.put, List.setIfInBounds_toArray, List.set_cons_zero, List.set_cons_succ]
            refine takeD 5 (some 84) (v := ?_) rfl rfl (by kernel_rfl) (by kernel_rfl) (by kernel_rfl) (fun _ _ _ h => h) (by rfl) ?_ (by assumption) ?_
            rotate_left
            · intro w hSw
              (try dsimp only at hSw)
              go_simp
              try with_reducible rfl
            try simp only [Act.put, List.setIfInBounds_toArray, List.set_cons_zero, List.set_cons_succ]
            refine skipD 6 (some 85) rfl rfl (by kernel_rfl) (by kernel_rfl) (by kernel_rfl) (fun _ _ _ h => h) (by rfl) (by assumption) ?_
            try simp only [Act.put, List.setIfInBounds_toArray, List.set_cons_zero, List.set_cons_succ]
            refine skipD 7 (some 86) rfl rfl (by kernel_rfl) (by kernel_rfl) (by kernel_rfl) (fun _ _ _ h => h) (by rfl) (by assumption) ?_
            try simp only [Act.put, List.setIfInBounds_toArray, List.set_cons_zero, List.set_cons_succ]
            refine skipD 8 (some 87) rfl rfl (by kernel_rfl) (by kernel_rfl) (by kernel_rfl) (fun _ _ _ h => h) (by rfl) (by assumption) ?_
            try simp only [Act.put, List.setIfInBounds_toArray, List.set_cons_zero, List.set_cons_succ]
            refine skipD 9 (some 88) rfl rfl (by kernel_rfl) (by kernel_rfl) (by kernel_rfl) (fun _ _ _ h => h) (by rfl) (by assumption) ?_
            try simp only [Act.put, List.setIfInBounds_toArray, List.set_cons_zero, List.set_cons_succ]
            refine skipD 10 (some 89) rfl rfl (by kernel_rfl) (by kernel_rfl) (by kernel_rfl) (fun _ _ _ h => h) (by rfl) (by assumption) ?_
            try simp only [Act.put, List.setIfInBounds_toArray, List.set_cons_zero, List.set_cons_succ]
            refine takeD 11 (some 90) (v := ?_) rfl rfl (by kernel_rfl) (by kernel_rfl) (by kernel_rfl) (fun _ _ _ h => h) (by rfl) ?_ (by assumption) ?_
            rotate_left
            · intro w hSw
              (try dsimp only at hSw)
              go_simp
              try with_reducible rfl
            try simp only [Act.put, List.setIfInBounds_toArray, List.set_cons_zero, List.set_cons_succ]
            refine takeD 12 (some 91) (v := ?_) rfl rfl (by kernel_rfl) (by kernel_rfl) (by kernel_rfl) (fun _ _ _ h => h) (by rfl) ?_ (by assumption) ?_
            rotate_left
            · intro w hSw
              (try dsimp only at hSw)
              go_simp
              try with_reducible rfl
            try simp only [Act.put, List.setIfInBounds_toArray, List.set_cons_zero, List.set_cons_succ]
            refine takeD 13 (some 92) (v := ?_) rfl rfl (by kernel_rfl) (by kernel_rfl) (by kernel_rfl) (fun _ _ _ h => h) (by rfl) ?_ (by assumption) ?_
            rotate_left
            · intro w hSw
              (try dsimp only at hSw)
              go_simp
              try with_reducible rfl
            try simp only [Act.put, List.setIfInBounds_toArray, List.set_cons_zero, List.set_cons_succ]
            refine takeD 14 (some 93) (v := ?_) rfl rfl (by kernel_rfl) (by kernel_rfl) (by kernel_rfl) (fun _ _ _ h => h) (by rfl) ?_ (by assumption) ?_
            rotate_left
            · intro w hSw
              (try dsimp only at hSw)
              go_simp
              try with_reducible rfl
            try simp only [Act.put, List.setIfInBounds_toArray, List.set_cons_zero, List.set_cons_succ]
            refine takeD 15 (some 94) (v := ?_) rfl rfl (by kernel_rfl) (by kernel_rfl) (by kernel_rfl) (fun _ _ _ h => h) (by rfl) ?_ (by assumption) ?_
            rotate_left
            · intro w hSw
              (try dsimp only at hSw)
              go_simp
              try with_reducible rfl
            try simp only [Act.put, List.setIfInBounds_toArray, List.set_cons_zero, List.set_cons_succ]
            refine takeD 16 (some 95) (v := ?_) rfl rfl (by kernel_rfl) (by kernel_rfl) (by kernel_rfl) (fun _ _ _ h => h) (by rfl) ?_ (by assumption) ?_
            rotate_left
            · intro w hSw
              (try dsimp only at hSw)
              go_simp
              try with_reducible rfl
            try simp only [Act.put, List.setIfInBounds_toArray, List.set_cons_zero, List.set_cons_succ]
            refine takeD 17 (some 96) (v := ?_) rfl rfl (by kernel_rfl) (by kernel_rfl) (by kernel_rfl) (fun _ _ _ h => h) (by rfl) ?_ (by assumption) ?_
            rotate_left
            · intro w hSw
              (try dsimp only at hSw)
              go_simp
              try with_reducible rfl
            try simp only [Act.put, List.setIfInBounds_toArray, List.set_cons_zero, List.set_cons_succ]
            refine skipD 18 (some 97) rfl rfl (by kernel_rfl) (by kernel_rfl) (by kernel_rfl) (fun _ _ _ h => h) (by rfl) (by assumption) ?_
            try simp only [Act.put, List.setIfInBounds_toArray, List.set_cons_zero, List.set_cons_succ]
            refine skipD 19 (some 98) rfl rfl (by kernel_rfl) (by kernel_rfl) (by kernel_rfl) (fun _ _ _ h => h) (by rfl) (by assumption) ?_
            try simp only [Act.put, List.setIfInBounds_toArray, List.set_cons_zero, List.set_cons_succ]
            refine skipD 20 (some 99) rfl rfl (by kernel_rfl) (by kernel_rfl) (by kernel_rfl) (fun _ _ _ h => h) (by rfl) (by assumption) ?_
            try simp only [Act.put, List.setIfInBounds_toArray, List.set_cons_zero, List.set_cons_succ]
            refine skipD 21 (some 100) rfl rfl (by kernel_rfl) (by kernel_rfl) (by kernel_rfl) (fun _ _ _ h => h) (by rfl) (by assumption) ?_
            try simp only [Act.put, List.setIfInBounds_toArray, List.set_cons_zero, List.set_cons_succ]
            refine skipD 22 (some 101) rfl rfl (by kernel_rfl) (by kernel_rfl) (by kernel_rfl) (fun _ _ _ h => h) (by rfl) (by assumption) ?_
            try simp only [Act.put, List.setIfInBounds_toArray, List.set_cons_zero, List.set_cons_succ]
            refine takeD 23 (some 102) (v := ?_) rfl rfl (by kernel_rfl) (by kernel_rfl) (by kernel_rfl) (fun _ _ _ h => h) (by rfl) ?_ (by assumption) ?_
            rotate_left
            · intro w hSw
              (try dsimp only at hSw)
              go_simp
              try with_reducible rfl
            try simp only [Act.put, List.setIfInBounds_toArray, List.set_cons_zero, List.set_cons_succ]
            refine takeD 24 (some 103) (v := ?_) rfl rfl (by kernel_rfl) (by kernel_rfl) (by kernel_rfl) (fun _ _ _ h => h) (by rfl) ?_ (by assumption) ?_
            rotate_left
            · intro w hSw
              (try dsimp only at hSw)
              go_simp
              try with_reducible rfl
            try simp only [Act.put, List.setIfInBounds_toArray, List.set_cons_zero, List.set_cons_succ]
            refine wpAnyH_ready (rs := [25]) (by kernel_rfl) (by simp) ?_
            refine AllReadyH.cons rfl (fun K hK => ?_) AllReadyH.nil
            rw [if_pos (by rfl)]
            go_simp
            refine nameV (fun V => Below wr.heap.size wr V ∧ Blk V wr.heap.size 51 #[.bool false, .bool false]) ⟨by go_grown, Blk.new _ _ _ _ rfl⟩ fun V1 ⟨hv, hxx⟩ => ?_
            have HV1 := Lib.hid hv
            have HX1 := Lib.hid hxx
            have cX := hxx.cells
            have lX := hxx.lt
            have fX := hxx.froz
            have hS := (hv.cell hab2).trans k0
            clear hv hxx
            refine hK.out _ _ ?_ (fun hHeld2 => ?_)
            · clear hK; exact hS
            clear hK K hHeld hS
            have hHeld := hHeld2
            clear hHeld2
            try simp only [Act.put, List.setIfInBounds_toArray, List.set_cons_zero, List.set_cons_succ]
            refine wpAnyH_ready (rs := [26]) (by kernel_rfl) (by simp) ?_
            refine AllReadyH.cons rfl (fun K hK => ?_) AllReadyH.nil
            rw [if_pos (by rfl)]
            go_simp
            refine nameV (fun V => Below wr.heap.size wr V ∧ Blk V wr.heap.size 51 #[.bool true, .bool true]) ⟨(HV1.out.setCell (p := ⟨wr.heap.size, 0, none⟩) (Nat.le_refl _) _).setCell (p := ⟨wr.heap.size, 1, none⟩) (Nat.le_refl _) _, (HX1.out.set 0 _).set 1 _⟩ fun V2 ⟨hv, hxx⟩ => ?_
            have HV2 := Lib.hid hv
            have HX2 := Lib.hid hxx
            have hS := (hv.cell hab2).trans k0
            clear hv hxx cX lX fX HV1 HX1
            refine hK.out _ _ ?_ (fun hHeld2 => ?_)
            · clear hK; exact hS
            clear hK K hHeld hS
            have hHeld := hHeld2
            clear hHeld2
            try simp only [Act.put, List.setIfInBounds_toArray, List.set_cons_zero, List.set_cons_succ]
            refine wpAnyH_done (by kernel_rfl) ?_ _
            clear hHeld k0
            have cX := HX2.out.cells
            have lX := HX2.out.lt
            have fX := HX2.out.froz
            have cD := (HG.out.1.below HV2.out).cells
            have lD := (HG.out.1.below HV2.out).lt
            have fD := (HG.out.1.below HV2.out).froz
            have hne : ¬ W1.heap.size = wr.heap.size := by have := HG.out.1.lt; omega
            have hvz := HV2.out.size
            clear cB lB fB
            by_cases hp1 : p = 1
            · subst hp1
              have hpe : ((1 : Int) == 1) = true := rfl
              have HN := Lib.hid (show gst (D ps) (k + 1) = (_, { t with rules := t.rules ++ [(true, true)] }) by rw [HST.out]; exact gstep_one HSL.out HGA.out)
              go_wp2_with (at_builtin; refine wpList_appN elAl rfl (.tmp 107) (.tmp 109) rfl W1.heap.size _ t.rules.length (tk f2 t.rules) rfl (own_below HG.out.2.2.1 (HV2.out.alloc hvz _)) _ 1 (tk f2 [(true, true)]) rfl (RowN.of_blk (Blk.new _ _ _ _ (by simp)) rfl rfl (Nat.le_refl _) (by decide)) (tk_all f2_one _) (by unfold maxLen; omega) (by omega) (by simp; omega) ?_)
              intro v2 W2 hO2 hg2 hk2
              have hbA : Below wr.heap.size wr (V2.alloc (.cells #[.bool true, .bool true] 51)) := HV2.out.alloc hvz _
              have hGA := HG.out.below hbA
              obtain ⟨FB, fb, rfl⟩ := own_shapeZ hO2
              have HG2 := Lib.hid (hGA.rule (Nat.le_refl _) (true, true) hO2 hg2)
              have HB2 := Lib.hid ((below_app (B := W1.heap.size) (HB.out.trans (hbA.mono hbs)) (by have := hbA.size; simp at this ⊢; omega) hGA.2.2.1 hg2 (Nat.le_refl _)).setCell (p := ⟨W1.heap.size, 2, none⟩) (Nat.le_refl _) (.slice FB (t.rules.length + 1) fb))
              have hBK := blk_own hGA.1 hGA.2.2.1 (by decide) hg2
              have cB2 := hBK.cells
              have lB2 := hBK.lt
              have fB2 := hBK.froz
              clear hO2 hg2 hk2 hGA hbA hBK cD lD fD cX lX fX
              go_wp2
              go_roundw
              case rel => exact ⟨k + 1, CA, cc, FB, fb, HA_, hc, by omega, by omega, by (rw [HN.out]) <;> (first | rfl | simp), by go_num, by rw [HN.out]; exact HG2.out, HB2.out⟩
              case measure => simp [intOf]; omega
            · have hpe : ((p : Int) == 1) = false := by rw [beq_eq_false_iff_ne]; omega
              have HN := Lib.hid (show gst (D ps) (k + 1) = (_, { t with chans := t.chans ++ [(true, true)] }) by rw [HST.out]; exact gstep_two HSL.out (by omega) HGA.out)
              go_wp2_with (at_builtin; refine wpList_appN elAl rfl (.tmp 113) (.tmp 115) rfl W1.heap.size _ t.chans.length (tk f2 t.chans) rfl (own_below HG.out.2.2.2.1 (HV2.out.alloc hvz _)) _ 1 (tk f2 [(true, true)]) rfl (RowN.of_blk (Blk.new _ _ _ _ (by simp)) rfl rfl (Nat.le_refl _) (by decide)) (tk_all f2_one _) (by unfold maxLen; omega) (by omega) (by simp; omega) ?_)
              intro v2 W2 hO2 hg2 hk2
              have hbA : Below wr.heap.size wr (V2.alloc (.cells #[.bool true, .bool true] 51)) := HV2.out.alloc hvz _
              have hGA := HG.out.below hbA
              obtain ⟨FB, fb, rfl⟩ := own_shapeZ hO2
              have HG2 := Lib.hid (hGA.chan (by omega) (true, true) hO2 hg2 (by simpa using hk2))
              have HB2 := Lib.hid ((below_app (B := W1.heap.size) (HB.out.trans (hbA.mono hbs)) (by have := hbA.size; simp at this ⊢; omega) hGA.2.2.2.1 hg2 (Nat.le_refl _)).setCell (p := ⟨W1.heap.size, 3, none⟩) (Nat.le_refl _) (.slice FB (t.chans.length + 1) fb))
              have hBK := blk_own hGA.1 hGA.2.2.2.1 (by decide) hg2
              have cB2 := hBK.cells
              have lB2 := hBK.lt
              have fB2 := hBK.froz
              clear hO2 hg2 hk2 hGA hbA hBK cD lD fD cX lX fX
              go_wp2
              go_roundw
              case rel => exact ⟨k + 1, CA, cc, RA, rc, FB, fb, by omega, by omega, by (rw [HN.out]) <;> (first | rfl | simp), by go_num, by rw [HN.out]; exact HG2.out, HB2.out⟩
              case measure => simp [intOf]; omega
          · have q1 : (x.toList == [43]) = false := by rw [toList_data, beq_eq_false_iff_ne]; exact hm
            obtain ⟨b1, hb1⟩ : ∃ b, (x.toList == [42]) = b := ⟨_, rfl⟩
            obtain ⟨b2, hb2⟩ : ∃ b, (x.toList == [33]) = b := ⟨_, rfl⟩
            have HGA := Lib.hid (show galarm x.data.toList = (b1, b2) by
              unfold galarm
              rw [decide_eq_false hm, ← hb1, ← hb2, toList_data]
              simp [Bool.beq_eq_decide_eq])
            clear hm
            go_wp2_with fail
            refine wp_region_held_drew (S := fun V => V.cell? (ad.add k) = some (.string x)) (by kernel_rfl) (by exact k0) (fun hHeld => ?_)
            refine takeD 0 (some 79) (v := ?_) rfl rfl (by kernel_rfl) (by kernel_rfl) (by kernel_rfl) (fun _ _ _ h => h) (by rfl) ?_ (by assumption) ?_
            rotate_left
            · intro w hSw
              (try dsimp only at hSw)
              go_simp
              try with_reducible rfl
            try simp only [Act.put, List.setIfInBounds_toArray, List.set_cons_zero, List.set_cons_succ]
            refine takeD 1 (some 80) (v := ?_) rfl rfl (by kernel_rfl) (by kernel_rfl) (by kernel_rfl) (fun _ _ _ h => h) (by rfl) ?_ (by assumption) ?_
            rotate_left
            · intro w hSw
              (try dsimp only at hSw)
              go_simp
              try with_reducible rfl
            try simp only [Act.put, List.setIfInBounds_toArray, List.set_cons_zero, List.set_cons_succ]
            refine takeD 2 (some 81) (v := ?_) rfl rfl (by kernel_rfl) (by kernel_rfl) (by kernel_rfl) (fun _ _ _ h => h) (by rfl) ?_ (by assumption) ?_
            rotate_left
            · intro w hSw
              (try dsimp only at hSw)
              go_simp
              try with_reducible rfl
            try simp only [Act.put, List.setIfInBounds_toArray, List.set_cons_zero, List.set_cons_succ]
            refine takeD 3 (some 82) (v := ?_) rfl rfl (by kernel_rfl) (by kernel_rfl) (by kernel_rfl) (fun _ _ _ h => h) (by rfl) ?_ (by assumption) ?_
            rotate_left
            · intro w hSw
              (try dsimp only at hSw)
              go_simp
              try with_reducible rfl
            try simp only [Act.put, List.setIfInBounds_toArray, List.set_cons_zero, List.set_cons_succ]
            refine takeD 4 (some 83) (v := ?_) rfl rfl (by kernel_rfl) (by kernel_rfl) (by kernel_rfl) (fun _ _ _ h => h) (by rfl) ?_ (by assumption) ?_
            rotate_left
            · intro w hSw
              (try dsimp only at hSw)
              go_simp
              try with_reducible rfl
            try simp only [Act.put, List.setIfInBounds_toArray, List.set_cons_zero, List.set_cons_succ]
            refine takeD 5 (some 84) (v := ?_) rfl rfl (by kernel_rfl) (by kernel_rfl) (by kernel_rfl) (fun _ _ _ h => h) (by rfl) ?_ (by assumption) ?_
            rotate_left
            · intro w hSw
              (try dsimp only at hSw)
              go_simp
              try with_reducible rfl
            try simp only [Act.put, List.setIfInBounds_toArray, List.set_cons_zero, List.set_cons_succ]
            refine takeD 6 (some 85) (v := ?_) rfl rfl (by kernel_rfl) (by kernel_rfl) (by kernel_rfl) (fun _ _ _ h => h) (by rfl) ?_ (by assumption) ?_
            rotate_left
            · intro w hSw
              (try dsimp only at hSw)
              go_simp
              try with_reducible rfl
            try simp only [Act.put, List.setIfInBounds_toArray, List.set_cons_zero, List.set_cons_succ]
            refine takeD 7 (some 86) (v := ?_) rfl rfl (by kernel_rfl) (by kernel_rfl) (by kernel_rfl) (fun _ _ _ h => h) (by rfl) ?_ (by assumption) ?_
            rotate_left
            · intro w hSw
              (try dsimp only at hSw)
              go_simp
              try with_reducible rfl
            try simp only [Act.put, List.setIfInBounds_toArray, List.set_cons_zero, List.set_cons_succ]
            refine takeD 8 (some 87) (v := ?_) rfl rfl (by kernel_rfl) (by kernel_rfl) (by kernel_rfl) (fun _ _ _ h => h) (by rfl) ?_ (by assumption) ?_
            rotate_left
            · intro w hSw
              (try dsimp only at hSw)
              go_simp
              try with_reducible rfl
            try simp only [Act.put, List.setIfInBounds_toArray, List.set_cons_zero, List.set_cons_succ]
            refine takeD 9 (some 88) (v := ?_) rfl rfl (by kernel_rfl) (by kernel_rfl) (by kernel_rfl) (fun _ _ _ h => h) (by rfl) ?_ (by assumption) ?_
            rotate_left
            · intro w hSw
              (try dsimp only at hSw)
              go_simp
              try with_reducible rfl
            try simp only [Act.put, List.setIfInBounds_toArray, List.set_cons_zero, List.set_cons_succ]
            refine takeD 10 (some 89) (v := ?_) rfl rfl (by kernel_rfl) (by kernel_rfl) (by kernel_rfl) (fun _ _ _ h => h) (by rfl) ?_ (by assumption) ?_
            rotate_left
            · intro w hSw
              (try dsimp only at hSw)
              go_simp
              try with_reducible rfl
            try simp only [Act.put, List.setIfInBounds_toArray, List.set_cons_zero, List.set_cons_succ]
            refine takeD 11 (some 90) (v := ?_) rfl rfl (by kernel_rfl) (by kernel_rfl) (by kernel_rfl) (fun _ _ _ h => h) (by rfl) ?_ (by assumption) ?_
            rotate_left
            · intro w hSw
              (try dsimp only at hSw)
              go_simp
              try with_reducible rfl
            try simp only [Act.put, List.setIfInBounds_toArray, List.set_cons_zero, List.set_cons_succ]
            refine takeD 12 (some 91) (v := ?_) rfl rfl (by kernel_rfl) (by kernel_rfl) (by kernel_rfl) (fun _ _ _ h => h) (by rfl) ?_ (by assumption) ?_
            rotate_left
            · intro w hSw
              (try dsimp only at hSw)
              go_simp
              try with_reducible rfl
            try simp only [Act.put, List.setIfInBounds_toArray, List.set_cons_zero, List.set_cons_succ]
            refine takeD 13 (some 92) (v := ?_) rfl rfl (by kernel_rfl) (by kernel_rfl) (by kernel_rfl) (fun _ _ _ h => h) (by rfl) ?_ (by assumption) ?_
            rotate_left
            · intro w hSw
              (try dsimp only at hSw)
              go_simp
              try with_reducible rfl
            try simp only [Act.put, List.setIfInBounds_toArray, List.set_cons_zero, List.set_cons_succ]
            refine takeD 14 (some 93) (v := ?_) rfl rfl (by kernel_rfl) (by kernel_rfl) (by kernel_rfl) (fun _ _ _ h => h) (by rfl) ?_ (by assumption) ?_
            rotate_left
            · intro w hSw
              (try dsimp only at hSw)
              go_simp
              try with_reducible rfl
            try simp only [Act.put, List.setIfInBounds_toArray, List.set_cons_zero, List.set_cons_succ]
            refine takeD 15 (some 94) (v := ?_) rfl rfl (by kernel_rfl) (by kernel_rfl) (by kernel_rfl) (fun _ _ _ h => h) (by rfl) ?_ (by assumption) ?_
            rotate_left
            · intro w hSw
              (try dsimp only at hSw)
              go_simp
              try with_reducible rfl
            try simp only [Act.put, List.setIfInBounds_toArray, List.set_cons_zero, List.set_cons_succ]
            refine takeD 16 (some 95) (v := ?_) rfl rfl (by kernel_rfl) (by kernel_rfl) (by kernel_rfl) (fun _ _ _ h => h) (by rfl) ?_ (by assumption) ?_
            rotate_left
            · intro w hSw
              (try dsimp only at hSw)
              go_simp
              try with_reducible rfl
            try simp only [Act.put, List.setIfInBounds_toArray, List.set_cons_zero, List.set_cons_succ]
            refine takeD 17 (some 96) (v := ?_) rfl rfl (by kernel_rfl) (by kernel_rfl) (by kernel_rfl) (fun _ _ _ h => h) (by rfl) ?_ (by assumption) ?_
            rotate_left
            · intro w hSw
              (try dsimp only at hSw)
              go_simp
              try with_reducible rfl
            try simp only [Act.put, List.setIfInBounds_toArray, List.set_cons_zero, List.set_cons_succ]
            refine takeD 18 (some 97) (v := ?_) rfl rfl (by kernel_rfl) (by kernel_rfl) (by kernel_rfl) (fun _ _ _ h => h) (by rfl) ?_ (by assumption) ?_
            rotate_left
            · intro w hSw
              (try dsimp only at hSw)
              go_simp
              try with_reducible rfl
            try simp only [Act.put, List.setIfInBounds_toArray, List.set_cons_zero, List.set_cons_succ]
            refine takeD 19 (some 98) (v := ?_) rfl rfl (by kernel_rfl) (by kernel_rfl) (by kernel_rfl) (fun _ _ _ h => h) (by rfl) ?_ (by assumption) ?_
            rotate_left
            · intro w hSw
              (try dsimp only at hSw)
              go_simp
              try with_reducible rfl
            try simp only [Act.put, List.setIfInBounds_toArray, List.set_cons_zero, List.set_cons_succ]
            refine takeD 20 (some 99) (v := ?_) rfl rfl (by kernel_rfl) (by kernel_rfl) (by kernel_rfl) (fun _ _ _ h => h) (by rfl) ?_ (by assumption) ?_
            rotate_left
            · intro w hSw
              (try dsimp only at hSw)
              go_simp
              try with_reducible rfl
            try simp only [Act.put, List.setIfInBounds_toArray, List.set_cons_zero, List.set_cons_succ]
            refine takeD 21 (some 100) (v := ?_) rfl rfl (by kernel_rfl) (by kernel_rfl) (by kernel_rfl) (fun _ _ _ h => h) (by rfl) ?_ (by assumption) ?_
            rotate_left
            · intro w hSw
              (try dsimp only at hSw)
              go_simp
              try with_reducible rfl
            try simp only [Act.put, List.setIfInBounds_toArray, List.set_cons_zero, List.set_cons_succ]
            refine takeD 22 (some 101) (v := ?_) rfl rfl (by kernel_rfl) (by kernel_rfl) (by kernel_rfl) (fun _ _ _ h => h) (by rfl) ?_ (by assumption) ?_
            rotate_left
            · intro w hSw
              (try dsimp only at hSw)
              go_simp
              try with_reducible rfl
            try simp only [Act.put, List.setIfInBounds_toArray, List.set_cons_zero, List.set_cons_succ]
            refine takeD 23 (some 102) (v := ?_) rfl rfl (by kernel_rfl) (by kernel_rfl) (by kernel_rfl) (fun _ _ _ h => h) (by rfl) ?_ (by assumption) ?_
            rotate_left
            · intro w hSw
              (try dsimp only at hSw)
              go_simp
              try with_reducible rfl
            try simp only [Act.put, List.setIfInBounds_toArray, List.set_cons_zero, List.set_cons_succ]
            refine takeD 24 (some 103) (v := ?_) rfl rfl (by kernel_rfl) (by kernel_rfl) (by kernel_rfl) (fun _ _ _ h => h) (by rfl) ?_ (by assumption) ?_
            rotate_left
            · intro w hSw
              (try dsimp only at hSw)
              go_simp
              try with_reducible rfl
            try simp only [Act.put, List.setIfInBounds_toArray, List.set_cons_zero, List.set_cons_succ]
            refine wpAnyH_ready (rs := [25]) (by kernel_rfl) (by simp) ?_
            refine AllReadyH.cons rfl (fun K hK => ?_) AllReadyH.nil
            rw [if_pos (by rfl)]
            go_simp
            refine nameV (fun V => Below wr.heap.size wr V ∧ Blk V wr.heap.size 51 #[.bool false, .bool false]) ⟨by go_grown, Blk.new _ _ _ _ rfl⟩ fun V1 ⟨hv, hxx⟩ => ?_
            have HV1 := Lib.hid hv
            have HX1 := Lib.hid hxx
            have cX := hxx.cells
            have lX := hxx.lt
            have fX := hxx.froz
            have hS := (hv.cell hab2).trans k0
            clear hv hxx
            refine hK.out _ _ ?_ (fun hHeld2 => ?_)
            · clear hK; exact hS
            clear hK K hHeld hS
            have hHeld := hHeld2
            clear hHeld2
            try simp only [Act.put, List.setIfInBounds_toArray, List.set_cons_zero, List.set_cons_succ]
            refine wpAnyH_ready (rs := [26]) (by kernel_rfl) (by simp) ?_
            refine AllReadyH.cons rfl (fun K hK => ?_) AllReadyH.nil
            rw [if_pos (by rfl)]
            go_simp
            refine nameV (fun V => Below wr.heap.size wr V ∧ Blk V wr.heap.size 51 #[.bool b1, .bool b2]) ⟨(HV1.out.setCell (p := ⟨wr.heap.size, 0, none⟩) (Nat.le_refl _) _).setCell (p := ⟨wr.heap.size, 1, none⟩) (Nat.le_refl _) _, (HX1.out.set 0 _).set 1 _⟩ fun V2 ⟨hv, hxx⟩ => ?_
            have HV2 := Lib.hid hv
            have HX2 := Lib.hid hxx
            have hS := (hv.cell hab2).trans k0
            clear hv hxx cX lX fX HV1 HX1
            refine hK.out _ _ ?_ (fun hHeld2 => ?_)
            · clear hK; exact hS
            clear hK K hHeld hS
            have hHeld := hHeld2
            clear hHeld2
            try simp only [Act.put, List.setIfInBounds_toArray, List.set_cons_zero, List.set_cons_succ]
            refine wpAnyH_done (by kernel_rfl) ?_ _
            clear hHeld k0
            have cX := HX2.out.cells
            have lX := HX2.out.lt
            have fX := HX2.out.froz
            have cD := (HG.out.1.below HV2.out).cells
            have lD := (HG.out.1.below HV2.out).lt
            have fD := (HG.out.1.below HV2.out).froz
            have hne : ¬ W1.heap.size = wr.heap.size := by have := HG.out.1.lt; omega
            have hvz := HV2.out.size
            clear cB lB fB
            by_cases hp1 : p = 1
            · subst hp1
              have hpe : ((1 : Int) == 1) = true := rfl
              have HN := Lib.hid (show gst (D ps) (k + 1) = (_, { t with rules := t.rules ++ [(b1, b2)] }) by rw [HST.out]; exact gstep_one HSL.out HGA.out)
              go_wp2_with (at_builtin; refine wpList_appN elAl rfl (.tmp 107) (.tmp 109) rfl W1.heap.size _ t.rules.length (tk f2 t.rules) rfl (own_below HG.out.2.2.1 (HV2.out.alloc hvz _)) _ 1 (tk f2 [(b1, b2)]) rfl (RowN.of_blk (Blk.new _ _ _ _ (by simp)) rfl rfl (Nat.le_refl _) (by decide)) (tk_all f2_one _) (by unfold maxLen; omega) (by omega) (by simp; omega) ?_)
              intro v2 W2 hO2 hg2 hk2
              have hbA : Below wr.heap.size wr (V2.alloc (.cells #[.bool b1, .bool b2] 51)) := HV2.out.alloc hvz _
              have hGA := HG.out.below hbA
              obtain ⟨FB, fb, rfl⟩ := own_shapeZ hO2
              have HG2 := Lib.hid (hGA.rule (Nat.le_refl _) (b1, b2) hO2 hg2)
              have HB2 := Lib.hid ((below_app (B := W1.heap.size) (HB.out.trans (hbA.mono hbs)) (by have := hbA.size; simp at this ⊢; omega) hGA.2.2.1 hg2 (Nat.le_refl _)).setCell (p := ⟨W1.heap.size, 2, none⟩) (Nat.le_refl _) (.slice FB (t.rules.length + 1) fb))
              have hBK := blk_own hGA.1 hGA.2.2.1 (by decide) hg2
              have cB2 := hBK.cells
              have lB2 := hBK.lt
              have fB2 := hBK.froz
              clear hO2 hg2 hk2 hGA hbA hBK cD lD fD cX lX fX
              go_wp2
              go_roundw
              case rel => exact ⟨k + 1, CA, cc, FB, fb, HA_, hc, by omega, by omega, by (rw [HN.out]) <;> (first | rfl | simp), by go_num, by rw [HN.out]; exact HG2.out, HB2.out⟩
              case measure => simp [intOf]; omega
            · have hpe : ((p : Int) == 1) = false := by rw [beq_eq_false_iff_ne]; omega
              have HN := Lib.hid (show gst (D ps) (k + 1) = (_, { t with chans := t.chans ++ [(b1, b2)] }) by rw [HST.out]; exact gstep_two HSL.out (by omega) HGA.out)
              go_wp2_with (at_builtin; refine wpList_appN elAl rfl (.tmp 113) (.tmp 115) rfl W1.heap.size _ t.chans.length (tk f2 t.chans) rfl (own_below HG.out.2.2.2.1 (HV2.out.alloc hvz _)) _ 1 (tk f2 [(b1, b2)]) rfl (RowN.of_blk (Blk.new _ _ _ _ (by simp)) rfl rfl (Nat.le_refl _) (by decide)) (tk_all f2_one _) (by unfold maxLen; omega) (by omega) (by simp; omega) ?_)
              intro v2 W2 hO2 hg2 hk2
              have hbA : Below wr.heap.size wr (V2.alloc (.cells #[.bool b1, .bool b2] 51)) := HV2.out.alloc hvz _
              have hGA := HG.out.below hbA
              obtain ⟨FB, fb, rfl⟩ := own_shapeZ hO2
              have HG2 := Lib.hid (hGA.chan (by omega) (b1, b2) hO2 hg2 (by simpa using hk2))
              have HB2 := Lib.hid ((below_app (B := W1.heap.size) (HB.out.trans (hbA.mono hbs)) (by have := hbA.size; simp at this ⊢; omega) hGA.2.2.2.1 hg2 (Nat.le_refl _)).setCell (p := ⟨W1.heap.size, 3, none⟩) (Nat.le_refl _) (.slice FB (t.chans.length + 1) fb))
              have hBK := blk_own hGA.1 hGA.2.2.2.1 (by decide) hg2
              have cB2 := hBK.cells
              have lB2 := hBK.lt
              have fB2 := hBK.froz
              clear hO2 hg2 hk2 hGA hbA hBK cD lD fD cX lX fX
              go_wp2
              go_roundw
              case rel => exact ⟨k + 1, CA, cc, RA, rc, FB, fb, by omega, by omega, by (rw [HN.out]) <;> (first | rfl | simp), by go_num, by rw [HN.out]; exact HG2.out, HB2.out⟩
              case measure => simp [intOf]; omega

    · obtain rfl : k = ps.length := by omega
      have HGE := Lib.hid (show t = guess (spl 32 s.data.toList) by
        rw [← HD.out, ← gst_end (ws := D ps) (k := ps.length) (by simp [D]), ← HPT.out])
      have HTOT := Lib.hid (show tot t ≤ 900001 by have := HLN.out; omega)
      have HRG := Lib.hid (read_guess s.data.toList)
      rw [← HGE.out] at HRG
      have HBW := Lib.hid (HB1.out.trans (HB.out.mono HB1.out.size))
      have HZ := Lib.hid (HQ1.out.below HB.out)
      have cQ := HZ.out.cells
      have lQ := HZ.out.lt
      have fQ := HZ.out.froz
      have hne : ¬ w.heap.size = W1.heap.size := by have := HQ1.out.lt; omega
      by_cases hs0 : s.data.toList = []
      · have q1 : (s.toList == []) = true := by rw [toList_data, hs0]; rfl
        have HN := Lib.hid (show readR s.data.toList = none by rw [HRG.out]; exact if_neg (fun h => h.1 hs0))
        clear hs0
        go_wp2_with fail
        refine bodyPost_ret (v := .tuple #[.agg #[.int .i64 0, .slice none 0 0, .slice none 0 0, .slice none 0 0], .bool false]) (by simp [results, Tryd.results12, go_sem, cQ, lQ]) rfl ?_
        exact ⟨⟨_, Td.zero, false, rfl, ToldV.zero_, .inr ⟨rfl, HN.out, rfl⟩⟩, HBW.out.trans (by go_grown)⟩
      · have q1 : (s.toList == []) = false := by rw [toList_data, beq_eq_false_iff_ne]; exact hs0
        have HS0 := Lib.hid hs0
        clear hs0
        go_wp2_with fail
        go_at_call 16
        refine (rline_any _ t _ HG.out.told.told H64.out (HE.out.below HBW.out) (by have := HTOT.out; unfold tot at this; omega)).mono ?_
        rintro e U ⟨rfl, hk⟩
        have HBU := Lib.hid (Btrans HBW.out hk)
        have HQU := Lib.hid (HZ.out.below hk)
        have HGU := Lib.hid (HG.out.below hk)
        clear hk cQ lQ fQ cB lB fB
        have cQ := HQU.out.cells
        have lQ := HQU.out.lt
        have fQ := HQU.out.froz
        have cX := HGU.out.1.cells
        have lX := HGU.out.1.lt
        by_cases hl2 : lineR t = s.data.toList
        · have hcmp : ((strB (lineR t)).toList == s.toList) = true := by
            rw [toList_data, toList_data, strB_data, hl2]
            exact beq_self_eq_true _
          have HY := Lib.hid (show readR s.data.toList = some t by rw [HRG.out]; exact if_pos ⟨HS0.out, hl2⟩)
          have HOUT := Lib.hid (fun u1 u2 u3 u4 => told_setT (g := w.heap.size) u1 u2 u3 u4 HQU.out HGU.out.told)
          have HBX := Lib.hid (fun u1 u2 u3 u4 => (((HBU.out.setCell (p := ⟨w.heap.size, 0, none⟩) (Nat.le_refl _) u1).setCell (p := ⟨w.heap.size, 1, none⟩) (Nat.le_refl _) u2).setCell (p := ⟨w.heap.size, 2, none⟩) (Nat.le_refl _) u3).setCell (p := ⟨w.heap.size, 3, none⟩) (Nat.le_refl _) u4)
          clear hl2
          go_wp2_with fail
          refine bodyPost_ret (v := .tuple #[.agg #[.int .i64 t.tick, .slice CA (t.cells.length) cc, .slice RA (t.rules.length) rc, .slice HA_ (t.chans.length) hc], .bool true]) (by simp [results, Tryd.results12, go_sem, cQ, lQ]) rfl ?_
          exact ⟨⟨_, t, true, rfl, (HOUT.out _ _ _ _).told, .inl ⟨rfl, HY.out⟩⟩, HBX.out _ _ _ _⟩
        · have hcmp : ((strB (lineR t)).toList == s.toList) = false := by
            rw [toList_data, toList_data, strB_data, beq_eq_false_iff_ne]
            exact hl2
          have HN := Lib.hid (show readR s.data.toList = none by rw [HRG.out]; exact if_neg (fun h => hl2 h.2))
          clear hl2
          go_wp2_with fail
          refine bodyPost_ret (v := .tuple #[.agg #[.int .i64 0, .slice none 0 0, .slice none 0 0, .slice none 0 0], .bool false]) (by simp [results, Tryd.results12, go_sem, cQ, lQ]) rfl ?_
          exact ⟨⟨_, Td.zero, false, rfl, ToldV.zero_, .inr ⟨rfl, HN.out, rfl⟩⟩, HBU.out.trans (by go_grown)⟩
theorem rread_any (s : ByteArray) (w : World) (hs : s.size ≤ 900000) (hE : Env w) :
    Calls Tryd.prog 12 #[.string s] w fun e w' => ReadQ w' s.data.toList e ∧ Below w.heap.size w w' := by
  by_cases h : 1 < (spl 32 s.data.toList).length
  · exact rread_long s w hs hE h
  · exact rread_short s w hs hE (by omega)
end Go.Proofs.YtaelhgkodcgmnaaDoor
