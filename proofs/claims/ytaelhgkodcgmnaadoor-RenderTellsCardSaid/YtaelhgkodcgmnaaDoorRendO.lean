/- Layer 23: a line. -/
import Derived.Test.YtaelhgkodcgmnaaDoorRendL
import Derived.IntWalk
namespace Go.Proofs.YtaelhgkodcgmnaaDoor
open Go.ChangeShapes Go.WideShapes Go.ChangeAt Go.RowKit Go.Deep
open Go.Shelf
set_option linter.unusedVariables false
set_option linter.unusedSimpArgs false

theorem jn_join (l w : Str) (ws : List Str) : jn 32 ((l ++ [32] ++ w) :: ws) = l ++ 32 :: jn 32 (w :: ws) := by
  match ws with
  | [] => simp [jn]
  | v :: vs =>
    show (l ++ [32] ++ w) ++ 32 :: jn 32 (v :: vs) = l ++ 32 :: (w ++ 32 :: jn 32 (v :: vs))
    simp
theorem addWs_jn : ∀ (ws : List Str) (l : Str), l ≠ [] → addWs l ws = jn 32 (l :: ws) := by
  intro ws
  induction ws with
  | nil => intro l _; rfl
  | cons w ws ih =>
    intro l hl
    have e : addWs l (w :: ws) = addWs (sep l ++ w) ws := rfl
    have es : sep l = l ++ [32] := if_neg hl
    rw [e, es, ih _ (by simp), jn_join]
    rfl
/-- what a line holds behind its cells -/
def L2 (t : Td) (k : Nat) : Str := addWs tickW (Lib.itoa t.tick :: (t.cells.take k).map clW)
theorem line_L2 {t : Td} (h : tdR t) : lineR t = addWs (addWs (L2 t t.cells.length) ([47] :: alW t.rules)) ([47] :: alW t.chans) := by
  unfold lineR L2
  rw [if_pos h, List.take_length, ← addWs_app, ← addWs_app, addWs_jn _ _ (by decide)]
  unfold wds alW
  simp
theorem clW_len {c : Cl} (h : cl64 c) : (clW c).length ≤ 44 := by
  have h1 := Lib.itoa_length_le c.v h.1.1 h.1.2
  have h2 := Lib.itoa_length_le c.fr h.2.1 h.2.2
  unfold clW
  split
  · simp; omega
  · (repeat' split) <;> simp
theorem L2_len {t : Td} (h : td64 t) (k : Nat) : (L2 t k).length ≤ 4 + (t.cells.length + 1) * 45 := by
  have h1 := addWs_len 44 (Lib.itoa t.tick :: (t.cells.take k).map clW) tickW (by
    intro w hw
    rcases List.mem_cons.1 hw with rfl | hw
    · exact Nat.le_trans (Lib.itoa_length_le t.tick h.1.1 h.1.2) (by decide)
    · obtain ⟨c, hc, rfl⟩ := List.mem_map.1 hw
      exact clW_len (h.2 c (List.mem_of_mem_take hc)))
  have h2 : (Lib.itoa t.tick :: (t.cells.take k).map clW).length ≤ t.cells.length + 1 := by
    have : min k t.cells.length ≤ t.cells.length := Nat.min_le_right _ _
    simp
    omega
  have h3 : tickW.length = 4 := rfl
  unfold L2
  rw [h3] at h1
  omega
theorem L2_next {t : Td} {k : Nat} {x : Cl} (hx : t.cells[k]? = some x) : L2 t (k + 1) = sep (L2 t k) ++ clW x := by
  unfold L2
  rw [List.take_add_one, hx]
  show addWs tickW (Lib.itoa t.tick :: List.map clW (List.take k t.cells ++ [x])) = _
  rw [List.map_append, List.map_singleton, ← List.cons_append, addWs_snoc]
set_option maxRecDepth 100000 in
set_option maxHeartbeats 8000000 in
theorem line_any (v : Value) (t : Td) (w : World) (hT : ToldV w v t) (h6 : td64 t) (hE : Env w) (hsz : t.cells.length + t.rules.length + t.chans.length ≤ 1000000) :
    Calls Tryd.prog 15 #[v] w fun e w' => e = .returned (.string (strB (lineR t))) ∧ Below w.heap.size w w' := by
  have HTV := Lib.hid hT
  obtain ⟨vc, vr, vh, rfl, h1, h2, h3⟩ := hT
  obtain ⟨CA, cc, rfl⟩ := h1.1
  have HC := Lib.hid h1
  have HR := Lib.hid h2
  have HH := Lib.hid h3
  have HE := Lib.hid hE
  have H6 := Lib.hid h6
  have HSZ := Lib.hid hsz
  have h3w := hE.lt
  have hcl : t.cells.length ≤ 1000000 := by omega
  clear h1 h2 h3 hE h6 hsz
  go_enter Tryd.func15, Tryd.ntmps15
  go_wp2_with fail
  go_at_call 13
  refine calls_world (fun W => Below w.heap.size w W ∧ Blk W w.heap.size 25 #[.int .i64 t.tick, .slice CA t.cells.length cc, vr, vh]) ⟨by go_grown, Blk.new _ _ _ _ rfl⟩ fun W0 ⟨hb, hq⟩ => ?_
  refine (right_any _ t _ (HTV.out.below hb)).mono ?_
  rintro e W1 ⟨rfl, hk⟩
  have HB1 := Lib.hid (Btrans hb hk)
  have HQ1 := Lib.hid (hq.below hk)
  have hs1 := HB1.out.size
  have hqb := HQ1.out.lt
  clear hb hq hk HTV
  by_cases hr : tdR t
  · rw [decide_eq_true hr]
    have HRt := Lib.hid hr
    clear hr
    go_wp2_with fail
    go_at_call 27
    have hI0 : IsWr w.heap.size W1.heap.size [] (W1.alloc (.cells #[.pointer none, .slice none 0 0] 58)) := IsWr.new W1 _ _ rfl hs1
    have hka : Below W1.heap.size W1 (W1.alloc (.cells #[.pointer none, .slice none 0 0] 58)) := (Below.refl _ _).alloc (Nat.le_refl _) _
    have hk0 := (Below.refl (W1.alloc (.cells #[.pointer none, .slice none 0 0] 58)).heap.size (W1.alloc (.cells #[.pointer none, .slice none 0 0] 58))).alloc (Nat.le_refl _) (.cells #[.string ⟨#[116, 105, 99, 107]⟩] 9)
    refine (word_any w.heap.size W1.heap.size (W1.heap.size + 1) [] [⟨#[116, 105, 99, 107]⟩] _ (hI0.below hk0) (Blk.new _ _ _ _ (by simp)) (by omega) (by decide) (by simp; omega) (by simp)).mono ?_
    rintro e W2 ⟨rfl, hI, hb2, hk2⟩
    have HI2 := Lib.hid (show IsWr w.heap.size W1.heap.size (Lib.byteCells tickW) W2 from hI)
    have HB2 := Lib.hid (HB1.out.trans (((Btrans hka hk0).mono hs1).trans hb2))
    have HQ2 := Lib.hid (Blk.others (HQ1.out.below (Btrans hka hk0)) hk2 (by omega) (by decide))
    clear hI hb2 hk2 hI0 hka hk0 HQ1
    have cQ := HQ2.out.cells
    have lQ := HQ2.out.lt
    go_wp2_with fail
    go_at_call 28
    refine (itoa_any t.tick _ H6.out.1 (HE.out.keep HB2.out h3w)).mono ?_
    rintro e W3 ⟨rfl, hk3⟩
    have HI3 := Lib.hid (HI2.out.below hk3)
    have HB3 := Lib.hid (Btrans HB2.out hk3)
    have HQ3 := Lib.hid (HQ2.out.below hk3)
    clear hk3 cQ lQ HI2 HQ2
    go_wp2_with fail
    go_at_call 27
    have hk4 : Below W3.heap.size W3 (W3.alloc (.cells #[.string (strB (Lib.itoa t.tick))] 9)) := (Below.refl _ _).alloc (Nat.le_refl _) _
    have hbw : W1.heap.size < W3.heap.size := HI3.out.lt
    have hct : catB [strB (Lib.itoa t.tick)] = Lib.itoa t.tick := by simp [catB, strB_data]
    refine (word_any w.heap.size W1.heap.size W3.heap.size tickW [strB (Lib.itoa t.tick)] _ (HI3.out.below hk4) (Blk.new _ _ _ _ rfl) (by omega) (by rw [hct]; have h := Lib.itoa_length_le t.tick H6.out.1.1 H6.out.1.2; show 4 + 1 + _ ≤ _; omega) (by simp; omega) (by simp)).mono ?_
    rintro e W4 ⟨rfl, hI, hb4, hk4'⟩
    have HI4 := Lib.hid (show IsWr w.heap.size W1.heap.size (Lib.byteCells (L2 t 0)) W4 by rw [hct] at hI; exact hI)
    have HB4 := Lib.hid (HB3.out.trans ((hk4.mono (by omega)).trans hb4))
    have HQ4 := Lib.hid (Blk.others (HQ3.out.below hk4) hk4' (by omega) (by decide))
    clear hI hb4 hk4 hk4' HI3 HQ3 hct
    have cQ := HQ4.out.cells
    have lQ := HQ4.out.lt
    go_wp2_with fail
    clear cQ lQ
    go_loopw [23] (fun i wr => ∃ k : Nat, k ≤ t.cells.length ∧ i = .int .i64 k ∧ IsWr w.heap.size W1.heap.size (Lib.byteCells (L2 t k)) wr ∧ Below w.heap.size w wr ∧ Blk wr w.heap.size 25 #[.int .i64 t.tick, .slice CA t.cells.length cc, vr, vh]) (fun i _ => t.cells.length - (intOf i).toNat)
    case atStart => exact ⟨0, Nat.zero_le _, rfl, HI4.out, HB4.out, HQ4.out⟩
    case round =>
      clear HI4 HB4 HQ4 HB2 HB3
      obtain ⟨k, hk, rfl, hI, hb, hq⟩ := hrel
      have HI := Lib.hid hI
      have HB := Lib.hid hb
      have HQ := Lib.hid hq
      have hbs := hb.size
      have hbw := hI.lt
      clear hI hb hq
      by_cases hlt : k < t.cells.length
      · obtain ⟨x, hx⟩ : ∃ x, t.cells[k]? = some x := ⟨_, List.getElem?_eq_getElem hlt⟩
        have HX := Lib.hid hx
        obtain ⟨ad, rfl, hab, c0, c1, c2⟩ := HC.out.atw hx
        have k0 := (HB.out.cell hab).trans c0
        have k1 := (HB.out.cell (p := ⟨(ad.add (k * 3)).block, (ad.add (k * 3)).off + 1, none⟩) hab).trans c1
        have k2 := (HB.out.cell (p := ⟨(ad.add (k * 3)).block, (ad.add (k * 3)).off + 2, none⟩) hab).trans c2
        have hkl : (k : Int) < (t.cells.length : Int) := by omega
        clear c0 c1 c2 hx
        go_wp2_with fail
        go_at_call 29
        refine calls_world (fun W => Below wr.heap.size wr W) (by go_grown) fun U hu => ?_
        have HU := Lib.hid hu
        clear hu k0 k1 k2
        refine (cell_any w.heap.size W1.heap.size (L2 t k) x _ (HI.out.below HU.out) (HRt.out.1 x (List.mem_of_getElem? HX.out)) (H6.out.2 x (List.mem_of_getElem? HX.out)) (HE.out.keep (HB.out.trans (HU.out.mono hbs)) h3w) h3w (by have := HU.out.size; omega) (by have := L2_len H6.out k; omega)).mono ?_
        rintro e V ⟨rfl, hI, hb, hk⟩
        have HI2 := Lib.hid (show IsWr w.heap.size W1.heap.size (Lib.byteCells (L2 t (k + 1))) V by rw [L2_next HX.out]; exact hI)
        have HB2 := Lib.hid (HB.out.trans ((HU.out.mono hbs).trans hb))
        have HQ2 := Lib.hid (Blk.others (HQ.out.below HU.out) hk (by omega) (by decide))
        clear hI hb hk
        go_wp2
        go_roundw
        case rel => exact ⟨k + 1, by omega, by go_num, HI2.out, HB2.out, HQ2.out⟩
        case measure => simp [intOf]; omega
      · obtain rfl : k = t.cells.length := by omega
        have HL3 := Lib.hid (L2_len H6.out t.cells.length)
        have cQ := HQ.out.cells
        have lQ := HQ.out.lt
        go_wp2_with fail
        go_at_call 30
        refine (alarms_any w.heap.size W1.heap.size _ vr t.rules w _ HI.out HR.out (Nat.le_refl _) HB.out hbs (by have h1 := HL3.out; have h2 := HSZ.out; omega)).mono ?_
        rintro e V5 ⟨rfl, hI, hb5, hk5⟩
        have HI5 := Lib.hid hI
        have HB5 := Lib.hid (HB.out.trans hb5)
        have HQ5 := Lib.hid (Blk.others HQ.out hk5 (by omega) (by decide))
        have hs5 := HB5.out.size
        clear hI hb5 hk5 cQ lQ
        have HL5 := Lib.hid (show (addWs (L2 t t.cells.length) ([47] :: alW t.rules)).length ≤ 4 + (t.cells.length + 1) * 45 + (t.rules.length + 1) * 2 by
          have h1 := addWs_len 1 ([47] :: alW t.rules) (L2 t t.cells.length) (by
            intro w hw
            rcases List.mem_cons.1 hw with rfl | hw
            · exact Nat.le_refl _
            · obtain ⟨a, _, rfl⟩ := List.mem_map.1 hw
              exact Nat.le_refl _)
          have h2 := HL3.out
          have h3 : ([47] :: alW t.rules).length = t.rules.length + 1 := by simp [alW]
          rw [h3] at h1
          omega)
        have cQ := HQ5.out.cells
        have lQ := HQ5.out.lt
        go_wp2_with fail
        go_at_call 30
        refine (alarms_any w.heap.size W1.heap.size _ vh t.chans w _ HI5.out HH.out (Nat.le_refl _) HB5.out hs5 (by have h1 := HL5.out; have h2 := HSZ.out; omega)).mono ?_
        rintro e V6 ⟨rfl, hI, hb6, hk6⟩
        have HI6 := Lib.hid (show IsWr w.heap.size W1.heap.size (Lib.byteCells (lineR t)) V6 by rw [line_L2 HRt.out]; exact hI)
        have HB6 := Lib.hid (HB5.out.trans hb6)
        clear hI hb6 hk6 cQ lQ
        go_wp2_with fail
        go_at_call 31
        refine (wget_any w.heap.size W1.heap.size (lineR t) _ HI6.out (line_ne HRt.out)).mono ?_
        rintro e V7 ⟨rfl, hb7⟩
        have HB7 := Lib.hid (HB6.out.trans hb7)
        clear hb7
        go_wp2
        go_ret
        exact ⟨by first | rfl | simp [strB], HB7.out⟩
  · rw [decide_eq_false hr]
    have HN := Lib.hid (show lineR t = [] from if_neg hr)
    clear hr
    go_wp2
    go_ret
    exact ⟨by rw [HN.out]; first | rfl | simp [strB], HB1.out⟩
end Go.Proofs.YtaelhgkodcgmnaaDoor
