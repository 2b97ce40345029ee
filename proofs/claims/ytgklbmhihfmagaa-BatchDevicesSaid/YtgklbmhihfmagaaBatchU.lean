/- Layer 14: what may come in. -/
import Derived.Test.YtgklbmhihfmagaaBatchR
import Derived.Test.YtgklbmhihfmagaaPackQB
import Derived.Handy
import Derived.IntWalk
namespace Go.Proofs.Ytgklbmhihfmagaa
open Go.ChangeShapes Go.WideShapes Go.ChangeAt Go.RowKit Go.Deep
set_option linter.unusedVariables false
set_option linter.unusedSimpArgs false

set_option maxRecDepth 100000 in
set_option maxHeartbeats 4000000 in
theorem rtrackRight_any (on : Bool) (bo to : Int) (A : Option Addr) (c : Nat) (so : List Int) (w : World) (h : Ints .i64 w (.slice A so.length c) so) (hl : so.length ≤ 1000) :
    Calls Try.prog 19 #[.agg #[.bool on, .int .i64 bo, .int .i64 to, .slice A so.length c], .int .i64 1000] w (SayB (fun b => b = true → (0 ≤ bo ∧ bo ≤ 255) ∧ (on = true → 0 ≤ to ∧ to ≤ 1152921504606846976)) w) := by
  have HI := Lib.hid h
  clear h
  by_cases h1 : bo < 0
  · go_enter Try.func19, Try.ntmps19
    go_wp2
    go_ret
    exact ⟨false, by simp, by simp, by go_grown⟩
  by_cases h2 : 255 < bo
  · go_enter Try.func19, Try.ntmps19
    go_wp2
    go_ret
    exact ⟨false, by simp, by simp, by go_grown⟩
  go_enter Try.func19, Try.ntmps19
  go_wp2_with fail
  refine calls_world (fun W => Below w.heap.size w W ∧ Blk W w.heap.size 40 #[.bool on, .int .i64 bo, .int .i64 to, .slice A so.length c]) ⟨by go_grown, Blk.new _ _ _ _ rfl⟩ fun W1 ⟨hb1, hq1⟩ => ?_
  have HB1 := Lib.hid hb1
  have HQ1 := Lib.hid hq1
  clear hb1 hq1
  refine (rseenRight_any to A c so W1 (HI.out.below HB1.out) hl).mono ?_
  rintro e W2 ⟨b, hP, rfl, hk⟩
  have HB2 := Lib.hid (Btrans HB1.out hk)
  have HQ2 := Lib.hid (HQ1.out.below hk)
  have HP := Lib.hid hP
  clear hk hP HB1 HQ1
  have cQ := HQ2.out.cells
  have lQ := HQ2.out.lt
  cases b with
  | false =>
    go_wp2
    go_ret
    exact ⟨false, by simp, by simp, HB2.out⟩
  | true =>
    have HP2 := Lib.hid (HP.out rfl)
    clear HP
    by_cases ht : to = -1
    · have g1 : (to != -1) = false := by simpa using ht
      have HT := Lib.hid ht
      clear ht
      cases on with
      | false =>
        go_wp2
        go_ret
        refine ⟨_, ?_, rfl, HB2.out⟩
        first | trivial | (intro _; exact ⟨⟨by omega, by omega⟩, by simp⟩) | (simp; omega)
      | true =>
        go_wp2
        go_ret
        exact ⟨false, by simp, by simp, HB2.out⟩
    · have g1 : (to != -1) = true := by simpa using ht
      have HT := Lib.hid ht
      clear ht
      cases on with
      | false =>
        go_wp2
        go_ret
        exact ⟨false, by simp, by simp, HB2.out⟩
      | true =>
        go_wp2
        go_ret
        have h9 : 0 ≤ to ∧ to ≤ 1152921504606846976 := by
          rcases HP2.out with h | h
          · exact absurd h HT.out
          · exact h
        refine ⟨true, ?_, by simp, HB2.out⟩
        intro _
        first | exact h9 | exact ⟨⟨by omega, by omega⟩, fun _ => h9⟩ | exact ⟨⟨by omega, by omega⟩, h9⟩
def GoodF (ts : List TV) (l : List PV) : Prop := ts.length ≤ 6 ∧ l.length ≤ 60 ∧ (∀ t ∈ ts, TkOk t.t) ∧ ∀ x ∈ l, x.p.right
set_option maxRecDepth 100000 in
set_option maxHeartbeats 4000000 in
theorem good_any (vt vl : Value) (ts : List TV) (l : List PV) (w : World) (h0 : TRow w vt ts) (h1 : PRow w vl l) :
    Calls Try.prog 10 #[vt, vl] w (SayB (fun b => b = true → GoodF ts l) w) := by
  obtain ⟨A, c, rfl⟩ := h0.1
  obtain ⟨B, d, rfl⟩ := h1.1
  have hc := h0.2.1.caps
  have hd := h1.2.1.caps
  unfold maxLen at hc hd
  have HT := Lib.hid h0
  have HP := Lib.hid h1
  clear h0 h1
  by_cases ha : 6 < ts.length
  · go_enter Try.func10, Try.ntmps10
    go_wp2
    go_ret
    exact ⟨false, by simp, by simp, Below.refl _ _⟩
  by_cases hb : 60 < l.length
  · go_enter Try.func10, Try.ntmps10
    go_wp2
    go_ret
    exact ⟨false, by simp, by simp, Below.refl _ _⟩
  go_enter Try.func10, Try.ntmps10
  go_wp2_with fail
  go_loopw [5] (fun i wr => ∃ k : Nat, k ≤ ts.length ∧ i = .int .i64 k ∧ Below w.heap.size w wr ∧ ∀ t ∈ ts.take k, TkOk t.t) (fun i _ => ts.length - (intOf i).toNat)
  case atStart => exact ⟨0, by omega, rfl, Below.refl _ _, by simp⟩
  case round =>
    obtain ⟨k, hk, rfl, hbw, hok⟩ := hrel
    have HB := Lib.hid hbw
    have HOK := Lib.hid hok
    clear hbw hok
    by_cases hlt : k < ts.length
    · obtain ⟨x, hx⟩ : ∃ x, ts[k]? = some x := ⟨_, List.getElem?_eq_getElem hlt⟩
      have HIx := Lib.hid (HT.out.2.2 x (List.mem_of_getElem? hx))
      obtain ⟨ad, rfl, _, hab, c0, c1, c2, c3⟩ := HT.out.atw hx
      have HCL := Lib.hid (show ∀ W, Below w.heap.size w W → W.cell? (ad.add (k * 4)) = some (.bool x.t.on) ∧ W.cell? ⟨(ad.add (k * 4)).block, (ad.add (k * 4)).off + 1, none⟩ = some (.int .i64 x.t.boot) ∧ W.cell? ⟨(ad.add (k * 4)).block, (ad.add (k * 4)).off + 2, none⟩ = some (.int .i64 x.t.top) ∧ W.cell? ⟨(ad.add (k * 4)).block, (ad.add (k * 4)).off + 3, none⟩ = some (.slice x.A x.t.some.length x.c) from fun W hW =>
        ⟨(hW.cell hab).trans c0, (hW.cell (p := ⟨(ad.add (k * 4)).block, (ad.add (k * 4)).off + 1, none⟩) hab).trans c1, (hW.cell (p := ⟨(ad.add (k * 4)).block, (ad.add (k * 4)).off + 2, none⟩) hab).trans c2, (hW.cell (p := ⟨(ad.add (k * 4)).block, (ad.add (k * 4)).off + 3, none⟩) hab).trans c3⟩)
      have hkl : (k : Int) < (ts.length : Int) := by omega
      have HTK := Lib.hid (show ts.take (k + 1) = ts.take k ++ [x] by rw [List.take_add_one, hx]; rfl)
      obtain ⟨k0, k1, k2, k3⟩ := HCL.out wr HB.out
      clear c0 c1 c2 c3 hx
      by_cases hs : 1000 < x.t.some.length
      · go_wp2
        go_ret
        exact ⟨false, by simp, by simp, HB.out⟩
      · go_wp2_with fail
        refine (rtrackRight_any x.t.on x.t.boot x.t.top x.A x.c x.t.some wr (HIx.out.below HB.out) (by omega)).mono ?_
        rintro e W2 ⟨b, hP, rfl, hkk⟩
        have HB2 := Lib.hid (Btrans HB.out hkk)
        have HPr := Lib.hid hP
        clear hkk hP k0 k1 k2 k3
        obtain ⟨k0, k1, k2, k3⟩ := HCL.out W2 HB2.out
        cases b with
        | false =>
          go_wp2
          go_ret
          exact ⟨false, by simp, by simp, HB2.out⟩
        | true =>
          have HP2 := Lib.hid (HPr.out rfl)
          clear HPr
          by_cases ht : 576460752303423488 < x.t.top
          · go_wp2
            go_ret
            exact ⟨false, by simp, by simp, HB2.out⟩
          · go_wp2
            go_roundw
            case rel => exact ⟨k + 1, by omega, by go_num, HB2.out, fun t htm => by
              rw [HTK.out] at htm
              rcases List.mem_append.1 htm with h | h
              · exact HOK.out t h
              · simp at h
                subst h
                exact ⟨HP2.out.1, fun ho => ⟨(HP2.out.2 ho).1, by omega⟩⟩⟩
            case measure => simp [intOf]; omega
    · obtain rfl : k = ts.length := by omega
      have HOK2 := Lib.hid (show ∀ t ∈ ts, TkOk t.t by have := HOK.out; rwa [List.take_length] at this)
      clear HOK
      obtain ⟨u1, hu1⟩ : ∃ u, u = wr := ⟨wr, rfl⟩
      subst hu1
      go_wp2_with fail
      go_loopw [6] (fun i wk => ∃ k : Nat, k ≤ l.length ∧ i = .int .i64 k ∧ Below w.heap.size w wk ∧ ∀ x ∈ l.take k, x.p.right) (fun i _ => l.length - (intOf i).toNat)
      case atStart => exact ⟨0, by omega, rfl, HB.out, by simp⟩
      case round =>
        clear HB
        obtain ⟨j, hj, rfl, hbw, hok⟩ := hrel
        have HB := Lib.hid hbw
        have HOK := Lib.hid hok
        clear hbw hok
        by_cases hjl : j < l.length
        · obtain ⟨x, hx⟩ : ∃ x, l[j]? = some x := ⟨_, List.getElem?_eq_getElem hjl⟩
          have HXp := Lib.hid (HP.out.pk (List.mem_of_getElem? hx))
          obtain ⟨ad, rfl, _, hab, c0, c1, c2, c3, c4, c5⟩ := HP.out.atw hx
          have k0 := (HB.out.cell hab).trans c0
          have k1 := (HB.out.cell (p := ⟨(ad.add (j * 6)).block, (ad.add (j * 6)).off + 1, none⟩) hab).trans c1
          have k2 := (HB.out.cell (p := ⟨(ad.add (j * 6)).block, (ad.add (j * 6)).off + 2, none⟩) hab).trans c2
          have k3 := (HB.out.cell (p := ⟨(ad.add (j * 6)).block, (ad.add (j * 6)).off + 3, none⟩) hab).trans c3
          have k4 := (HB.out.cell (p := ⟨(ad.add (j * 6)).block, (ad.add (j * 6)).off + 4, none⟩) hab).trans c4
          have k5 := (HB.out.cell (p := ⟨(ad.add (j * 6)).block, (ad.add (j * 6)).off + 5, none⟩) hab).trans c5
          have hji : (j : Int) < (l.length : Int) := by omega
          have HTK := Lib.hid (show l.take (j + 1) = l.take j ++ [x] by rw [List.take_add_one, hx]; rfl)
          clear c0 c1 c2 c3 c4 c5 hx
          by_cases hv : 8 < x.p.vals.length
          · go_wp2
            go_ret
            exact ⟨false, by simp, by simp, HB.out⟩
          · go_wp2_with fail
            refine (rright_any _ x.p _ (HXp.out.below HB.out)).mono ?_
            rintro e W2 ⟨rfl, hkk⟩
            have HB2 := Lib.hid (Btrans HB.out hkk)
            clear hkk
            by_cases hr : x.p.right
            · rw [decide_eq_true hr]
              have HR := Lib.hid hr
              clear hr
              go_wp2
              go_roundw
              case rel => exact ⟨j + 1, by omega, by go_num, HB2.out, fun y hy => by
                rw [HTK.out] at hy
                rcases List.mem_append.1 hy with h | h
                · exact HOK.out y h
                · simp at h
                  subst h
                  exact HR.out⟩
              case measure => simp [intOf]; omega
            · rw [decide_eq_false hr]
              go_wp2
              go_ret
              exact ⟨false, by simp, by simp, HB2.out⟩
        · obtain rfl : j = l.length := by omega
          have HOK3 := Lib.hid (show ∀ x ∈ l, x.p.right by have := HOK.out; rwa [List.take_length] at this)
          go_wp2
          go_ret
          exact ⟨true, fun _ => ⟨by omega, by omega, HOK2.out, HOK3.out⟩, by simp, HB.out⟩
end Go.Proofs.Ytgklbmhihfmagaa
