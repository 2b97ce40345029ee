/- Layer 12: the text's rings. -/
import Derived.Test.YtpbhfhjnjmcgjaaRingS
import Derived.StillTailTactics
import Derived.BigRegion
namespace Go.Proofs.Ytpbhfhjnjmcgjaa
open Go.ChangeShapes Go.WideShapes Go.ChangeAt Go.RowKit
set_option linter.unusedVariables false
set_option linter.unusedSimpArgs false

theorem putC_in {fr K : Nat} {q : List (Int × Bool)} {n : Nat} {a : Int × Bool} (at_ : Int) (hn : at_ - (fr : Int) = (n : Int)) (hnK : n < K) (ha : q[n]? = some a) (x : Int) :
    putC fr K q at_ = (if a.2 then 8 else 9) ∧ putQ fr K q at_ x = (if a.2 then q else q.set n (x, true)) := by
  have e : putC fr K q at_ = (if a.2 then 8 else 9) := by
    unfold putC
    rw [if_neg (by omega), if_neg (by omega), hn, Int.toNat_natCast, ha]
    rfl
  refine ⟨e, ?_⟩
  unfold putQ
  rw [e, hn, Int.toNat_natCast]
  cases a.2 <;> rfl

set_option maxRecDepth 100000 in
set_option maxHeartbeats 1000000 in
theorem rput_any (base rb fr K : Nat) (at_ x : Int) (q : List (Int × Bool)) (w : World) (h : RR w base rb fr K q) (hb : -4611686018427387904 ≤ at_ ∧ at_ ≤ 4611686018427387904) :
    Calls Try.prog 17 #[.pointer (some ⟨rb, 0, none⟩), .int .i64 at_, .int .i64 x] w fun e w' => e = .returned (.int .i64 (putC fr K q at_)) ∧ RR w' base rb fr K (putQ fr K q at_ x) ∧ Below base w w' := by
  have H := Lib.hid h
  obtain ⟨hb_, xb, hc, xc, h1, h2, h3, h4, h5, h6⟩ := h.ex
  have hx := h1.cells
  have hpos := h.pos
  have hsm := h.small
  have ht := h.top
  have hlen := h.len
  by_cases hlt : at_ < (fr : Int)
  · have e0 : putC fr K q at_ = 6 := if_pos hlt
    have e1 : putQ fr K q at_ x = q := by rw [putQ, e0]; rfl
    have g1 : decide (at_ < (fr : Int)) = true := decide_eq_true hlt
    rw [e0, e1]
    clear h1 h2 h3 h4 e0 e1 h
    go_enter Try.func17, Try.ntmps17
    go_wp2
    go_ret
    exact ⟨rfl, H.out, Below.refl _ _⟩
  by_cases hge : at_ - (fr : Int) ≥ (K : Int)
  · have e0 : putC fr K q at_ = 7 := by rw [putC, if_neg hlt, if_pos hge]
    have e1 : putQ fr K q at_ x = q := by rw [putQ, e0]; rfl
    have hwr : IntKind.i64.wrap (at_ - (fr : Int)) = at_ - (fr : Int) := IntWalk.i64_in _ (by omega)
    have g1 : decide (at_ < (fr : Int)) = false := decide_eq_false hlt
    have g2 : decide (at_ - (fr : Int) ≥ (K : Int)) = true := decide_eq_true hge
    rw [e0, e1]
    clear h1 h2 h3 h4 e0 e1 h
    go_enter Try.func17, Try.ntmps17
    go_wp2_with fail
    go_still_tail 11, (by kernel_rfl)
    go_wp2
    go_ret
    exact ⟨rfl, H.out.drw 1, (Below.refl _ _).drew⟩
  obtain ⟨n, hn⟩ : ∃ n : Nat, at_ - (fr : Int) = (n : Int) := ⟨(at_ - (fr : Int)).toNat, by omega⟩
  have hnK : n < K := by omega
  obtain ⟨a, ha⟩ : ∃ a, q[n]? = some a := ⟨_, List.getElem?_eq_getElem (by omega)⟩
  obtain ⟨a1, a2⟩ := a
  have hpc := putC_in (K := K) at_ hn hnK ha x
  have c1 : w.cell? ⟨hb_, n, none⟩ = some (.bool a2) := by rw [h2.cellAt n (by omega), List.getElem?_map, ha]; rfl
  have hwr : IntKind.i64.wrap (at_ - (fr : Int)) = (n : Int) := by rw [hn]; exact IntWalk.i64_in _ (by omega)
  have g1 : decide (at_ < (fr : Int)) = false := decide_eq_false (by omega)
  have hni : (n : Int) < (K : Int) := by omega
  have g2 : decide ((n : Int) ≥ (K : Int)) = false := decide_eq_false (by omega)
  have H2 := Lib.hid h2
  have H3 := Lib.hid h3
  have H1 := Lib.hid h1
  have hcx : w.cell? ⟨xb, n, none⟩ = some (.int .i64 a1) := by rw [h3.cellAt n (by omega), List.getElem?_map, ha]; rfl
  have fh := h2.frozenAt
  have fx := h3.frozenAt
  rw [hpc.1, hpc.2]
  clear h1 h2 h3 h ha hge hlt hn hpc hlen
  have HX := Lib.hid hcx
  have FH := Lib.hid fh
  have FX := Lib.hid fx
  clear hcx fh fx
  go_enter Try.func17, Try.ntmps17
  go_wp2_with fail
  go_still_tail 11, (by kernel_rfl)
  go_wp2_with fail
  obtain ⟨W, hW⟩ : ∃ W, W = w.drew := ⟨_, rfl⟩
  have hx' : ∀ i, W.cell? ⟨rb, i, none⟩ = (#[.int .i64 fr, .slice (some ⟨hb_, 0, none⟩) K hc, .slice (some ⟨xb, 0, none⟩) K xc] : Array Value)[i]? := by rw [hW]; exact hx
  have c1' : W.cell? ⟨hb_, n, none⟩ = some (.bool a2) := by rw [hW]; exact c1
  have HX' := Lib.hid (show W.cell? ⟨xb, n, none⟩ = some (.int .i64 a1) by rw [hW]; exact HX.out)
  have FH' := Lib.hid (show ∀ i, W.frozen? ⟨hb_, i, none⟩ = false by rw [hW]; exact FH.out)
  have FX' := Lib.hid (show ∀ i, W.frozen? ⟨xb, i, none⟩ = false by rw [hW]; exact FX.out)
  rw [← hW]
  have HW := Lib.hid hW
  clear hW hx c1
  go_still_tail 11, (by kernel_rfl)
  cases a2
  · go_wp2_with fail
    obtain ⟨V, hV⟩ : ∃ V, V = W.drew := ⟨_, rfl⟩
    have hxV : ∀ i, V.cell? ⟨rb, i, none⟩ = (#[.int .i64 fr, .slice (some ⟨hb_, 0, none⟩) K hc, .slice (some ⟨xb, 0, none⟩) K xc] : Array Value)[i]? := by rw [hV]; exact hx'
    have cV : V.cell? ⟨hb_, n, none⟩ = some (.bool false) := by rw [hV]; exact c1'
    have fV : V.frozen? ⟨hb_, n, none⟩ = false := by rw [hV]; exact FH'.out n
    rw [← hV]
    have HV := Lib.hid hV
    clear hV hx' c1'
    go_still_tail 11, (by kernel_rfl)
    go_wp2_with fail
    obtain ⟨U, hU⟩ : ∃ U, U = (V.setCell ⟨hb_, n, none⟩ (.bool true)).drew := ⟨_, rfl⟩
    have hxU : ∀ i, U.cell? ⟨rb, i, none⟩ = (#[.int .i64 fr, .slice (some ⟨hb_, 0, none⟩) K hc, .slice (some ⟨xb, 0, none⟩) K xc] : Array Value)[i]? := by
      intro i
      rw [hU]
      have := ((H1.out.drw.drw.drw).setO (b := rb) (c := hb_) (by omega) n (.bool true)).cells i
      rw [HV.out, HW.out]
      exact this
    have OU1 : U.ownsRow base 4 1 (.slice (some ⟨hb_, 0, none⟩) K hc) K ((q.set n (x, true)).map fun a : Int × Bool => Value.bool a.2) := by
      rw [List.map_set, hU, HV.out, HW.out]
      exact (H2.out.drew.drew.drew.stored n (.bool true)).1
    have OU2 : U.ownsRow base 3 1 (.slice (some ⟨xb, 0, none⟩) K xc) K (q.map fun a : Int × Bool => Value.int .i64 a.1) := by
      rw [hU, HV.out, HW.out]
      exact own_only (H3.out.drew.drew.drew) ((Only.refl [hb_] _).setCell (p := ⟨hb_, n, none⟩) (by simp) (.bool true)) (by simp; omega)
    have cU : U.cell? ⟨xb, n, none⟩ = some (.int .i64 a1) := by
      rw [OU2.cellAt n (by omega)]
      have h := HX.out
      rw [H3.out.cellAt n (by omega)] at h
      exact h
    have fU := OU2.frozenAt n
    have BU : Blk U rb 36 (#[.int .i64 fr, .slice (some ⟨hb_, 0, none⟩) K hc, .slice (some ⟨xb, 0, none⟩) K xc] : Array Value) := by
      rw [hU, HV.out, HW.out]
      exact (H1.out.drw.drw.drw).setO (by omega) _ _
    have bU : Below base w U := by
      rw [hU, HV.out, HW.out]
      exact (Below.refl _ _).drew.drew.drew.setCell (by show base ≤ hb_; have := (own_lt H2.out).2.1; exact this) _
    rw [← hU]
    have O1 := Lib.hid OU1
    have O2 := Lib.hid OU2
    have HBU := Lib.hid BU
    have HbU := Lib.hid bU
    clear hU hxV cV fV OU1 OU2 BU bU
    go_still_tail 12, (by kernel_rfl)
    go_wp2
    go_ret
    refine ⟨by first | rfl | simp, ⟨⟨hb_, xb, hc, xc, (HBU.out.drw).setO (by omega) _ _, ?_, ?_, h4, h5, h6⟩, H.out.lo, by simpa using H.out.len, hpos, hsm, ht⟩, (HbU.out.drew).setCell (by show base ≤ xb; have := (own_lt H3.out).2.1; exact this) _⟩
    · exact own_only O1.out.drew ((Only.refl [xb] _).setCell (p := ⟨xb, n, none⟩) (by simp) _) (by simp; omega)
    · rw [List.map_set]
      exact (O2.out.drew.stored n (.int .i64 x)).1
  · go_wp2
    go_ret
    exact ⟨by first | rfl | simp, by rw [HW.out]; exact H.out.drw 2, by rw [HW.out]; exact (Below.refl _ _).drew.drew⟩
end Go.Proofs.Ytpbhfhjnjmcgjaa
