/- Layer 23: what is told, in memory; Right. -/
import Derived.Test.YtaelhgkodcgmnaaDoorRendN
import Derived.Test.YtaelhgkodcgmnaaDoorRowK
import Derived.Test.YtaelhgkodcgmnaaDoorReg
import Derived.Handy
import Derived.IntWalk
namespace Go.Proofs.YtaelhgkodcgmnaaDoor
open Go.ChangeShapes Go.WideShapes Go.ChangeAt Go.RowKit Go.Deep
set_option linter.unusedVariables false
set_option linter.unusedSimpArgs false

def f3 (c : Cl) : List Value := [.int .i64 c.kind, .int .i64 c.v, .int .i64 c.fr]
theorem f3_len (c : Cl) : (f3 c).length = 3 := rfl
theorem f3_one (c : Cl) : ∀ u ∈ f3 c, u.oneCell' = true := by
  intro u hu
  simp [f3] at hu
  rcases hu with rfl | rfl | rfl <;> rfl
def f2 (a : Bool × Bool) : List Value := [.bool a.1, .bool a.2]
theorem f2_len (a : Bool × Bool) : (f2 a).length = 2 := rfl
theorem f2_one (a : Bool × Bool) : ∀ u ∈ f2 a, u.oneCell' = true := by
  intro u hu
  simp [f2] at hu
  rcases hu with rfl | rfl <;> rfl
def CRow (w : World) (v : Value) (l : List Cl) : Prop := (∃ A c, v = .slice A l.length c) ∧ RowN 3 w v l.length (tk f3 l)
def ARow (w : World) (v : Value) (l : List (Bool × Bool)) : Prop := (∃ A c, v = .slice A l.length c) ∧ RowN 2 w v l.length (tk f2 l)
section
variable {w w' : World} {v : Value}
theorem CRow.below {l : List Cl} (h : CRow w v l) (hb : Below w.heap.size w w') : CRow w' v l := ⟨h.1, h.2.below hb⟩
theorem ARow.below {l : List (Bool × Bool)} (h : ARow w v l) (hb : Below w.heap.size w w') : ARow w' v l := ⟨h.1, h.2.below hb⟩
theorem CRow.nil_ : CRow w (.slice none 0 0) [] := ⟨⟨none, 0, rfl⟩, RowN.nil_⟩
theorem ARow.nil_ : ARow w (.slice none 0 0) [] := ⟨⟨none, 0, rfl⟩, RowN.nil_⟩
theorem CRow.caps {l : List Cl} {A : Option Addr} {n c : Nat} (h : CRow w (.slice A n c) l) : n = l.length ∧ l.length ≤ c ∧ c ≤ 9223372036854775807 := by
  obtain ⟨⟨A1, c1, e⟩, h2⟩ := h
  injection e with e1 e2 e3
  subst e2
  obtain ⟨_, A', c', e, hc, hm, _⟩ := h2
  injection e with _ _ e
  subst e
  unfold maxLen at hm
  exact ⟨rfl, hc, by omega⟩
theorem ARow.caps {l : List (Bool × Bool)} {A : Option Addr} {n c : Nat} (h : ARow w (.slice A n c) l) : n = l.length ∧ l.length ≤ c ∧ c ≤ 9223372036854775807 := by
  obtain ⟨⟨A1, c1, e⟩, h2⟩ := h
  injection e with e1 e2 e3
  subst e2
  obtain ⟨_, A', c', e, hc, hm, _⟩ := h2
  injection e with _ _ e
  subst e
  unfold maxLen at hm
  exact ⟨rfl, hc, by omega⟩
theorem CRow.atw {l : List Cl} {A : Option Addr} {n c : Nat} (h : CRow w (.slice A n c) l) {i : Nat} {x : Cl} (hi : l[i]? = some x) :
    ∃ ad, A = some ad ∧ (ad.add (i * 3)).block < w.heap.size ∧ w.cell? (ad.add (i * 3)) = some (.int .i64 x.kind) ∧ w.cell? ⟨(ad.add (i * 3)).block, (ad.add (i * 3)).off + 1, none⟩ = some (.int .i64 x.v) ∧ w.cell? ⟨(ad.add (i * 3)).block, (ad.add (i * 3)).off + 2, none⟩ = some (.int .i64 x.fr) := by
  obtain ⟨⟨A1, c1, e⟩, h2⟩ := h
  injection e with e1 e2 e3
  obtain ⟨ad, c', e', hb, h0, hc⟩ := RowN.atw f3_len (by decide) h2 hi
  injection e' with e4 e5 e6
  exact ⟨ad, e4, hb, h0 _ rfl, hc 1 _ (by decide) rfl, hc 2 _ (by decide) rfl⟩
theorem ARow.atw {l : List (Bool × Bool)} {A : Option Addr} {n c : Nat} (h : ARow w (.slice A n c) l) {i : Nat} {x : Bool × Bool} (hi : l[i]? = some x) :
    ∃ ad, A = some ad ∧ (ad.add (i * 2)).block < w.heap.size ∧ w.cell? (ad.add (i * 2)) = some (.bool x.1) ∧ w.cell? ⟨(ad.add (i * 2)).block, (ad.add (i * 2)).off + 1, none⟩ = some (.bool x.2) := by
  obtain ⟨⟨A1, c1, e⟩, h2⟩ := h
  injection e with e1 e2 e3
  obtain ⟨ad, c', e', hb, h0, hc⟩ := RowN.atw f2_len (by decide) h2 hi
  injection e' with e4 e5 e6
  exact ⟨ad, e4, hb, h0 _ rfl, hc 1 _ (by decide) rfl⟩
end
/-- what is told, by value -/
def ToldV (w : World) (v : Value) (t : Td) : Prop := ∃ vc vr vh, v = .agg #[.int .i64 t.tick, vc, vr, vh] ∧ CRow w vc t.cells ∧ ARow w vr t.rules ∧ ARow w vh t.chans
theorem ToldV.below {w w' : World} {v : Value} {t : Td} (h : ToldV w v t) (hb : Below w.heap.size w w') : ToldV w' v t := by
  obtain ⟨vc, vr, vh, e, h1, h2, h3⟩ := h
  exact ⟨vc, vr, vh, e, h1.below hb, h2.below hb, h3.below hb⟩
theorem ToldV.zero_ {w : World} : ToldV w (.agg #[.int .i64 0, .slice none 0 0, .slice none 0 0, .slice none 0 0]) Td.zero := ⟨_, _, _, rfl, CRow.nil_, ARow.nil_, ARow.nil_⟩
theorem clR_cases {kd v f : Int} (h : ¬ clR ⟨kd, v, f⟩) : kd < 1 ∨ 4 < kd ∨ (1 ≤ kd ∧ kd ≤ 4 ∧ kd ≠ 1 ∧ v ≠ 0) ∨ (1 ≤ kd ∧ kd ≤ 4 ∧ kd ≠ 1 ∧ v = 0 ∧ f ≠ 0) := by
  unfold clR at h
  dsimp only at h
  omega
set_option maxRecDepth 100000 in
set_option maxHeartbeats 4000000 in
theorem right_any (v : Value) (t : Td) (w : World) (h : ToldV w v t) :
    Calls Tryd.prog 13 #[v] w fun e w' => e = .returned (.bool (decide (tdR t))) ∧ Below w.heap.size w w' := by
  obtain ⟨vc, vr, vh, rfl, h1, h2, h3⟩ := h
  obtain ⟨CA, cc, rfl⟩ := h1.1
  have hcap : t.cells.length ≤ 9223372036854775807 := Nat.le_trans h1.caps.2.1 h1.caps.2.2
  have HC := Lib.hid h1
  clear h1 h2 h3
  obtain ⟨r, hr⟩ : ∃ r, r = decide (tdR t) := ⟨_, rfl⟩
  rw [← hr]
  have HR := Lib.hid hr
  clear hr
  go_enter Tryd.func13, Tryd.ntmps13
  go_wp2_with fail
  go_loopw [8] (fun i wr => ∃ k : Nat, k ≤ t.cells.length ∧ i = .int .i64 k ∧ Below w.heap.size w wr ∧ Blk wr w.heap.size 25 #[.int .i64 t.tick, .slice CA t.cells.length cc, vr, vh] ∧ ∀ c ∈ t.cells.take k, clR c) (fun i _ => t.cells.length - (intOf i).toNat)
  case atStart => exact ⟨0, by omega, rfl, by go_grown, Blk.new _ _ _ _ rfl, by simp⟩
  case round =>
    obtain ⟨k, hk, rfl, hb, hq, ht⟩ := hrel
    have HB := Lib.hid hb
    have HQ := Lib.hid hq
    have HTk := Lib.hid ht
    have hbs := hb.size
    clear hb hq ht
    by_cases hlt : k < t.cells.length
    · obtain ⟨x, hx⟩ : ∃ x, t.cells[k]? = some x := ⟨_, List.getElem?_eq_getElem hlt⟩
      have HX := Lib.hid hx
      have HTK2 := Lib.hid (show t.cells.take (k + 1) = t.cells.take k ++ [x] by rw [List.take_add_one, hx]; rfl)
      obtain ⟨ad, rfl, hab, c0, c1, c2⟩ := HC.out.atw hx
      have k0 := (HB.out.cell hab).trans c0
      have k1 := (HB.out.cell (p := ⟨(ad.add (k * 3)).block, (ad.add (k * 3)).off + 1, none⟩) hab).trans c1
      have k2 := (HB.out.cell (p := ⟨(ad.add (k * 3)).block, (ad.add (k * 3)).off + 2, none⟩) hab).trans c2
      clear c0 c1 c2 hx
      obtain ⟨kd, xv, xf⟩ := x
      dsimp only at k0 k1 k2
      have hkl : (k : Int) < (t.cells.length : Int) := by omega
      by_cases hcr : clR ⟨kd, xv, xf⟩
      · have hcr2 := hcr
        obtain ⟨⟨ha, hb4⟩, hc⟩ := hcr2
        dsimp only at ha hb4 hc
        have HCR := Lib.hid hcr
        clear hcr
        by_cases h1 : kd = 1
        · subst h1
          clear hc ha hb4
          go_wp2
          go_roundw
          case rel => exact ⟨k + 1, by omega, by go_num, HB.out.trans (by go_grown), HQ.out.al _, fun c hc => by
            rw [HTK2.out] at hc
            rcases List.mem_append.1 hc with h | h
            · exact HTk.out c h
            · rw [List.mem_singleton] at h; subst h; exact HCR.out⟩
          case measure => simp [intOf]; omega
        · have hv : xv = 0 := by omega
          have hf : xf = 0 := by omega
          subst hv hf
          have g1 : (kd != 1) = true := by simpa using h1
          have g2 : ¬ kd < 1 := by omega
          have g3 : ¬ 4 < kd := by omega
          clear hc h1 ha hb4
          go_wp2
          go_roundw
          case rel => exact ⟨k + 1, by omega, by go_num, HB.out.trans (by go_grown), HQ.out.al _, fun c hc => by
            rw [HTK2.out] at hc
            rcases List.mem_append.1 hc with h | h
            · exact HTk.out c h
            · rw [List.mem_singleton] at h; subst h; exact HCR.out⟩
          case measure => simp [intOf]; omega
      · have hrf : r = false := by
          rw [HR.out]
          exact decide_eq_false (fun h => hcr (h.1 _ (List.mem_of_getElem? HX.out)))
        have HRF := Lib.hid hrf
        clear hrf
        rcases clR_cases hcr with h | h | ⟨ha, hb4, h1, h2⟩ | ⟨ha, hb4, h1, h2, h3⟩
        · clear hcr
          go_wp2
          go_ret
          exact ⟨by simp [HRF.out], HB.out.trans (by go_grown)⟩
        · clear hcr
          go_wp2
          go_ret
          exact ⟨by simp [HRF.out], HB.out.trans (by go_grown)⟩
        · have g1 : (kd != 1) = true := by simpa using h1
          have g2 : ¬ kd < 1 := by omega
          have g3 : ¬ 4 < kd := by omega
          have g4 : (xv != 0) = true := by simpa using h2
          clear hcr h1 h2 ha hb4
          go_wp2
          go_ret
          exact ⟨by simp [HRF.out], HB.out.trans (by go_grown)⟩
        · have g1 : (kd != 1) = true := by simpa using h1
          have g2 : ¬ kd < 1 := by omega
          have g3 : ¬ 4 < kd := by omega
          have g4 : (xf != 0) = true := by simpa using h3
          subst h2
          clear hcr h1 h3 ha hb4
          go_wp2
          go_ret
          exact ⟨by simp [HRF.out], HB.out.trans (by go_grown)⟩
    · obtain rfl : k = t.cells.length := by omega
      have cQ := HQ.out.cells
      have hrt : r = decide (0 ≤ t.tick) := by
        rw [HR.out]
        have := HTk.out
        rw [List.take_length] at this
        by_cases h : 0 ≤ t.tick
        · rw [decide_eq_true h]
          exact decide_eq_true ⟨this, h⟩
        · rw [decide_eq_false h]
          exact decide_eq_false (fun h2 => h h2.2)
      have HRT := Lib.hid hrt
      clear hrt
      go_wp2
      go_ret
      exact ⟨by simp [HRT.out], HB.out⟩
end Go.Proofs.YtaelhgkodcgmnaaDoor
