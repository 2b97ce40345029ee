/- Layer 3: contracts: Split. -/
import Derived.Test.YtkpdfapfcmlhhaaFrameD
import Derived.WalkMore
import Derived.Deep.LoopGhost
namespace Go.Proofs.Ytkpdfapfcmlhhaa
open Go.ChangeShapes Go.WideShapes Go.ChangeAt Go.RowKit
set_option linter.unusedVariables false
set_option linter.unusedSimpArgs false

/-- Rows of bytes, each in a block of its own, in a row of the call's own. -/
def Frows (w : World) (base : Nat) (v : Value) (F : List (List Int)) : Prop :=
  ∃ vs : List Value, w.ownsRow base 22 1 v F.length vs ∧ vs.length = F.length ∧ ∀ (i : Nat) f, F[i]? = some f → ∃ u, vs[i]? = some u ∧ Own8 w u f
theorem Frows.nil_ {w : World} {base : Nat} : Frows w base (.slice none 0 0) [] := ⟨[], own_nil _ _, rfl, by simp⟩
theorem Frows.below {w w' : World} {base : Nat} {v : Value} {F : List (List Int)} (h : Frows w base v F) (hb : Below w.heap.size w w') : Frows w' base v F := by
  obtain ⟨vs, h1, h2, h3⟩ := h
  exact ⟨vs, own_below h1 hb, h2, fun i f hf => by obtain ⟨u, hu, ho⟩ := h3 i f hf; exact ⟨u, hu, ho.below hb⟩⟩
/-- Whatever happens to blocks of other types. -/
theorem Frows.move {w w' : World} {base : Nat} {v : Value} {F : List (List Int)} (h : Frows w base v F) (h1 : ∀ b cs, Blk w b 22 cs → Blk w' b 22 cs) (h2 : ∀ b cs, Blk w b 5 cs → Blk w' b 5 cs) : Frows w' base v F := by
  obtain ⟨vs, ⟨hl, ho⟩, hn, hf⟩ := h
  refine ⟨vs, ⟨hl, ?_⟩, hn, fun i f hi => by obtain ⟨u, hu, ho⟩ := hf i f hi; exact ⟨u, hu, ho.move h2⟩⟩
  rcases ho with ho | ⟨g, cap, cur, hv, hb, hh, hrest⟩
  · exact .inl ho
  · exact .inr ⟨g, cap, cur, hv, hb, h1 g cur hh, hrest⟩
theorem blk_ne {w : World} {a b : Nat} {t s : TypeId} {x y : Array Value} (h : Blk w a t x) (k : Blk w b s y) (hne : t ≠ s) : a ≠ b := by
  rintro rfl
  unfold Blk at h k
  rw [h] at k
  injection k with k
  injection k with _ k _
  exact hne k
theorem Blk.setT {w : World} {a b : Nat} {t s : TypeId} {x y : Array Value} (h : Blk w a t x) (k : Blk w b s y) (hne : t ≠ s) (i : Nat) (v : Value) : Blk (w.setCell ⟨b, i, none⟩ v) a t x := h.setO (blk_ne h k hne) i v
theorem Frows.set {w : World} {base b : Nat} {v : Value} {F : List (List Int)} {t : TypeId} {y : Array Value} (h : Frows w base v F) (k : Blk w b t y) (h1 : 22 ≠ t) (h2 : 5 ≠ t) (i : Nat) (x : Value) : Frows (w.setCell ⟨b, i, none⟩ x) base v F :=
  h.move (fun _ _ q => q.setT k h1 i x) (fun _ _ q => q.setT k h2 i x)
theorem elR : Elem Try.prog 26 22 1 24 := Elem.mk' (z := .slice none 0 0) Try.underlying26 (by kernel_rfl) rfl (by omega)
/-- behind an append -/
theorem Frows.app {w w' : World} {base : Nat} {v v' : Value} {F G : List (List Int)} {vs us : List Value} (hown : w.ownsRow base 22 1 v F.length vs) (hF : vs.length = F.length ∧ ∀ (i : Nat) f, F[i]? = some f → ∃ u, vs[i]? = some u ∧ Own8 w u f)
    (hG : us.length = G.length ∧ ∀ (i : Nat) f, G[i]? = some f → ∃ u, us[i]? = some u ∧ Own8 w u f)
    (h : w'.ownsRow base 22 1 v' (F.length + us.length) (vs ++ us)) (hg : w.grownBy w' v.ownBlock) : Frows w' base v' (F ++ G) := by
  have hmove : ∀ b cs, Blk w b 5 cs → Blk w' b 5 cs := by
    intro b cs hb
    refine (hg.block b hb.lt ?_).trans hb
    intro he
    rcases hown.2 with ⟨rfl, _⟩ | ⟨g, cap, cur, rfl, _, hh, _⟩
    · simp [Value.ownBlock] at he
    · simp [Value.ownBlock] at he
      subst he
      exact blk_ne hb (show Blk w _ 22 cur from hh) (by decide) rfl
  refine ⟨vs ++ us, by rw [List.length_append, ← hG.1]; exact h, by rw [List.length_append, List.length_append, hF.1, hG.1], fun i f hi => ?_⟩
  rcases Nat.lt_or_ge i F.length with hl | hl
  · rw [List.getElem?_append_left hl] at hi
    obtain ⟨u, hu, ho⟩ := hF.2 i f hi
    exact ⟨u, by rw [List.getElem?_append_left (by omega)]; exact hu, ho.move hmove⟩
  · rw [List.getElem?_append_right hl] at hi
    obtain ⟨u, hu, ho⟩ := hG.2 _ f hi
    exact ⟨u, by rw [List.getElem?_append_right (by omega), hF.1]; exact hu, ho.move hmove⟩
theorem Bytes.empty {w : World} (A : Option Addr) (c : Nat) (h : c ≤ maxLen) (ha : A = none → c = 0) : Bytes w (.slice A 0 c) [] := by
  refine ⟨⟨A, c, rfl, Nat.zero_le _, h, ?_⟩, by simp⟩
  cases A with
  | none => exact .inl ⟨rfl, ha rfl⟩
  | some a => exact .inr ⟨a, rfl, by simp, by simp⟩
theorem Bytes.tail {w : World} {ad : Addr} {c : Nat} {bs : List Int} (h : Bytes w (.slice (some ad) bs.length c) bs) (k : Nat) (hk : k ≤ bs.length) (hc : bs.length ≤ c) (hcm : c ≤ maxLen) (hne : ¬ c = k) : Bytes w (.slice (some (ad.add k)) (bs.length - k) (c - k)) (bs.drop k) := by
  have := Bytes.sub h k (bs.length - k) (c - k) (by omega) (by omega) (by omega)
  rwa [List.take_of_length_le (by rw [List.length_drop]; exact Nat.le_refl _)] at this

theorem below_set {B : Nat} {a b : World} (h : Below B a b) {g i : Nat} (hg : B ≤ g) (v : Value) : Below B a (b.setCell ⟨g, i, none⟩ v) := h.setCell (p := ⟨g, i, none⟩) hg v
def cellN : Option Value → Nat | some (.int _ n) => n.toNat | _ => 0

set_option maxRecDepth 100000 in
set_option maxHeartbeats 4000000 in
theorem split_some (ad : Addr) (c : Nat) (bs : List Int) (w : World) (h : Bytes w (.slice (some ad) bs.length c) bs) (hl : bs.length ≤ 100000) :
    Calls Try.prog 12 #[.slice (some ad) bs.length c] w fun e w' => ∃ u r, e = .returned (.tuple #[u, r, .int .i64 ((split bs).bad : Int)]) ∧ Frows w' w.heap.size u (split bs).fs ∧ Own8 w' r (split bs).rest ∧ Below w.heap.size w w' := by
  have H := Lib.hid h
  obtain ⟨A0, c0, e0, hc, hcm, hs0⟩ := h.src
  injection e0 with e1 e2 e3
  subst e3
  clear e1 e2 hs0 h
  go_enter Try.func12, Try.ntmps12
  go_wp2
  go_step3
  go_wp2
  go_step3
  go_wp2_with fail
  have HS0 := Lib.hid (Blk.new w 42 #[.slice (some ad) bs.length c, .int .i64 0] _ rfl)
  go_loopw [10, 11] (fun fv pv wr => ∃ (k p : Nat) (F : List (List Int)), k ≤ bs.length ∧ p + F.length ≤ k ∧ pv = .int .i64 (p : Int) ∧ Frows wr w.heap.size fv F ∧ split bs = (split (bs.drop k)).put F p ∧ Blk wr w.heap.size 42 #[.slice (some ad) bs.length c, .int .i64 (k : Int)] ∧ Below w.heap.size w wr)
    (fun _ _ wr => bs.length - cellN (wr.cell? ⟨w.heap.size, 1, none⟩))
  case atStart => exact ⟨0, 0, [], Nat.zero_le _, by simp, rfl, Frows.nil_, by rw [List.drop_zero, Sp.put_nil], HS0.out, by go_grown⟩
  case round =>
    obtain ⟨k, p, F, hk, hpF, rfl, hF, hsp, hS, hb⟩ := hrel
    have HF := Lib.hid hF
    have HSP := Lib.hid hsp
    have HS := Lib.hid hS
    have HB := Lib.hid hb
    have c0 := hS.cells 0
    have c1 := hS.cells 1
    simp at c0 c1
    clear hF hsp hS hb HS0
    have f1 := HS.out.froz 1
    by_cases hlt : k < bs.length
    rotate_left
    · have he : k = bs.length := by omega
      subst he
      have HSPE := Lib.hid (show split bs = ⟨F, bs.drop bs.length, p⟩ by rw [HSP.out, List.drop_length, split_nil]; simp [Sp.put])
      have hnil : bs.drop bs.length = [] := List.drop_length
      have HNIL := Lib.hid hnil
      clear hnil
      by_cases hck : c = bs.length
      · go_wp2_with fail
        refine (cloned_any _ (bs.drop bs.length) _ (by rw [HNIL.out]; exact Bytes.empty _ _ (by unfold maxLen; omega) (by simp)) (by rw [List.length_drop]; omega)).mono ?_
        rintro e w2 ⟨u, rfl, hu, hk2⟩
        have HU := Lib.hid hu
        obtain ⟨Bu, cu, rfl, hcu, hcmu, hsu⟩ := hu.bytes.src
        simp only [List.length_drop, Nat.sub_self] at HU
        have HB2 := Lib.hid (Btrans HB.out hk2)
        have HF2 := Lib.hid (HF.out.below hk2)
        clear hu hsu hk2
        go_wp2
        rw [Exit.noGoto_ret]
        go_ret3
        rw [HSPE.out]
        exact ⟨_, _, rfl, HF2.out, HU.out, HB2.out⟩
      · go_wp2_with fail
        refine (cloned_any _ (bs.drop bs.length) _ (by rw [HNIL.out]; exact Bytes.empty _ _ (by unfold maxLen; omega) (by simp)) (by rw [List.length_drop]; omega)).mono ?_
        rintro e w2 ⟨u, rfl, hu, hk2⟩
        have HU := Lib.hid hu
        obtain ⟨Bu, cu, rfl, hcu, hcmu, hsu⟩ := hu.bytes.src
        simp only [List.length_drop, Nat.sub_self] at HU
        have HB2 := Lib.hid (Btrans HB.out hk2)
        have HF2 := Lib.hid (HF.out.below hk2)
        clear hu hsu hk2
        go_wp2
        rw [Exit.noGoto_ret]
        go_ret3
        rw [HSPE.out]
        exact ⟨_, _, rfl, HF2.out, HU.out, HB2.out⟩
    obtain ⟨x, hx⟩ : ∃ x, bs[k]? = some x := ⟨_, List.getElem?_eq_getElem hlt⟩
    obtain ⟨r, hr⟩ : ∃ r, bs.drop k = x :: r := ⟨_, by rw [List.drop_eq_getElem_cons hlt, ← (List.getElem?_eq_some_iff.1 hx).2]⟩
    have HR := Lib.hid hr
    have hr1 : r = bs.drop (k + 1) := by rw [show bs.drop (k + 1) = (bs.drop k).drop 1 by rw [List.drop_drop], hr]; rfl
    have HR1 := Lib.hid hr1
    have HX := Lib.hid hx
    clear hr hr1 hx
    by_cases hxm : x = 165
    rotate_left
    · have gx : (x == 165) = false := beq_false_of_ne hxm
      have HXM := Lib.hid hxm
      clear hxm
      go_wp2_with fail
      refine (marked_any _ _ ad c bs k x ⟨HS.out, H.out.below HB.out⟩ HX.out (by omega)).mono ?_
      rintro e w1 ⟨rfl, m1, rfl⟩
      go_wp2
      go_roundw
      case rel => exact ⟨k + 1, p + 1, F, by omega, by omega, by go_num, (show Frows (wr.drewN m1) _ _ _ from HF.out).set (show Blk (wr.drewN m1) _ _ _ from HS.out) (by decide) (by decide) 1 _, by rw [HSP.out, HR.out, split_pass r HXM.out, Sp.put_put, HR1.out, List.append_nil], (show Blk (wr.drewN m1) _ _ _ from HS.out).set 1 _, below_set (Bdrew HB.out m1) (Nat.le_refl _) _⟩
      case measure =>
        have e1 := ((show Blk (wr.drewN m1) _ _ _ from HS.out).set 1 (.int .i64 ((k : Int) + 1))).cells 1
        rw [c1, e1]
        simp [cellN]
        omega
    have HXM := Lib.hid hxm
    have gx : (x == 165) = true := beq_iff_eq.2 hxm
    have HD : Hid (bs.drop k = 165 :: r) := Lib.hid (by rw [HR.out, HXM.out])
    clear hxm
    go_wp2_with fail
    refine (marked_any _ _ ad c bs k x ⟨HS.out, H.out.below HB.out⟩ HX.out (by omega)).mono ?_
    rintro e w1 ⟨rfl, m1, rfl⟩
    go_wp2_with fail
    refine (whole_any _ _ ad c bs k ⟨(show Blk (wr.drewN m1) _ _ _ from HS.out), (H.out.below (Bdrew HB.out m1))⟩ hlt (by omega)).mono ?_
    rintro e wq ⟨rfl, m2, hwq⟩
    have HF2 : Hid (Frows wq w.heap.size u10 F) := Lib.hid (by rw [hwq]; exact HF.out)
    have HS2 : Hid (Blk wq w.heap.size 42 #[.slice (some ad) bs.length c, .int .i64 (k : Int)]) := Lib.hid (by rw [hwq]; exact HS.out)
    have HB2 : Hid (Below w.heap.size w wq) := Lib.hid (by rw [hwq]; exact Bdrew (Bdrew HB.out m1) m2)
    clear hwq
    have d0 := HS2.out.cells 0
    have d1 := HS2.out.cells 1
    simp at d0 d1
    rcases hwh : wholeB (bs.drop k) with _ | _
    · have HSPE := Lib.hid (show split bs = ⟨F, bs.drop k, p⟩ by rw [HSP.out, HD.out, split_rest (by rw [← HD.out]; exact hwh)]; simp [Sp.put])
      have hck : ¬ c = k := by omega
      clear hwh
      go_wp2_with fail
      refine (cloned_any _ (bs.drop k) _ (Bytes.tail (H.out.below HB2.out) k hk hc (by unfold maxLen; omega) hck) (by rw [List.length_drop]; omega)).mono ?_
      rintro e w2 ⟨u, rfl, hu, hk2⟩
      have HU := Lib.hid hu
      obtain ⟨Bu, cu, rfl, hcu, hcmu, hsu⟩ := hu.bytes.src
      simp only [List.length_drop, Nat.sub_self] at HU
      have HB2 := Lib.hid (Btrans HB2.out hk2)
      have HF2 := Lib.hid (HF2.out.below hk2)
      clear hu hsu hk2
      go_wp2
      rw [Exit.noGoto_ret]
      go_ret3
      rw [HSPE.out]
      exact ⟨_, _, rfl, HF2.out, HU.out, HB2.out⟩
    have HWH := Lib.hid hwh
    clear hwh
    go_wp2_with fail
    refine (right_any _ _ ad c bs k ⟨HS2.out, H.out.below HB2.out⟩ hlt HWH.out (by omega)).mono ?_
    rintro e w3 ⟨rfl, hk3⟩
    have HF3 := Lib.hid (HF2.out.below hk3)
    have HS3 := Lib.hid (HS2.out.below hk3)
    have HB3 := Lib.hid (Btrans HB2.out hk3)
    have e1 := HS3.out.cells 1
    have e0 := HS3.out.cells 0
    have f3 := HS3.out.froz 1
    simp at e0 e1
    clear hk3 c0 c1 d0 d1 f1 HF2 HS2 HB2
    rcases hrb : rightB (bs.drop k) with _ | _
    · go_wp2
      go_roundw
      case rel => exact ⟨k + 1, p + 1, F, by omega, by omega, by go_num, HF3.out.set HS3.out (by decide) (by decide) 1 _, by rw [HSP.out, HD.out, split_bad (by rw [← HD.out]; exact HWH.out) (by rw [← HD.out]; exact hrb), Sp.put_put, HR1.out, List.append_nil], HS3.out.set 1 _, below_set HB3.out (Nat.le_refl _) _⟩
      case measure =>
        have e2 := (HS3.out.set 1 (.int .i64 ((k : Int) + 1))).cells 1
        have e3 := HS.out.cells 1
        rw [e2, e3]
        simp [cellN]
        omega
    have HRB := Lib.hid hrb
    clear hrb
    go_wp2_with fail
    refine (data_any _ _ ad c bs k ⟨HS3.out, H.out.below HB3.out⟩ hlt HWH.out (by omega)).mono ?_
    rintro e w4 ⟨u, rfl, hu, hk4⟩
    have HU4 := Lib.hid hu
    have HF4 := Lib.hid (HF3.out.below hk4)
    have HS4 := Lib.hid (HS3.out.below hk4)
    have HB4 := Lib.hid (Btrans HB3.out hk4)
    obtain ⟨Bu, cu, rfl, hcu, hcmu, hsu⟩ := hu.bytes.src
    clear hu hsu hk4 HF3 HS3 HB3 e0 e1 f3
    obtain ⟨vs, hown, hvs⟩ := HF4.out
    have HO := Lib.hid hown
    have HVS := Lib.hid hvs
    clear hown hvs
    have hsz4 := HB4.out.size
    go_wp2_with (at_builtin; refine wpList_app elR rfl (.tmp 41) (.tmp 44) rfl w.heap.size _ F.length vs rfl (own_below HO.out ((Below.refl _ _).alloc (Nat.le_refl _) _)) _ [.slice Bu (dataB (bs.drop k)).length cu] rfl (Row.of_block (heap_at _ _ _ rfl) rfl rfl (Nat.le_refl _) (by decide)) (by simp [Value.oneCell']) ?_ ?_ ?_ ?_)
    case refine_1 => simp; unfold maxLen; omega
    case refine_2 => simp; omega
    case refine_3 => simp; omega
    intro v5 w5 hown5 hg5 _
    have HF5 : Hid (Frows w5 w.heap.size v5 (F ++ [dataB (bs.drop k)])) := Lib.hid (Frows.app (G := [dataB (bs.drop k)]) (us := [.slice Bu (dataB (bs.drop k)).length cu]) (own_below HO.out ((Below.refl _ _).alloc (Nat.le_refl _) _))
      ⟨HVS.out.1, fun i f hi => by obtain ⟨u, hu, ho⟩ := HVS.out.2 i f hi; exact ⟨u, hu, ho.below ((Below.refl _ _).alloc (Nat.le_refl _) _)⟩⟩
      ⟨rfl, fun i f hi => by
        cases i with
        | zero => simp at hi; subst hi; exact ⟨_, rfl, HU4.out.below ((Below.refl _ _).alloc (Nat.le_refl _) _)⟩
        | succ i => simp at hi⟩ hown5 hg5)
    have HB5 : Hid (Below w.heap.size w w5) := Lib.hid (below_app (HB4.out.alloc hsz4 _) (by simp; omega) (own_below HO.out ((Below.refl _ _).alloc (Nat.le_refl _) _)) hg5 (Nat.le_refl _))
    have HS5 : Hid (Blk w5 w.heap.size 42 #[.slice (some ad) bs.length c, .int .i64 (k : Int)]) := Lib.hid (by
      have hb := HS4.out.al (.cells #[.slice Bu (dataB (bs.drop k)).length cu] 22)
      refine (hg5.block _ hb.lt ?_).trans hb
      intro he
      rcases HO.out.2 with ⟨rfl, _⟩ | ⟨g, cap, cur, rfl, _, hh, _⟩
      · simp [Value.ownBlock] at he
      · simp [Value.ownBlock] at he
        exact blk_ne (show Blk w4 g 22 cur from hh) HS4.out (by decide) he.symm)
    clear hown5 hg5 HO HVS HF4 HS4 HB4 HU4
    have hwl := whole_len HWH.out
    rw [List.length_drop] at hwl
    have hk1 : k + 1 < bs.length := by omega
    have hW6 : IntKind.i64.wrap ((k : Int) + ((cnt (bs.drop k) : Int) + 6)) = ((k + (cnt (bs.drop k) + 6) : Nat) : Int) := by rw [IntWalk.i64_in _ (by omega)]; omega
    have e0 := HS5.out.cells 0
    have e1 := HS5.out.cells 1
    have f5 := HS5.out.froz 1
    simp at e0 e1
    have HWL := Lib.hid hwl
    clear hwl
    go_wp2_with fail
    go_region_law ((rw [if_pos (by rfl)]; go_simp; go_at_call 24; refine (size_any w5.drew _ ad c bs k (Str.drew (w := w5) ⟨HS5.out, H.out.below HB5.out⟩) hk1 (by omega)).mono ?_; rintro e w6 ⟨rfl, m6, rfl⟩; go_simp))
    all_goals
      go_wp2
      go_roundw
      case rel =>
        have ek : ((k : Int) + ((cnt (bs.drop k) : Int) + 6)) = ((k + (cnt (bs.drop k) + 6) : Nat) : Int) := by omega
        have e3 : split (bs.drop k) = (split (bs.drop (k + (cnt (bs.drop k) + 6)))).put [dataB (bs.drop k)] 0 := by
          have h := split_frame (r := r) (by rw [← HD.out]; exact HWH.out) (by rw [← HD.out]; exact HRB.out)
          rw [← HD.out, List.drop_drop] at h
          exact h
        rw [ek]
        exact ⟨k + (cnt (bs.drop k) + 6), p, F ++ [dataB (bs.drop k)], by have := HWL.out; omega, by simp; omega, rfl, (show Frows (w5.drewN (1 + m6)) _ _ _ from HF5.out).set (show Blk (w5.drewN (1 + m6)) _ _ _ from HS5.out) (by decide) (by decide) 1 _, by rw [HSP.out, e3, Sp.put_put, Nat.add_zero], (show Blk (w5.drewN (1 + m6)) _ _ _ from HS5.out).set 1 _, below_set (Bdrew HB5.out (1 + m6)) (Nat.le_refl _) _⟩
      case measure =>
        have e2 := ((show Blk (w5.drewN (1 + m6)) _ _ _ from HS5.out).set 1 (.int .i64 ((k : Int) + ((cnt (bs.drop k) : Int) + 6)))).cells 1
        have e3 := HS.out.cells 1
        have e4 := HWL.out
        rw [e2, e3]
        simp [cellN]
        omega
end Go.Proofs.Ytkpdfapfcmlhhaa
