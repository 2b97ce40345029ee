/- Layer 23: what words tell. -/
import Derived.Test.YtaelhgkodcgmnaaDoorRendAB
namespace Go.Proofs.YtaelhgkodcgmnaaDoor
open Go.ChangeShapes Go.WideShapes Go.ChangeAt Go.RowKit Go.Deep
open Go.Shelf
set_option linter.unusedVariables false
set_option linter.unusedSimpArgs false

theorem all_len {α : Type} {f : Str → Option α} : ∀ {ws : List Str} {xs : List α}, allR f ws = some xs → xs.length = ws.length := by
  intro ws
  induction ws with
  | nil => intro xs h; simp [allR] at h; subst h; rfl
  | cons u ws ih =>
    intro xs h
    unfold allR at h
    split at h
    · rename_i y ys e1 e2
      injection h with h
      subst h
      simp [ih e2]
    · cases h
theorem cutW_len : ∀ {ws a b : List Str}, cutW ws = some (a, b) → a.length + b.length + 1 = ws.length := by
  intro ws
  induction ws with
  | nil => intro a b h; cases h
  | cons u ws ih =>
    intro a b h
    unfold cutW at h
    split at h
    · injection h with h
      injection h with h1 h2
      subst h1 h2
      simp
    · split at h
      · rename_i a2 b2 e
        injection h with h
        injection h with h1 h2
        subst h1 h2
        have := ih e
        simp
        omega
      · cases h
theorem told_len {ws : List Str} {t : Td} (h : toldR ws = some t) : t.cells.length + t.rules.length + t.chans.length ≤ ws.length := by
  unfold toldR at h
  split at h
  · split at h
    · split at h
      · rename_i n a b e1 e2
        split at h
        · rename_i c d e3
          split at h
          · rename_i cs rs ch e4 e5 e6
            injection h with h
            subst h
            have h1 := all_len e4
            have h2 := all_len e5
            have h3 := all_len e6
            have h4 := cutW_len e2
            have h5 := cutW_len e3
            simp
            omega
          · cases h
        · cases h
      · cases h
    · cases h
  · cases h
theorem spl_len (c : UInt8) : ∀ s : Str, (spl c s).length ≤ s.length + 1 := by
  intro s
  induction s with
  | nil => simp [spl]
  | cons b l ih =>
    unfold spl
    split
    · simp; exact ih
    · cases hs : spl c l with
      | nil => simp [pre1]
      | cons v vs => rw [hs] at ih; simp [pre1] at ih ⊢; omega
theorem spl_small (c : UInt8) : ∀ (s : Str), ∀ w ∈ spl c s, w.length ≤ s.length := by
  intro s
  induction s with
  | nil => intro w hw; simp [spl] at hw; subst hw; simp
  | cons b l ih =>
    intro w hw
    unfold spl at hw
    split at hw
    · rcases List.mem_cons.1 hw with rfl | hw
      · simp
      · have := ih w hw; simp; omega
    · cases hs : spl c l with
      | nil => rw [hs] at hw; simp [pre1] at hw; subst hw; simp
      | cons v vs =>
        rw [hs] at hw
        have hw2 : w = b :: v ∨ w ∈ vs := by simpa [pre1] using hw
        rcases hw2 with rfl | hw2
        · have := ih v (by rw [hs]; simp); simp; omega
        · have := ih w (by rw [hs]; simp [hw2]); simp; omega
/-- what is told, its rows of the call's own -/
def ToldO (w : World) (v : Value) (t : Td) : Prop := ∃ b1 b2 b3 CA cc RA rc HA_ hc, v = .agg #[.int .i64 t.tick, .slice CA t.cells.length cc, .slice RA t.rules.length rc, .slice HA_ t.chans.length hc] ∧ w.ownsRow b1 44 3 (.slice CA t.cells.length cc) t.cells.length (tk f3 t.cells) ∧ w.ownsRow b2 51 2 (.slice RA t.rules.length rc) t.rules.length (tk f2 t.rules) ∧ w.ownsRow b3 51 2 (.slice HA_ t.chans.length hc) t.chans.length (tk f2 t.chans)
theorem ToldO.told {w : World} {v : Value} {t : Td} (h : ToldO w v t) : ToldV w v t := by
  obtain ⟨b1, b2, b3, CA, cc, RA, rc, HA_, hc, rfl, h1, h2, h3⟩ := h
  exact ⟨_, _, _, rfl, ⟨⟨_, _, rfl⟩, RowN.of_own h1⟩, ⟨⟨_, _, rfl⟩, RowN.of_own h2⟩, ⟨⟨_, _, rfl⟩, RowN.of_own h3⟩⟩
theorem ToldO.below {w w' : World} {v : Value} {t : Td} (h : ToldO w v t) (hb : Below w.heap.size w w') : ToldO w' v t := by
  obtain ⟨b1, b2, b3, CA, cc, RA, rc, HA_, hc, e, h1, h2, h3⟩ := h
  exact ⟨b1, b2, b3, CA, cc, RA, rc, HA_, hc, e, own_below h1 hb, own_below h2 hb, own_below h3 hb⟩
theorem ToldO.zero_ {w : World} : ToldO w (.agg #[.int .i64 0, .slice none 0 0, .slice none 0 0, .slice none 0 0]) Td.zero := ⟨0, 0, 0, _, _, _, _, _, _, rfl, own_nilN _ _, own_nilN _ _, own_nilN _ _⟩
def ToldQ (w' : World) (ps : List ByteArray) (e : Ending) : Prop := ∃ v t o, e = .returned (.tuple #[v, .bool o]) ∧ ToldO w' v t ∧ toldR (D ps) = if o = true then some t else none
def tickB : ByteArray := ⟨#[116, 105, 99, 107]⟩
theorem tick_iff (z : ByteArray) : z = tickB ↔ z.data.toList = tickW := by
  constructor
  · rintro rfl; rfl
  · intro h
    exact ByteArray.ext (Array.toList_inj.mp h)
theorem told_short {ps : List ByteArray} (h : ps.length < 2) : toldR (D ps) = none := by
  match ps, h with
  | [], _ => rfl
  | [p], _ => rfl
theorem told_no1 {p0 p1 : ByteArray} {qs : List ByteArray} (h : p0.data.toList = tickW) (hc : cutW (D qs) = none) : toldR (D (p0 :: p1 :: qs)) = none := by
  show (if p0.data.toList = tickW then _ else none) = none
  rw [if_pos h]
  show (match okI (Lib.atoiAll p1.data.toList), cutW (D qs) with | some n, some (a, b) => _ | _, _ => none) = none
  rw [hc]
  cases okI (Lib.atoiAll p1.data.toList) <;> rfl
theorem told_no2 {p0 p1 : ByteArray} {qs : List ByteArray} {a b : List Str} (h : p0.data.toList = tickW) (hc : cutW (D qs) = some (a, b)) (hd : cutW b = none) : toldR (D (p0 :: p1 :: qs)) = none := by
  show (if p0.data.toList = tickW then _ else none) = none
  rw [if_pos h]
  show (match okI (Lib.atoiAll p1.data.toList), cutW (D qs) with | some n, some (a, b) => _ | _, _ => none) = none
  rw [hc]
  cases okI (Lib.atoiAll p1.data.toList) with
  | none => rfl
  | some n => dsimp only; rw [hd]
theorem told_no3 {p0 p1 : ByteArray} {qs : List ByteArray} (h : p0.data.toList = tickW) (hn : okI (Lib.atoiAll p1.data.toList) = none) : toldR (D (p0 :: p1 :: qs)) = none := by
  show (if p0.data.toList = tickW then _ else none) = none
  rw [if_pos h]
  show (match okI (Lib.atoiAll p1.data.toList), cutW (D qs) with | some n, some (a, b) => _ | _, _ => none) = none
  rw [hn]
theorem told_yes {p0 p1 : ByteArray} {qs : List ByteArray} {n : Int} {a b c d : List Str} {o1 o2 o3 : Bool} {cs : List Cl} {rs hs : List (Bool × Bool)} (h : p0.data.toList = tickW) (hn : okI (Lib.atoiAll p1.data.toList) = some n) (hc : cutW (D qs) = some (a, b)) (hd : cutW b = some (c, d))
    (h1 : allR cellR a = if o1 = true then some cs else none) (h2 : allR alarmR c = if o2 = true then some rs else none) (h3 : allR alarmR d = if o3 = true then some hs else none) :
    toldR (D (p0 :: p1 :: qs)) = if (o1 && o2 && o3) = true then some ⟨n, cs, rs, hs⟩ else none := by
  show (if p0.data.toList = tickW then _ else none) = _
  rw [if_pos h]
  show (match okI (Lib.atoiAll p1.data.toList), cutW (D qs) with | some n, some (a, b) => _ | _, _ => none) = _
  rw [hn, hc]
  dsimp only
  rw [hd]
  dsimp only
  rw [h1, h2, h3]
  cases o1 <;> cases o2 <;> cases o3 <;> rfl
theorem own_setZ {w : World} {base b : Nat} {e t : TypeId} {k n i : Nat} {v u : Value} {xs : List Value} {cs : Array Value} (h : w.ownsRow base e k v n xs) (hb : Blk w b t cs) (ht : t ≠ e) : (w.setCell ⟨b, i, none⟩ u).ownsRow base e k v n xs := by
  obtain ⟨h1, h2⟩ := h
  refine ⟨h1, ?_⟩
  rcases h2 with h2 | ⟨g, cap, cur, hv, hbg, hgg, hrest⟩
  · exact .inl h2
  · refine .inr ⟨g, cap, cur, hv, hbg, ?_, hrest⟩
    have hne : g ≠ b := by
      intro e
      subst e
      unfold Blk at hb
      rw [hb] at hgg
      injection hgg with hgg
      injection hgg with _ e2 _
      exact ht e2
    rw [Below.heap_setCell _ _ _ _ hne]
    exact hgg
theorem ToldO.setCell {w : World} {v u : Value} {t : Td} {b i : Nat} {e : TypeId} {cs : Array Value} (h : ToldO w v t) (hb : Blk w b e cs) (h1 : e ≠ 44) (h2 : e ≠ 51) : ToldO (w.setCell ⟨b, i, none⟩ u) v t := by
  obtain ⟨b1, b2, b3, CA, cc, RA, rc, HA_, hc, e, g1, g2, g3⟩ := h
  exact ⟨b1, b2, b3, CA, cc, RA, rc, HA_, hc, e, own_setZ g1 hb h1, own_setZ g2 hb h2, own_setZ g3 hb h2⟩
theorem told_out {W : World} {B g b1 b2 b3 : Nat} {n : Int} {cB cg : Array Value} {CA RA HA_ : Option Addr} {cc rc hc : Nat} {cs : List Cl} {rs hs : List (Bool × Bool)} (u0 u1 u2 u3 u4 : Value) (hq : Blk W B 25 cB) (hz : Blk W g 25 cg) (hne : ¬ g = B)
    (oc : W.ownsRow b1 44 3 (.slice CA cs.length cc) cs.length (tk f3 cs)) (or : W.ownsRow b2 51 2 (.slice RA rs.length rc) rs.length (tk f2 rs)) (oh : W.ownsRow b3 51 2 (.slice HA_ hs.length hc) hs.length (tk f2 hs)) :
    ToldO (((((W.setCell ⟨B, 3, none⟩ u0).setCell ⟨g, 0, none⟩ u1).setCell ⟨g, 1, none⟩ u2).setCell ⟨g, 2, none⟩ u3).setCell ⟨g, 3, none⟩ u4) (.agg #[.int .i64 n, .slice CA cs.length cc, .slice RA rs.length rc, .slice HA_ hs.length hc]) ⟨n, cs, rs, hs⟩ := by
  have z0 := hz.setO hne 3 u0
  have z1 := z0.set 0 u1
  have z2 := z1.set 1 u2
  have z3 := z2.set 2 u3
  exact ⟨_, _, _, _, _, _, _, _, _, rfl,
    own_setZ (own_setZ (own_setZ (own_setZ (own_setZ oc hq (by decide)) z0 (by decide)) z1 (by decide)) z2 (by decide)) z3 (by decide),
    own_setZ (own_setZ (own_setZ (own_setZ (own_setZ or hq (by decide)) z0 (by decide)) z1 (by decide)) z2 (by decide)) z3 (by decide),
    own_setZ (own_setZ (own_setZ (own_setZ (own_setZ oh hq (by decide)) z0 (by decide)) z1 (by decide)) z2 (by decide)) z3 (by decide)⟩
/-- words from the third on -/
theorem rest_row {w w' : World} {b o c : Nat} {p0 p1 : ByteArray} {qs : List ByteArray} (h : WRow w (.slice (some ⟨b, o, none⟩) (p0 :: p1 :: qs).length c) (p0 :: p1 :: qs)) (hb : Below w.heap.size w w') : WRow w' (.slice (if c = 2 then some ⟨b, o, none⟩ else some ⟨b, o + 2, none⟩) qs.length (c - 2)) qs := by
  have h1 := rowv_suf h.1 (k := 2) (by simp)
  rw [add_none] at h1
  refine WRow.below ⟨?_, ?_⟩ hb
  · have e : (List.map Value.string (p0 :: p1 :: qs)).drop 2 = qs.map Value.string := rfl
    rw [e] at h1
    exact h1
  · intro A n c' e
    injection e with e
    split at e <;> (injection e with e; rw [← e])
set_option maxRecDepth 100000 in
set_option maxHeartbeats 4000000 in
theorem told_any (v : Value) (ps : List ByteArray) (w : World) (h : WRow w v ps) (hE : Env w) (hsm : ∀ p ∈ ps, p.size < 4294967281) (hn : ps.length ≤ 4294967296) :
    Calls Tryd.prog 23 #[v] w fun e w' => ToldQ w' ps e ∧ Below w.heap.size w w' := by
  obtain ⟨A, c, rfl, hl⟩ := h.1.len
  have H := Lib.hid h
  have HE := Lib.hid hE
  have HSM := Lib.hid hsm
  have HN := Lib.hid hn
  clear h hE hsm hn
  by_cases h2 : ps.length < 2
  · have hl2 : (ps.length : Int) < 2 := by omega
    have HT := Lib.hid (told_short h2)
    clear h2
    go_enter Tryd.func23, Tryd.ntmps23
    go_wp2
    refine bodyPost_ret (v := .tuple #[.agg #[.int .i64 0, .slice none 0 0, .slice none 0 0, .slice none 0 0], .bool false]) (by simp [results, Tryd.results23, go_sem]) rfl ?_
    exact ⟨⟨_, Td.zero, false, rfl, ToldO.zero_, HT.out⟩, by go_grown⟩
  · obtain ⟨p0, p1, qs, rfl⟩ : ∃ p0 p1 qs, ps = p0 :: p1 :: qs := by
      match ps, h2 with
      | [], h => exact absurd (by simp) h
      | [_], h => exact absurd (by simp) h
      | p0 :: p1 :: qs, _ => exact ⟨p0, p1, qs, rfl⟩
    obtain ⟨ad, rfl, hab, c0⟩ := H.out.1.at (i := 0) (s := p0) rfl
    obtain ⟨_, e1, hab1, c1⟩ := H.out.1.at (i := 1) (s := p1) rfl
    injection e1 with e1
    subst e1
    obtain ⟨b, o, sp⟩ := ad
    obtain rfl : sp = none := H.out.2 _ _ _ rfl
    rw [add_none] at c0 c1 hab hab1
    rw [Nat.add_zero] at c0
    dsimp only at hab
    clear h2 hab1
    by_cases hp : p0.data.toList = tickW
    · have hp2 : (p0.toList == [116, 105, 99, 107]) = true := by rw [toList_data, hp]; rfl
      have HP := Lib.hid hp
      clear hp
      go_enter Tryd.func23, Tryd.ntmps23
      go_wp2_with fail
      go_at_call 39
      refine calls_world (fun W => Below w.heap.size w W ∧ Blk W w.heap.size 25 #[.int .i64 0, .slice none 0 0, .slice none 0 0, .slice none 0 0]) ⟨by go_grown, Blk.new _ _ _ _ rfl⟩ fun W0 ⟨hb, hq⟩ => ?_
      refine (atoi_any p1 (by have := HSM.out p1 (by simp); omega) _ (HE.out.below hb)).mono ?_
      rintro e W1 ⟨⟨n, E, rfl, hA⟩, hk⟩
      have HB1 := Lib.hid (Btrans hb hk)
      have HQ1 := Lib.hid (hq.below hk)
      have HA := Lib.hid hA
      clear hb hq hA hk hp2 c0 c1
      go_wp2_with fail
      all_goals
        have HW := Lib.hid (by have hr := rest_row H.out HB1.out; first | (rw [if_pos (by assumption)] at hr; subst_vars; exact hr) | (rw [if_neg (by assumption)] at hr; exact hr))
        go_at_call 40
        refine (cutWords_any _ qs _ HW.out).mono ?_
        rintro e W2 ⟨⟨va, vb, o1, rfl, hC1⟩, hk2⟩
        have HC1 := Lib.hid hC1
        have HB2 := Lib.hid hk2
        clear hC1 hk2
        rcases HC1.out with ⟨rfl, hn1, rfl, rfl⟩ | ⟨rfl, k1, hkl, hc1, hwa, hwb⟩
        · clear HC1
          go_wp2_with fail
          go_at_call 40
          refine (cutWords_any _ [] _ WRow.nil_).mono ?_
          rintro e W3 ⟨⟨va2, vb2, o2, rfl, hC2⟩, hk3⟩
          rcases hC2 with ⟨rfl, _, rfl, rfl⟩ | ⟨rfl, k2, hkl, _⟩
          · have HQ3 := Lib.hid ((HQ1.out.below HB2.out).below hk3)
            have HB3 := Lib.hid (Btrans (Btrans HB1.out HB2.out) hk3)
            have HT := Lib.hid (show toldR (D (p0 :: p1 :: qs)) = none from told_no1 HP.out hn1)
            clear hk3 hn1
            have cQ := HQ3.out.cells
            have lQ := HQ3.out.lt
            have fQ := HQ3.out.froz
            rcases HA.out.cases with rfl | ⟨t1, a1, rfl⟩
            · go_wp2_with fail
              refine bodyPost_ret (v := .tuple #[.agg #[.int .i64 0, .slice none 0 0, .slice none 0 0, .slice none 0 0], .bool false]) (by simp [results, Tryd.results23, go_sem, cQ, lQ]) rfl ?_
              exact ⟨⟨_, Td.zero, false, rfl, ToldO.zero_, HT.out⟩, HB3.out.trans (by go_grown)⟩
            · go_wp2_with fail
              refine bodyPost_ret (v := .tuple #[.agg #[.int .i64 0, .slice none 0 0, .slice none 0 0, .slice none 0 0], .bool false]) (by simp [results, Tryd.results23, go_sem, cQ, lQ]) rfl ?_
              exact ⟨⟨_, Td.zero, false, rfl, ToldO.zero_, HT.out⟩, HB3.out.trans (by go_grown)⟩
          · exact absurd hkl (by simp)
        · clear HC1
          have HWA := Lib.hid (hwa.below HB2.out)
          have HWB := Lib.hid (hwb.below HB2.out)
          have HC1 := Lib.hid hc1
          clear hwa hwb hc1 hkl
          go_wp2_with fail
          go_at_call 40
          refine (cutWords_any _ (qs.drop (k1 + 1)) _ HWB.out).mono ?_
          rintro e W3 ⟨⟨vc, vd, o2, rfl, hC2⟩, hk3⟩
          have HQ3 := Lib.hid ((HQ1.out.below HB2.out).below hk3)
          have HB3 := Lib.hid (Btrans (Btrans HB1.out HB2.out) hk3)
          have HD := Lib.hid hk3
          have HWA3 := Lib.hid (HWA.out.below hk3)
          have HE3 := Lib.hid (HE.out.below HB3.out)
          have hw3 := HB3.out.size
          have HC2 := Lib.hid hC2
          clear hk3 hC2
          have cQ := HQ3.out.cells
          have lQ := HQ3.out.lt
          have fQ := HQ3.out.froz
          rcases HC2.out with ⟨rfl, hn2, rfl, rfl⟩ | ⟨rfl, k2, hkl2, hc2, hwc, hwd⟩
          · have HT := Lib.hid (told_no2 (p1 := p1) HP.out HC1.out hn2)
            clear hn2 HC2
            rcases HA.out.cases with rfl | ⟨t1, a1, rfl⟩
            · go_wp2_with fail
              refine bodyPost_ret (v := .tuple #[.agg #[.int .i64 0, .slice none 0 0, .slice none 0 0, .slice none 0 0], .bool false]) (by simp [results, Tryd.results23, go_sem, cQ, lQ]) rfl ?_
              exact ⟨⟨_, Td.zero, false, rfl, ToldO.zero_, HT.out⟩, HB3.out.trans (by go_grown)⟩
            · go_wp2_with fail
              refine bodyPost_ret (v := .tuple #[.agg #[.int .i64 0, .slice none 0 0, .slice none 0 0, .slice none 0 0], .bool false]) (by simp [results, Tryd.results23, go_sem, cQ, lQ]) rfl ?_
              exact ⟨⟨_, Td.zero, false, rfl, ToldO.zero_, HT.out⟩, HB3.out.trans (by go_grown)⟩
          · clear HC2
            have HC2 := Lib.hid hc2
            have HWC3 := Lib.hid (hwc.below HD.out)
            have HWD3 := Lib.hid (hwd.below HD.out)
            clear hc2 hwc hwd hkl2
            rcases HA.out.cases with rfl | ⟨t1, a1, rfl⟩
            · have HN1 := Lib.hid HA.out.ok
              clear cQ lQ fQ
              go_wp2_with fail
              go_at_call 41
              refine calls_world (fun W => Below W3.heap.size W3 W ∧ Blk W W3.heap.size 25 #[.int .i64 n, .slice none 0 0, .slice none 0 0, .slice none 0 0]) ⟨by go_grown, Blk.new _ _ _ _ (by first | rfl | simp)⟩ fun W4 ⟨hb4, hq4⟩ => ?_
              refine (allC_any _ (qs.take k1) _ (HWA3.out.below hb4) (HE3.out.below hb4) (fun p hp => HSM.out p (by simp [List.mem_of_mem_take hp])) (by rw [List.length_take]; have := HN.out; simp at this; omega)).mono ?_
              rintro e W5 ⟨⟨v5, oc, cs, rfl, hoc, hac⟩, hk5⟩
              obtain ⟨CA, cc, rfl⟩ := own_shapeZ hoc
              have HOC := Lib.hid hoc
              have HAC := Lib.hid hac
              have HB5 := Lib.hid (Btrans hb4 hk5)
              have HQ5 := Lib.hid (hq4.below hk5)
              clear hoc hac hk5 hb4 hq4
              have cT := HQ5.out.cells
              have lT := HQ5.out.lt
              have fT := HQ5.out.froz
              go_wp2_with fail
              go_at_call 43
              refine calls_world (fun W => Below W3.heap.size W3 W ∧ Blk W W3.heap.size 25 #[.int .i64 n, .slice CA cs.length cc, .slice none 0 0, .slice none 0 0] ∧ W.ownsRow W4.heap.size 44 3 (.slice CA cs.length cc) cs.length (tk f3 cs)) ⟨HB5.out.setCell (p := ⟨W3.heap.size, 1, none⟩) (Nat.le_refl _) _, HQ5.out.set 1 _, own_setZ HOC.out HQ5.out (by decide)⟩ fun W6 ⟨hb6, hq6, ho6⟩ => ?_
              refine (allA_any _ ((qs.drop (k1 + 1)).take k2) _ (HWC3.out.below hb6) (by rw [List.length_take, List.length_drop]; have := HN.out; simp at this; omega)).mono ?_
              rintro e W7 ⟨⟨v7, orr, rs, rfl, hor, har⟩, hk7⟩
              obtain ⟨RA, rc, rfl⟩ := own_shapeZ hor
              have HOC7 := Lib.hid (own_below ho6 hk7)
              have HOR := Lib.hid hor
              have HAR := Lib.hid har
              have HB7 := Lib.hid (Btrans hb6 hk7)
              have HQ7 := Lib.hid (hq6.below hk7)
              clear hor har hk7 hb6 hq6 ho6 cT lT fT
              have cT := HQ7.out.cells
              have lT := HQ7.out.lt
              have fT := HQ7.out.froz
              go_wp2_with fail
              go_at_call 43
              refine calls_world (fun W => Below W3.heap.size W3 W ∧ Blk W W3.heap.size 25 #[.int .i64 n, .slice CA cs.length cc, .slice RA rs.length rc, .slice none 0 0] ∧ W.ownsRow W4.heap.size 44 3 (.slice CA cs.length cc) cs.length (tk f3 cs) ∧ W.ownsRow W6.heap.size 51 2 (.slice RA rs.length rc) rs.length (tk f2 rs)) ⟨HB7.out.setCell (p := ⟨W3.heap.size, 2, none⟩) (Nat.le_refl _) _, HQ7.out.set 2 _, own_setZ HOC7.out HQ7.out (by decide), own_setZ HOR.out HQ7.out (by decide)⟩ fun W8 ⟨hb8, hq8, ho8, hp8⟩ => ?_
              refine (allA_any _ ((qs.drop (k1 + 1)).drop (k2 + 1)) _ (HWD3.out.below hb8) (by rw [List.length_drop, List.length_drop]; have := HN.out; simp at this; omega)).mono ?_
              rintro e W9 ⟨⟨v9, oh, hs, rfl, hoh, hah⟩, hk9⟩
              obtain ⟨HA_, hc, rfl⟩ := own_shapeZ hoh
              have HOC9 := Lib.hid (own_below ho8 hk9)
              have HOR9 := Lib.hid (own_below hp8 hk9)
              have HOH := Lib.hid hoh
              have HAH := Lib.hid hah
              have HB9 := Lib.hid (Btrans hb8 hk9)
              have HQ9 := Lib.hid (hq8.below hk9)
              have HZ9 := Lib.hid (HQ3.out.below HB9.out)
              clear hoh hah hk9 hb8 hq8 ho8 hp8 cT lT fT
              have HTT := Lib.hid (told_yes HP.out HN1.out HC1.out HC2.out HAC.out HAR.out HAH.out)
              have cT := HQ9.out.cells
              have lT := HQ9.out.lt
              have fT := HQ9.out.froz
              have cQ := HZ9.out.cells
              have lQ := HZ9.out.lt
              have fQ := HZ9.out.froz
              have hne : ¬ w.heap.size = W3.heap.size := by have := HQ3.out.lt; omega
              have HOUT := Lib.hid (fun u0 u1 u2 u3 u4 => told_out (g := w.heap.size) (n := n) u0 u1 u2 u3 u4 HQ9.out HZ9.out hne HOC9.out HOR9.out HOH.out)
              have HBW := Lib.hid (fun u0 u1 u2 u3 u4 => (((((HB3.out.trans (HB9.out.mono hw3)).setCell (p := ⟨W3.heap.size, 3, none⟩) hw3 u0).setCell (p := ⟨w.heap.size, 0, none⟩) (Nat.le_refl _) u1).setCell (p := ⟨w.heap.size, 1, none⟩) (Nat.le_refl _) u2).setCell (p := ⟨w.heap.size, 2, none⟩) (Nat.le_refl _) u3).setCell (p := ⟨w.heap.size, 3, none⟩) (Nat.le_refl _) u4)
              obtain ⟨oo, hoo⟩ : ∃ oo, oo = (oc && orr && oh) := ⟨_, rfl⟩
              rw [← hoo] at HTT
              cases oc <;> cases orr
              all_goals
                simp at hoo
                subst hoo
                go_wp2_with fail
                refine bodyPost_ret (v := .tuple #[.agg #[.int .i64 n, .slice CA cs.length cc, .slice RA rs.length rc, .slice HA_ hs.length hc], .bool _]) (by simp [results, Tryd.results23, go_sem, cQ, lQ]; rfl) rfl ?_
                exact ⟨⟨_, _, _, rfl, HOUT.out _ _ _ _ _, HTT.out⟩, HBW.out _ _ _ _ _⟩
            · have HT := Lib.hid (told_no3 (qs := qs) HP.out HA.out.no)
              go_wp2_with fail
              refine bodyPost_ret (v := .tuple #[.agg #[.int .i64 0, .slice none 0 0, .slice none 0 0, .slice none 0 0], .bool false]) (by simp [results, Tryd.results23, go_sem, cQ, lQ]) rfl ?_
              exact ⟨⟨_, Td.zero, false, rfl, ToldO.zero_, HT.out⟩, HB3.out.trans (by go_grown)⟩
    · have hp2 : (p0.toList == [116, 105, 99, 107]) = false := by
        rw [beq_eq_false_iff_ne]
        intro h
        exact hp (by rw [← toList_data]; exact h)
      have HT := Lib.hid (show toldR (D (p0 :: p1 :: qs)) = none by
        show (if p0.data.toList = tickW then _ else none) = none
        rw [if_neg hp])
      clear hp
      go_enter Tryd.func23, Tryd.ntmps23
      go_wp2_with fail
      refine bodyPost_ret (v := .tuple #[.agg #[.int .i64 0, .slice none 0 0, .slice none 0 0, .slice none 0 0], .bool false]) (by simp [results, Tryd.results23, go_sem]) rfl ?_
      exact ⟨⟨_, Td.zero, false, rfl, ToldO.zero_, HT.out⟩, by go_grown⟩
end Go.Proofs.YtaelhgkodcgmnaaDoor
