/- Layer 23: all (cells, alarms), walked. -/
import Derived.Test.YtaelhgkodcgmnaaDoorRendAA
namespace Go.Proofs.YtaelhgkodcgmnaaDoor
open Go.ChangeShapes Go.WideShapes Go.ChangeAt Go.RowKit Go.Deep
open Go.Shelf
set_option linter.unusedVariables false
set_option linter.unusedSimpArgs false

theorem elCl : Elem Tryd.prog 22 44 3 24 := Elem.mk' (z := .agg #[.int .i64 0, .int .i64 0, .int .i64 0]) (by kernel_rfl) (by kernel_rfl) rfl (by decide)
theorem elAl : Elem Tryd.prog 23 51 2 2 := Elem.mk' (z := .agg #[.bool false, .bool false]) (by kernel_rfl) (by kernel_rfl) rfl (by decide)
theorem own_cap (w : World) (base n k cap : Nat) (e : TypeId) {cs : Array Value} (hb : base ≤ w.heap.size) (hn : n = w.heap.size) (hs : cs.size = cap * k) (hc : cap ≤ maxLen) : (w.alloc (.cells cs e)).ownsRow base e k (.slice (some ⟨n, 0, none⟩) 0 cap) 0 [] := by
  subst hn
  exact ⟨by simp, .inr ⟨w.heap.size, cap, cs, rfl, hb, heap_alloc_new _ _, Nat.zero_le _, hc, hs, by simp⟩⟩
theorem own_shapeZ {w : World} {base : Nat} {e : TypeId} {k n : Nat} {v : Value} {xs : List Value} (h : w.ownsRow base e k v n xs) : ∃ A c, v = .slice A n c := by
  obtain ⟨_, h2⟩ := h
  rcases h2 with ⟨rfl, rfl⟩ | ⟨g, cap, cur, rfl, _⟩
  · exact ⟨_, _, rfl⟩
  · exact ⟨_, _, rfl⟩
theorem allR_snoc {α : Type} {f : Str → Option α} : ∀ {ws : List Str} {xs : List α} {w : Str} {x : α}, allR f ws = some xs → f w = some x → allR f (ws ++ [w]) = some (xs ++ [x]) := by
  intro ws
  induction ws with
  | nil =>
    intro xs w x h hx
    simp [allR] at h
    subst h
    simp [allR, hx]
  | cons u ws ih =>
    intro xs w x h hx
    rw [List.cons_append]
    unfold allR at h ⊢
    split at h
    · rename_i y ys e1 e2
      injection h with h
      subst h
      rw [ih e2 hx, e1]
      rfl
    · cases h
theorem allR_none {α : Type} {f : Str → Option α} : ∀ {ws : List Str} {w : Str}, w ∈ ws → f w = none → allR f ws = none := by
  intro ws
  induction ws with
  | nil => intro w h; cases h
  | cons u ws ih =>
    intro w h hf
    unfold allR
    rcases List.mem_cons.1 h with rfl | h
    · rw [hf]
    · rw [ih h hf]
      cases f u <;> rfl
set_option maxRecDepth 100000 in
set_option maxHeartbeats 4000000 in
theorem allC_any (v : Value) (ps : List ByteArray) (w : World) (h : WRow w v ps) (hE : Env w) (hsm : ∀ p ∈ ps, p.size < 4294967281) (hn : ps.length ≤ 4294967296) :
    Calls Tryd.prog 41 #[v, .func (.func 42) #[] #[]] w fun e w' => AllC w w' ps e ∧ Below w.heap.size w w' := by
  obtain ⟨A, c, rfl, hl⟩ := h.1.len
  have H := Lib.hid h
  have HE := Lib.hid hE
  have HSM := Lib.hid hsm
  clear h hE hsm
  obtain ⟨cs, hcs, hmk⟩ := make0C ps.length hn w
  have HCS := Lib.hid hcs
  clear hcs
  go_enter Tryd.func41, Tryd.ntmps41
  go_wp2_with fail
  have HN := Lib.hid hn
  clear hn hmk
  go_loopw [4, 5, 6, 16] (fun r o row i wr => ∃ (k : Nat) (B : Option Addr) (bc : Nat) (l : List Cl), k ≤ ps.length ∧ r = .slice none 0 0 ∧ o = .bool false ∧ row = .slice B k bc ∧ i = .int .i64 k ∧ l.length = k ∧ Below w.heap.size w wr ∧ wr.ownsRow w.heap.size 44 3 (.slice B k bc) k (tk f3 l) ∧ allR cellR (D (ps.take k)) = some l) (fun _ _ _ i _ => ps.length - (intOf i).toNat)
  case atStart => exact ⟨0, _, _, [], Nat.zero_le _, rfl, rfl, rfl, rfl, rfl, by go_grown, own_cap _ _ _ _ _ _ (Nat.le_refl _) rfl HCS.out (by unfold maxLen; have := HN.out; omega), rfl⟩
  case round =>
    obtain ⟨k, B, bc, l, hk, rfl, rfl, rfl, rfl, hll, hb, ho, ha⟩ := hrel
    have HB := Lib.hid hb
    have HO := Lib.hid ho
    have HA := Lib.hid ha
    have HLL := Lib.hid hll
    have hbs := hb.size
    clear hb ho ha hll
    by_cases hlt : k < ps.length
    · obtain ⟨x, hx⟩ : ∃ x, ps[k]? = some x := ⟨_, List.getElem?_eq_getElem hlt⟩
      have HX := Lib.hid hx
      obtain ⟨ad, rfl, hab, c0⟩ := H.out.1.at hx
      have ck := (HB.out.cell hab).trans c0
      have hkl : (k : Int) < (ps.length : Int) := by omega
      have HTK := Lib.hid (show D (ps.take (k + 1)) = D (ps.take k) ++ [x.data.toList] by rw [List.take_add_one, hx]; simp [D])
      clear c0 hx hab
      go_wp2_with fail
      go_at_call 42
      refine (cellOf_any x _ (HSM.out x (List.mem_of_getElem? HX.out)) (HE.out.below HB.out)).mono ?_
      rintro e W1 ⟨⟨v1, o, rfl, hV⟩, hk1⟩
      obtain ⟨⟨kd, xv, xf⟩, rfl, hc⟩ := hV
      rw [show (f3 ⟨kd, xv, xf⟩).toArray = #[.int .i64 kd, .int .i64 xv, .int .i64 xf] from rfl]
      have HK1 := Lib.hid hk1
      have hks := hk1.size
      have HB1 := Lib.hid (HB.out.trans (hk1.mono hbs))
      clear hk1 ck
      rcases o with _ | _
      · have HNO := Lib.hid (show allR cellR (D ps) = none from allR_none (w := x.data.toList) (List.mem_map.2 ⟨x, List.mem_of_getElem? HX.out, rfl⟩) (by rw [hc]; rfl))
        clear hc
        go_wp2
        go_ret2
        exact ⟨⟨_, _, [], rfl, own_nilN _ _, by rw [HNO.out]; rfl⟩, HB1.out.trans (by go_grown)⟩
      · have HC := Lib.hid hc
        clear hc
        have HK := Lib.hid (show k + 1 ≤ 4294967296 by have := HN.out; omega)
        go_wp2_with (at_builtin; refine wpList_appN elCl rfl (.tmp 28) (.tmp 30) rfl w.heap.size _ k (tk f3 l) rfl (own_below (own_below HO.out HK1.out) (by go_grown)) _ 1 (tk f3 [⟨kd, xv, xf⟩]) rfl (RowN.of_blk (Blk.new _ _ _ _ (by simp)) rfl rfl (Nat.le_refl _) (by decide)) (tk_all f3_one _) (by unfold maxLen; have := HK.out; omega) (by have := HK.out; omega) (by simp; omega) ?_)
        intro v2 W2 hO2 hg2 _
        have HG := Lib.hid (show Below W1.heap.size W1 _ from (((Below.refl _ _).alloc (Nat.le_refl _) (.cells #[.int .i64 kd, .int .i64 xv, .int .i64 xf] 44)).alloc (by simp) (.cells #[.int .i64 kd, .int .i64 xv, .int .i64 xf] 44)))
        have HB2 := Lib.hid (below_app (B := w.heap.size) (HB1.out.trans (HG.out.mono (Nat.le_trans hbs hks))) (by simp; omega) (own_below (own_below HO.out HK1.out) HG.out) hg2 (Nat.le_refl _))
        obtain ⟨FB, fb, rfl⟩ := own_shapeZ hO2
        have HO2 := Lib.hid (show W2.ownsRow w.heap.size 44 3 (.slice FB (k + 1) fb) (k + 1) (tk f3 (l ++ [⟨kd, xv, xf⟩])) by rw [tk_app]; exact hO2)
        have HA2 := Lib.hid (show allR cellR (D (ps.take (k + 1))) = some (l ++ [⟨kd, xv, xf⟩]) by rw [HTK.out]; exact allR_snoc HA.out (by rw [HC.out]; rfl))
        clear hO2 hg2
        go_wp2
        go_roundw
        case rel => exact ⟨k + 1, FB, fb, l ++ [⟨kd, xv, xf⟩], by omega, rfl, rfl, rfl, by go_num, by rw [List.length_append, HLL.out]; rfl, HB2.out, HO2.out, HA2.out⟩
        case measure => simp [intOf]; omega
    · obtain rfl : k = ps.length := by omega
      have HA2 := Lib.hid (show allR cellR (D ps) = some l by have := HA.out; rwa [List.take_length] at this)
      go_wp2
      go_ret2
      have hrow := HO.out
      have hlen := HLL.out
      exact ⟨⟨_, _, l, rfl, by rw [hlen]; exact hrow, HA2.out⟩, HB.out⟩
set_option maxRecDepth 100000 in
set_option maxHeartbeats 4000000 in
theorem allA_any (v : Value) (ps : List ByteArray) (w : World) (h : WRow w v ps) (hn : ps.length ≤ 4294967296) :
    Calls Tryd.prog 43 #[v, .func (.func 44) #[] #[]] w fun e w' => AllA w w' ps e ∧ Below w.heap.size w w' := by
  obtain ⟨A, c, rfl, hl⟩ := h.1.len
  have H := Lib.hid h
  clear h
  obtain ⟨cs, hcs, hmk⟩ := make0A ps.length hn w
  have HCS := Lib.hid hcs
  clear hcs
  go_enter Tryd.func43, Tryd.ntmps43
  go_wp2_with fail
  have HN := Lib.hid hn
  clear hn hmk
  go_loopw [4, 5, 6, 16] (fun r o row i wr => ∃ (k : Nat) (B : Option Addr) (bc : Nat) (l : List (Bool × Bool)), k ≤ ps.length ∧ r = .slice none 0 0 ∧ o = .bool false ∧ row = .slice B k bc ∧ i = .int .i64 k ∧ l.length = k ∧ Below w.heap.size w wr ∧ wr.ownsRow w.heap.size 51 2 (.slice B k bc) k (tk f2 l) ∧ allR alarmR (D (ps.take k)) = some l) (fun _ _ _ i _ => ps.length - (intOf i).toNat)
  case atStart => exact ⟨0, _, _, [], Nat.zero_le _, rfl, rfl, rfl, rfl, rfl, by go_grown, own_cap _ _ _ _ _ _ (Nat.le_refl _) rfl HCS.out (by unfold maxLen; have := HN.out; omega), rfl⟩
  case round =>
    obtain ⟨k, B, bc, l, hk, rfl, rfl, rfl, rfl, hll, hb, ho, ha⟩ := hrel
    have HB := Lib.hid hb
    have HO := Lib.hid ho
    have HA := Lib.hid ha
    have HLL := Lib.hid hll
    have hbs := hb.size
    clear hb ho ha hll
    by_cases hlt : k < ps.length
    · obtain ⟨x, hx⟩ : ∃ x, ps[k]? = some x := ⟨_, List.getElem?_eq_getElem hlt⟩
      have HX := Lib.hid hx
      obtain ⟨ad, rfl, hab, c0⟩ := H.out.1.at hx
      have ck := (HB.out.cell hab).trans c0
      have hkl : (k : Int) < (ps.length : Int) := by omega
      have HTK := Lib.hid (show D (ps.take (k + 1)) = D (ps.take k) ++ [x.data.toList] by rw [List.take_add_one, hx]; simp [D])
      clear c0 hx hab
      go_wp2_with fail
      go_at_call 44
      refine (alarmOf_any x _).mono ?_
      rintro e W1 ⟨⟨a1, a2, o, rfl, hc⟩, hk1⟩
      have HK1 := Lib.hid hk1
      have hks := hk1.size
      have HB1 := Lib.hid (HB.out.trans (hk1.mono hbs))
      clear hk1 ck
      rcases o with _ | _
      · have HNO := Lib.hid (show allR alarmR (D ps) = none from allR_none (w := x.data.toList) (List.mem_map.2 ⟨x, List.mem_of_getElem? HX.out, rfl⟩) (by rw [hc]; rfl))
        clear hc
        go_wp2
        go_ret2
        exact ⟨⟨_, _, [], rfl, own_nilN _ _, by rw [HNO.out]; rfl⟩, HB1.out.trans (by go_grown)⟩
      · have HC := Lib.hid hc
        clear hc
        have HK := Lib.hid (show k + 1 ≤ 4294967296 by have := HN.out; omega)
        go_wp2_with (at_builtin; refine wpList_appN elAl rfl (.tmp 28) (.tmp 30) rfl w.heap.size _ k (tk f2 l) rfl (own_below (own_below HO.out HK1.out) (by go_grown)) _ 1 (tk f2 [(a1, a2)]) rfl (RowN.of_blk (Blk.new _ _ _ _ (by simp)) rfl rfl (Nat.le_refl _) (by decide)) (tk_all f2_one _) (by unfold maxLen; have := HK.out; omega) (by have := HK.out; omega) (by simp; omega) ?_)
        intro v2 W2 hO2 hg2 _
        have HG := Lib.hid (show Below W1.heap.size W1 _ from (((Below.refl _ _).alloc (Nat.le_refl _) (.cells #[.bool a1, .bool a2] 51)).alloc (by simp) (.cells #[.bool a1, .bool a2] 51)))
        have HB2 := Lib.hid (below_app (B := w.heap.size) (HB1.out.trans (HG.out.mono (Nat.le_trans hbs hks))) (by simp; omega) (own_below (own_below HO.out HK1.out) HG.out) hg2 (Nat.le_refl _))
        obtain ⟨FB, fb, rfl⟩ := own_shapeZ hO2
        have HO2 := Lib.hid (show W2.ownsRow w.heap.size 51 2 (.slice FB (k + 1) fb) (k + 1) (tk f2 (l ++ [(a1, a2)])) by rw [tk_app]; exact hO2)
        have HA2 := Lib.hid (show allR alarmR (D (ps.take (k + 1))) = some (l ++ [(a1, a2)]) by rw [HTK.out]; exact allR_snoc HA.out (by rw [HC.out]; rfl))
        clear hO2 hg2
        go_wp2
        go_roundw
        case rel => exact ⟨k + 1, FB, fb, l ++ [(a1, a2)], by omega, rfl, rfl, rfl, by go_num, by rw [List.length_append, HLL.out]; rfl, HB2.out, HO2.out, HA2.out⟩
        case measure => simp [intOf]; omega
    · obtain rfl : k = ps.length := by omega
      have HA2 := Lib.hid (show allR alarmR (D ps) = some l by have := HA.out; rwa [List.take_length] at this)
      go_wp2
      go_ret2
      have hrow := HO.out
      have hlen := HLL.out
      exact ⟨⟨_, _, l, rfl, by rw [hlen]; exact hrow, HA2.out⟩, HB.out⟩
end Go.Proofs.YtaelhgkodcgmnaaDoor
