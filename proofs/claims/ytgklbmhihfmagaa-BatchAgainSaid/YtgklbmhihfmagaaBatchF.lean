/- Layer 14: entries, sorted. -/
import Derived.Test.YtgklbmhihfmagaaBatchL
import Derived.Test.YtgklbmhihfmagaaBatchO
namespace Go.Proofs.Ytgklbmhihfmagaa
open Go.ChangeShapes Go.WideShapes Go.ChangeAt Go.RowKit Go.Deep Go.Sort Go.Lib
set_option linter.unusedVariables false
set_option linter.unusedSimpArgs false

def cfE (a b : En) : Int := cmp4 a.x.p.dev a.k a.n b.x.p.dev b.k b.n (bl a.s) (bl b.s)
theorem swoE : SWO (ltOf cfE) where
  irrefl x := by unfold ltOf cfE; exact decide_eq_false (cmp4_irrefl _ _ _ _)
  trans x y z h1 h2 := by
    unfold ltOf cfE at *
    exact decide_eq_true (cmp4_trans (of_decide_eq_true h1) (of_decide_eq_true h2))
  ntrans x y z h1 h2 := by
    unfold ltOf cfE at *
    exact decide_eq_false (cmp4_ntrans (of_decide_eq_false h1) (of_decide_eq_false h2))
/-- the packets of sorted entries are in order -/
theorem sorted_ord {ts : List Tk} {l : List PV} (hr : ∀ x ∈ l, x.p.right) {d' : Array En} (hp : PermIn 0 ((onceL l).map (enOf ts)).toArray.size ((onceL l).map (enOf ts)).toArray d')
    (hs : SortedIn (ltOf cfE) 0 ((onceL l).map (enOf ts)).toArray.size d') : (d'.toList.map (fun e => e.x.p)) = ordR ts (l.map PV.p) ∧ (∀ e ∈ d'.toList, e.x ∈ l) ∧ d'.size = (onceL l).length := by
  obtain ⟨h1, _, h3⟩ := hp
  have hn : ((onceL l).map (enOf ts)).toArray.size = (onceL l).length := by simp
  rw [hn] at h1 hs h3
  have e1 : (d'.extract 0 (onceL l).length) = d' := by rw [← h1]; simp
  have e2 : (((onceL l).map (enOf ts)).toArray.extract 0 (onceL l).length) = ((onceL l).map (enOf ts)).toArray := by
    conv => lhs; arg 3; rw [← hn]
    simp
    exact List.take_of_length_le (by simp)
  rw [e1, e2] at h3
  have hperm : d'.toList.Perm ((onceL l).map (enOf ts)) := h3
  have hmem : ∀ e ∈ d'.toList, ∃ x ∈ onceL l, e = enOf ts x := fun e he => by
    obtain ⟨x, hx, rfl⟩ := List.mem_map.1 (hperm.mem_iff.1 he)
    exact ⟨x, hx, rfl⟩
  have hpp : (d'.toList.map (fun e => e.x.p)).Perm ((onceL l).map PV.p) := by
    have := hperm.map (fun e : En => e.x.p)
    rw [List.map_map] at this
    exact this
  have hnd : (d'.toList.map (fun e => e.x.p)).Nodup := hpp.nodup_iff.2 (onceL_nodup l)
  have hrr : ∀ p ∈ l.map PV.p, p.right := fun p hp => by
    obtain ⟨x, hx, rfl⟩ := List.mem_map.1 hp
    exact hr x hx
  refine ⟨ordR_of hrr ?_ (fun p => by rw [hpp.mem_iff, onceL_mem]), fun e he => ?_, h1⟩
  · unfold Asc
    rw [List.pairwise_iff_getElem]
    intro i j hi hj hij
    rw [List.length_map, Array.length_toList] at hi hj
    rw [List.getElem_map, List.getElem_map]
    have hlt := hs i j (Nat.zero_le _) hij (by omega)
    rw [getElem!_pos d' i hi, getElem!_pos d' j hj] at hlt
    have hne := (List.pairwise_iff_getElem.1 hnd) i j (by simpa using hi) (by simpa using hj) hij
    rw [List.getElem_map, List.getElem_map] at hne
    rw [Array.getElem_toList, Array.getElem_toList] at hne ⊢
    obtain ⟨x, hx, ex⟩ := hmem d'[i] (by rw [← Array.getElem_toList]; exact List.getElem_mem _)
    obtain ⟨y, hy, ey⟩ := hmem d'[j] (by rw [← Array.getElem_toList]; exact List.getElem_mem _)
    rw [ex, ey] at hlt hne ⊢
    have hlt2 : ¬ ahead ts y.p x.p := by
      unfold ltOf cfE at hlt
      have := of_decide_eq_false hlt
      unfold enOf at this
      dsimp only at this
      rw [bl_bstr _ (data_range _), bl_bstr _ (data_range _)] at this
      exact this
    rcases ahead_tri (ts := ts) (hr x (onceL_sub l x hx)) (hr y (onceL_sub l y hy)) with h | h | h
    · exact h
    · exact absurd h hne
    · exact absurd h hlt2
  · obtain ⟨x, hx, rfl⟩ := hmem e he
    exact onceL_sub l x hx
/-- cells of a row of entries, flat -/
theorem flat_at (l : List En) (t : Nat) (h : t < l.length * 9) : (flatK f9 9 l.toArray)[t]! = (tk f9 l)[t]! := by
  rw [get_flatK f9 9 l.toArray t (by simpa using h)]
  have hq : t / 9 < l.length := by omega
  have e : t = t / 9 * 9 + t % 9 := by omega
  have hat := tk_at f9_len (l := l) (i := t / 9) (a := l[t / 9]) (List.getElem?_eq_getElem hq) (Nat.mod_lt t (by decide : 0 < 9))
  rw [← e] at hat
  rw [List.getElem!_eq_getElem?_getD, List.getElem!_eq_getElem?_getD, hat]
  have : l.toArray[t / 9]! = l[t / 9] := by rw [getElem!_pos l.toArray (t / 9) (by simpa using hq)]; simp
  rw [this]
theorem holds_own {w : World} {base g n cap : Nat} {l : List En} (h : w.ownsRow base 51 9 (.slice (some ⟨g, 0, none⟩) n cap) n (tk f9 l)) (hn : n = l.length) (h0 : 0 < n) : HoldsK f9 9 w g 0 l.toArray ∧ g < w.heap.size ∧ base ≤ g := by
  obtain ⟨hl, h2⟩ := h
  rcases h2 with ⟨e, _⟩ | ⟨g1, cap1, cur, e, hb, hgg, hn1, hc, hs, ht⟩
  · injection e with e _ _; cases e
  · injection e with e1 e2 e3
    injection e1 with e1
    injection e1 with e1 _
    subst e1
    refine ⟨fun j hj => ?_, (Array.getElem?_eq_some_iff.1 hgg).1, hb⟩
    have hj2 : j < l.length * 9 := by simpa using hj
    rw [Nat.zero_add]
    refine ⟨?_, frozen_of_row w g j cur _ hgg⟩
    rw [cell_of_row w g j cur _ (0, 0) hgg, flat_at l j hj2]
    have hlen : (tk f9 l).length = l.length * 9 := tk_len f9_len l
    have hx : (tk f9 l)[j]? = some ((tk f9 l)[j]!) := by
      rw [List.getElem!_eq_getElem?_getD, List.getElem?_eq_getElem (by omega)]
      rfl
    show cur[j]? = some ((tk f9 l)[j]!)
    rw [← hx, ← ht, List.getElem?_take_of_lt (by omega)]
    simp
theorem sortW_only {w : World} {g n : Nat} {d' : Array En} {os : Array Obj} : Only [g] w (sortWorldK f9 9 w g 0 n d' os) := by
  refine ⟨rfl, rfl, rfl, ?_, fun b hb hn => ?_⟩
  · unfold sortWorldK putRowK
    simp [Sort.ahead]
  · unfold sortWorldK putRowK
    rw [Sort.heap_grow_old _ _ (by simpa [Sort.ahead] using hb)]
    simp only [putRow, mapBlock]
    rw [Array.getElem?_modify, if_neg (by intro e; exact hn (by simp [e]))]
    rfl
theorem sortW_row {w : World} {g n m cap : Nat} {d d' : Array En} {os : Array Obj} (hH : HoldsK f9 9 w g 0 d) (hg : g < w.heap.size) (hs : d'.size = d.size) (hm : m = d'.size) (hc : m ≤ cap) (hcm : cap ≤ maxLen) :
    RowN 9 (sortWorldK f9 9 w g 0 n d' os) (.slice (some ⟨g, 0, none⟩) m cap) m (tk f9 d'.toList) := by
  have h2 := holdsK_sortWorldK_c f9 9 w g 0 d d' n os hH hg hs
  refine ⟨by rw [tk_len f9_len, Array.length_toList, hm], some ⟨g, 0, none⟩, cap, rfl, hc, hcm, .inr ⟨_, rfl, fun _ => ?_, fun i x hx => ?_⟩⟩
  · have := (sortW_only (w := w) (g := g) (n := n) (d' := d') (os := os)).size
    show g < _
    omega
  · rw [add_zero_addr]
    have hi : i < (tk f9 d'.toList).length := (List.getElem?_eq_some_iff.1 hx).1
    rw [tk_len f9_len, Array.length_toList] at hi
    have h3 := (h2 i (by rw [size_flatK]; exact hi)).1
    rw [Nat.zero_add] at h3
    rw [h3]
    have := flat_at d'.toList i (by rw [Array.length_toList]; exact hi)
    rw [show d'.toList.toArray = d' from rfl] at this
    show some ((flatK f9 9 d')[i]!) = some x
    rw [this, List.getElem!_eq_getElem?_getD, hx]
    rfl
theorem below_only {B : Nat} {w w' : World} {s : List Nat} (h : Only s w w') (hB : B ≤ w.heap.size) (hs : ∀ x ∈ s, B ≤ x) : Below B w w' := ⟨h.os, h.tape, h.output, h.size, fun i hi => h.block i (by omega) (fun hm => by have := hs i hm; omega)⟩
end Go.Proofs.Ytgklbmhihfmagaa
