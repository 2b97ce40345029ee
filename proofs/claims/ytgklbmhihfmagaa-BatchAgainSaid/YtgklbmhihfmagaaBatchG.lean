/- Layer 14: the packets of a tick, in order. -/
import Derived.Test.YtgklbmhihfmagaaBatchF
import Derived.Handy
import Derived.Laws.EntriesVeiled
namespace Go.Proofs.Ytgklbmhihfmagaa
open Go.Sort Go.Lib Go.ChangeShapes Go.WideShapes Go.ChangeAt Go.RowKit Go.Deep
set_option linter.unusedVariables false
set_option linter.unusedSimpArgs false

/-- a block, many cells of which are stored -/
theorem Blk.setCells {b : Nat} {t : TypeId} : ∀ (vs : List Value) (o : Nat) (w : World) (cs : Array Value), Blk w b t cs → Blk (w.setCells b o vs) b t (setMany cs o vs)
  | [], _, _, _, h => h
  | v :: r, o, w, cs, h => by
    show Blk ((w.setCell ⟨b, o, none⟩ v).setCells b (o + 1) r) b t (setMany (cs.setIfInBounds o v) (o + 1) r)
    exact Blk.setCells r (o + 1) _ _ (h.set o v)
theorem only_setCells {b : Nat} {s : List Nat} (hb : b ∈ s) : ∀ (vs : List Value) (o : Nat) (a w : World), Only s a w → Only s a (w.setCells b o vs)
  | [], _, _, _, h => h
  | v :: r, o, a, w, h => only_setCells hb r (o + 1) a _ (h.setCell hb v)
theorem setMany_tk {α : Type} [Inhabited α] {f : α → List Value} {k : Nat} (hk : ∀ a, (f a).length = k) (L : List α) (i : Nat) (x : α) (hi : i < L.length) : setMany (tk f L).toArray (i * k) (f x) = (tk f (L.set i x)).toArray := by
  have hs : (setMany (tk f L).toArray (i * k) (f x)).size = L.length * k := by rw [size_setMany]; simp [tk_len hk]
  have hs2 : (tk f (L.set i x)).toArray.size = L.length * k := by simp [tk_len hk]
  refine ext_get! (by rw [hs, hs2]) fun t ht => ?_
  rw [hs] at ht
  have k0 : 0 < k := by rcases Nat.eq_zero_or_pos k with h | h; · subst h; omega
                        · exact h
  rw [get_setMany _ _ _ t (by simp [tk_len hk]; exact ht), hk]
  have hq : t / k < L.length := Nat.div_lt_of_lt_mul (by rw [Nat.mul_comm]; exact ht)
  have hr : t % k < k := Nat.mod_lt t k0
  have e : t = t / k * k + t % k := by rw [Nat.mul_comm]; exact (Nat.div_add_mod t k).symm
  have g : ∀ M : List α, M.length = L.length → (tk f M).toArray[t]! = ((f (M[t / k]!)))[t % k]! := fun M hM => by
    have hq2 : t / k < M.length := by rw [hM]; exact hq
    have hat := tk_at hk (l := M) (i := t / k) (a := M[t / k]) (List.getElem?_eq_getElem hq2) hr
    rw [← e] at hat
    have h1 : (tk f M).toArray[t]! = (tk f M)[t]! := by simp [Array.getElem!_eq_getD, Array.getD_eq_getD_getElem?, List.getElem!_eq_getElem?_getD]
    rw [h1, List.getElem!_eq_getElem?_getD, hat, List.getElem!_eq_getElem?_getD]
    have h2 : M[t / k]! = M[t / k] := getElem!_pos M (t / k) hq2
    rw [h2]
  rw [g L rfl, g (L.set i x) (List.length_set)]
  by_cases c : t / k = i
  · have h1 := (blk_iff k i t k0).2 c
    rw [if_pos h1]
    have e2 : t - i * k = t % k := by rw [← c, Nat.mul_comm]; have := Nat.div_add_mod t k; omega
    rw [e2, c]
    congr 1
    rw [List.getElem!_eq_getElem?_getD, List.getElem?_set_self hi]
    rfl
  · rw [if_neg (fun h => c ((blk_iff k i t k0).1 h))]
    congr 2
    rw [List.getElem!_eq_getElem?_getD, List.getElem!_eq_getElem?_getD, List.getElem?_set_ne (fun h => c h.symm)]
theorem made_tk {α : Type} [Inhabited α] {f : α → List Value} {k : Nat} (hk : ∀ a, (f a).length = k) (h0 : 0 < k) (z : Array Value) (a : α) (hz : z = (f a).toArray) (n : Nat) : madeCells z (n * k) = (tk f (List.replicate n a)).toArray := by
  subst hz
  refine ext_get! (by rw [size_madeCells]; simp [tk_len hk]) fun t ht => ?_
  rw [size_madeCells] at ht
  have hr : t % k < k := Nat.mod_lt t h0
  have hq : t / k < n := Nat.div_lt_of_lt_mul (by rw [Nat.mul_comm]; exact ht)
  have e : t = t / k * k + t % k := by rw [Nat.mul_comm]; exact (Nat.div_add_mod t k).symm
  have hat := tk_at hk (l := List.replicate n a) (i := t / k) (a := a) (by rw [List.getElem?_replicate, if_pos hq]) hr
  rw [← e] at hat
  have h1 : (tk f (List.replicate n a)).toArray[t]! = (tk f (List.replicate n a))[t]! := by simp [Array.getElem!_eq_getD, Array.getD_eq_getD_getElem?, List.getElem!_eq_getElem?_getD]
  rw [h1, List.getElem!_eq_getElem?_getD, hat]
  unfold madeCells
  rw [getElem!_pos _ t (by simpa using ht)]
  simp [hk, Array.getElem!_eq_getD, Array.getD_eq_getD_getElem?]
theorem Only.cell {s : List Nat} {a w : World} (h : Only s a w) {p : Addr} (hp : p.block < a.heap.size) (hn : p.block ∉ s) : w.cell? p = a.cell? p := by
  unfold World.cell?
  rw [h.block _ hp hn]
theorem sortW_cell {w : World} {g n B : Nat} {d' : Array En} {os : Array Obj} (hB : B < w.heap.size) (hne : B ≠ g) : (sortWorldK f9 9 w g 0 n d' os).cell? ⟨B, 0, none⟩ = w.cell? ⟨B, 0, none⟩ :=
  (sortW_only (w := w) (g := g) (n := n) (d' := d') (os := os)).cell hB (by simpa using hne)
theorem isAggE : ∀ w, (isAgg (sortF_ren.t 24)).run Try.prog w = .ok true w := fun w => by kernel_rfl
theorem sizeE : ∀ w, (Go.sizeOf (sortF_ren.t 24)).run Try.prog w = .ok 9 w := fun w => by kernel_rfl
theorem cmpLaysE (B g size : Nat) (w : World) (hB : w.cell? ⟨B, 0, none⟩ = some (.func (.func 22) #[] #[])) (hb : B < w.heap.size) (hne : B ≠ g) : CmpLays Try.prog 24 #[.pointer (some ⟨B, 0, none⟩)] f9 9 cfE g 0 size w := by
  intro m os dk _ x y
  have hc := (sortW_cell (n := m) (d' := dk) (os := os) hb hne).trans hB
  have hs := (sortW_only (w := w) (g := g) (n := m) (d' := dk) (os := os)).size
  exact clos_any x.x.p.dev x.x.p.chan x.x.p.boot x.x.p.seq x.x.p.stamp x.k x.n x.x.A x.x.p.vals.length x.x.c x.s y.x.p.dev y.x.p.chan y.x.p.boot y.x.p.seq y.x.p.stamp y.k y.n y.x.A y.x.p.vals.length y.x.c y.s B _ hc (by omega)
set_option maxHeartbeats 1000000 in
theorem sort_any {ts : List Tk} {l : List PV} (hr : ∀ x ∈ l, x.p.right) (hl : l.length ≤ 1000) (EA : Option Addr) (ec B base : Nat) (w : World) (hO : w.ownsRow base 51 9 (.slice EA (onceL l).length ec) (onceL l).length (tk f9 ((onceL l).map (enOf ts))))
    (hB : w.cell? ⟨B, 0, none⟩ = some (.func (.func 22) #[] #[])) (hb : B < w.heap.size) (hne : ∀ g, (Value.slice EA (onceL l).length ec).ownBlock = some g → g ≠ B) (hbase : base ≤ w.heap.size) :
    Calls Try.prog 23 #[.slice EA (onceL l).length ec, .func (.func 24) #[] #[.pointer (some ⟨B, 0, none⟩)]] w fun e w' => e = .returned (.tuple #[]) ∧ ∃ E' : List En, Below base w w' ∧ RowN 9 w' (.slice EA (onceL l).length ec) (onceL l).length (tk f9 E') ∧ (E'.map (fun e => e.x.p) = ordR ts (l.map PV.p) ∧ (∀ e ∈ E', e.x ∈ l) ∧ E'.length = (onceL l).length) := by
  have eg : ∀ args w, (callFunc 24 args).run Try.prog w = .ok (.enter 24 args) w := enters_of Try.func24 (by kernel_rfl) rfl
  have hlen := onceL_len l
  rcases Nat.eq_zero_or_pos (onceL l).length with h0 | h0
  · have hnil : onceL l = [] := List.eq_nil_of_length_eq_zero h0
    have hcon := AnyF.slices_SortFunc_none sortF EA ec (.func (.func 24) #[] #[.pointer (some ⟨B, 0, none⟩)]) w
    change Calls Try.prog 23 _ _ _ at hcon
    rw [h0]
    refine hcon.mono ?_
    rintro e w' ⟨rfl, rfl⟩
    refine ⟨rfl, [], Below.refl _ _, ?_, ?_, by simp, rfl⟩
    · have hR := RowN.of_own hO
      rw [hnil] at hR
      exact hR
    · have hln : l = [] := by
        rcases l with _ | ⟨x, l⟩
        · rfl
        · have := (onceL_mem (x :: l) x.p).2 (by simp)
          rw [hnil] at this
          simp at this
      subst hln
      rfl
  · have hO2 := hO
    obtain ⟨_, h2⟩ := hO
    rcases h2 with ⟨e, _⟩ | ⟨g, cap, cur, e, hbg, hgg, hn1, hc, hs, ht⟩
    · injection e with _ e _
      omega
    · injection e with e1 e2 e3
      subst e1 e3
      obtain ⟨hH, hgl, _⟩ := holds_own hO2 (by simp) h0
      have hgB : B ≠ g := fun e => hne g rfl e.symm
      have hcon := AnyQ.slices_SortFunc sortF 9 isAggE sizeE f9 f9_len f9_one cfE swoE 24 #[.pointer (some ⟨B, 0, none⟩)] g 0 ec ((onceL l).map (enOf ts)).toArray w eg (cmpLaysE B g _ w hB hb hgB) hH hgl (by simp; omega)
      have hsz : ((onceL l).map (enOf ts)).toArray.size = (onceL l).length := by simp
      rw [hsz] at hcon
      change Calls Try.prog 23 _ _ _ at hcon
      refine hcon.mono ?_
      rintro e w' ⟨rfl, d', n, os, hp, hso, rfl⟩
      rw [← hsz] at hp hso
      obtain ⟨k1, k2, k3⟩ := sorted_ord hr hp hso
      refine ⟨rfl, d'.toList, below_only sortW_only hbase (by intro x hx; simp at hx; omega), ?_, k1, k2, by rw [Array.length_toList, k3]⟩
      exact sortW_row hH hgl (by rw [hsz]; exact k3) k3.symm hn1 hc
end Go.Proofs.Ytgklbmhihfmagaa
