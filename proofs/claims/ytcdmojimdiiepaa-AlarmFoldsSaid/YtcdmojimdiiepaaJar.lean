/- Tables of rows of the call's own: who owns which block is told by a map. -/
import Derived.Test.YtcdmojimdiiepaaAlarmF
namespace Go.Proofs.Ytcdmojimdiiepaa
open Go.ChangeShapes Go.WideShapes Go.ChangeAt Go.RowKit
set_option linter.unusedVariables false
set_option linter.unusedSimpArgs false

theorem ownsRow_lt {w : World} {base k n : Nat} {e : TypeId} {v : Value} {xs : List Value} (h : w.ownsRow base e k v n xs) {g : Nat} (hg : v.ownBlock = some g) : base ≤ g ∧ g < w.heap.size := h.lt g hg
/-- an owned row outlives an append to another one -/
theorem own_kept2 {w w' : World} {base n k : Nat} {e : TypeId} {v : Value} {xs : List Value} {row : Option Nat} (h : w.ownsRow base e k v n xs) (hg : w.grownBy w' row) (hne : ∀ g, v.ownBlock = some g → some g ≠ row) : w'.ownsRow base e k v n xs := by
  obtain ⟨h1, h2⟩ := h
  rcases h2 with h2 | ⟨g, cap, cur, hv, hbg, hgg, hrest⟩
  · exact ⟨h1, .inl h2⟩
  · exact ⟨h1, .inr ⟨g, cap, cur, hv, hbg, (hg.block g (Array.getElem?_eq_some_iff.1 hgg).1 (hne g (by rw [hv]; rfl))).trans hgg, hrest⟩⟩
theorem own_set2 {w : World} {base n k b i : Nat} {e : TypeId} {v u : Value} {xs : List Value} (h : w.ownsRow base e k v n xs) (hb : b < base) : (w.setCell ⟨b, i, none⟩ u).ownsRow base e k v n xs := by
  obtain ⟨h1, h2⟩ := h
  rcases h2 with h2 | ⟨g, cap, cur, hv, hbg, hgg, hrest⟩
  · exact ⟨h1, .inl h2⟩
  · exact ⟨h1, .inr ⟨g, cap, cur, hv, hbg, (Below.heap_setCell _ _ _ _ (show g ≠ b by omega)).trans hgg, hrest⟩⟩
/-- what an append and a store may turn -/
structure Kp (a : World) (tb : Nat) (vb : Option Nat) (w : World) : Prop where
  os : w.os = a.os
  tape : w.tape = a.tape
  output : w.output = a.output
  size : a.heap.size ≤ w.heap.size
  block : ∀ b, b < a.heap.size → b ≠ tb → some b ≠ vb → w.heap[b]? = a.heap[b]?
theorem Kp.refl (a : World) (tb : Nat) (vb : Option Nat) : Kp a tb vb a := ⟨rfl, rfl, rfl, Nat.le_refl _, fun _ _ _ _ => rfl⟩
theorem Kp.below {a w w' : World} {tb : Nat} {vb : Option Nat} (h : Kp a tb vb w) (k : Below w.heap.size w w') : Kp a tb vb w' :=
  ⟨k.os.trans h.os, k.tape.trans h.tape, k.output.trans h.output, Nat.le_trans h.size k.size, fun b hb h1 h2 => (k.block b (Nat.lt_of_lt_of_le hb h.size)).trans (h.block b hb h1 h2)⟩
theorem Kp.drew {a w : World} {tb : Nat} {vb : Option Nat} (h : Kp a tb vb w) (n : Nat) : Kp a tb vb (w.drewN n) := ⟨h.os, h.tape, h.output, h.size, h.block⟩
theorem Kp.grown {a w w' : World} {tb : Nat} {vb : Option Nat} (h : Kp a tb vb w) (k : w.grownBy w' vb) : Kp a tb vb w' :=
  ⟨k.os.trans h.os, k.tape.trans h.tape, k.output.trans h.output, Nat.le_trans h.size k.size, fun b hb h1 h2 => (k.block b (Nat.lt_of_lt_of_le hb h.size) h2).trans (h.block b hb h1 h2)⟩
theorem Kp.set {a w : World} {tb i : Nat} {vb : Option Nat} (h : Kp a tb vb w) (u : Value) : Kp a tb vb (w.setCell ⟨tb, i, none⟩ u) :=
  ⟨h.os, h.tape, h.output, by simpa [World.setCell] using h.size, fun b hb h1 h2 => (Below.heap_setCell _ _ _ _ (show b ≠ tb from h1)).trans (h.block b hb h1 h2)⟩
theorem Kp.cell {a w : World} {tb : Nat} {vb : Option Nat} (h : Kp a tb vb w) {p : Addr} (hp : p.block < a.heap.size) (h1 : p.block ≠ tb) (h2 : some p.block ≠ vb) : w.cell? p = a.cell? p := by
  unfold World.cell?
  rw [h.block _ hp h1 h2]
theorem Kp.low {a w : World} {tb T : Nat} {vb : Option Nat} (h : Kp a tb vb w) (ht : T ≤ tb) (hv : ∀ g, vb = some g → T ≤ g) {p : Addr} (h1 : p.block < a.heap.size) (h2 : p.block < T) : w.cell? p = a.cell? p :=
  h.cell h1 (by omega) (fun e => by have := hv _ e.symm; omega)
theorem Kp.fr {a w : World} {tb hi : Nat} {vb : Option Nat} (h : Kp a tb vb w) (ht : hi ≤ tb) (hl : tb < a.heap.size) (hv : ∀ g, vb = some g → hi ≤ g ∧ g < a.heap.size) : Fr hi a.heap.size a w := by
  refine ⟨tb :: vb.toList, ⟨h.os, h.tape, h.output, h.size, fun b hb hn => h.block b hb (fun e => hn (by simp [e])) (fun e => hn (by rw [← e]; simp))⟩, ?_⟩
  intro x hx
  rcases List.mem_cons.1 hx with rfl | hx
  · exact ⟨ht, hl⟩
  · exact hv x (by simpa using hx)
abbrev Own := Nat → Nat × Nat
/-- a table: slot i's row is (q, i)'s own -/
structure Tb (w : World) (base : Nat) (own : Own) (q tb : Nat) (ts e : TypeId) (k n : Nat) (F : Nat → List Value) : Prop where
  ex : ∃ cs : List Value, Blk w tb ts cs.toArray ∧ cs.length = n ∧ ∀ (i : Nat) (v : Value), cs[i]? = some v → ∃ m, w.ownsRow base e k v m (F i) ∧ ∀ g, v.ownBlock = some g → own g = (q, i)
  lt : tb < base
theorem Tb.congr {w : World} {base q tb k n : Nat} {own : Own} {ts e : TypeId} {F G : Nat → List Value} (h : Tb w base own q tb ts e k n F) (he : ∀ i, i < n → F i = G i) : Tb w base own q tb ts e k n G := by
  obtain ⟨cs, h1, h2, h3⟩ := h.ex
  exact ⟨⟨cs, h1, h2, fun i v hv => by rw [← he i (by rw [← h2]; exact (List.getElem?_eq_some_iff.1 hv).1)]; exact h3 i v hv⟩, h.lt⟩
theorem Tb.below {w w' : World} {base q tb k n : Nat} {own : Own} {ts e : TypeId} {F : Nat → List Value} (h : Tb w base own q tb ts e k n F) (hb : Below w.heap.size w w') : Tb w' base own q tb ts e k n F := by
  obtain ⟨cs, h1, h2, h3⟩ := h.ex
  exact ⟨⟨cs, h1.below hb, h2, fun i v hv => by obtain ⟨m, h4, h5⟩ := h3 i v hv; exact ⟨m, own_below h4 hb, h5⟩⟩, h.lt⟩
theorem Tb.fr {w w' : World} {base q tb k n lo hi : Nat} {own : Own} {ts e : TypeId} {F : Nat → List Value} (h : Tb w base own q tb ts e k n F) (f : Fr lo hi w w') (ht : hi ≤ tb) : Tb w' base own q tb ts e k n F := by
  obtain ⟨cs, h1, h2, h3⟩ := h.ex
  have hl := h.lt
  obtain ⟨s, k1, k2⟩ := f
  refine ⟨⟨cs, h1.only k1 (fun hm => by have := k2 _ hm; omega), h2, fun i v hv => ?_⟩, h.lt⟩
  obtain ⟨m, h4, h5⟩ := h3 i v hv
  refine ⟨m, ?_, h5⟩
  obtain ⟨g1, g2⟩ := h4
  rcases g2 with g2 | ⟨g, cap, cur, hv, hbg, hgg, hrest⟩
  · exact ⟨g1, .inl g2⟩
  · exact ⟨g1, .inr ⟨g, cap, cur, hv, hbg, (k1.block g (Array.getElem?_eq_some_iff.1 hgg).1 (fun hm => by have := k2 _ hm; omega)).trans hgg, hrest⟩⟩
theorem Tb.mono {w : World} {base q tb k n : Nat} {own own2 : Own} {ts e : TypeId} {F : Nat → List Value} (h : Tb w base own q tb ts e k n F) (ho : ∀ g, g < w.heap.size → own2 g = own g) : Tb w base own2 q tb ts e k n F := by
  obtain ⟨cs, h1, h2, h3⟩ := h.ex
  exact ⟨⟨cs, h1, h2, fun i v hv => by obtain ⟨m, h4, h5⟩ := h3 i v hv; exact ⟨m, h4, fun g hg => by rw [ho g (ownsRow_lt h4 hg).2]; exact h5 g hg⟩⟩, h.lt⟩
theorem Tb.slot {w : World} {base q tb k n : Nat} {own : Own} {ts e : TypeId} {F : Nat → List Value} (h : Tb w base own q tb ts e k n F) {i : Nat} (hi : i < n) :
    ∃ A m c, w.cell? ⟨tb, i, none⟩ = some (.slice A m c) ∧ w.frozen? ⟨tb, i, none⟩ = false ∧ tb < w.heap.size ∧ w.ownsRow base e k (.slice A m c) m (F i) ∧ ∀ g, (Value.slice A m c).ownBlock = some g → own g = (q, i) ∧ base ≤ g ∧ g < w.heap.size := by
  obtain ⟨cs, h1, h2, h3⟩ := h.ex
  obtain ⟨v, hv⟩ : ∃ v, cs[i]? = some v := ⟨_, List.getElem?_eq_getElem (by omega)⟩
  obtain ⟨m, h4, h5⟩ := h3 i v hv
  obtain ⟨A, c, rfl⟩ := own_shape h4
  refine ⟨A, m, c, ?_, h1.froz i, h1.lt, h4, fun g hg => ⟨h5 g hg, ownsRow_lt h4 hg⟩⟩
  rw [h1.cells]
  simpa using hv
def own2 (V : World) (own : Own) (q i : Nat) : Own := fun b => if b < V.heap.size then own b else (q, i)
/-- another table, or another slot's, over an append and a store -/
theorem Tb.other {w V V' : World} {base q tb k n q2 i2 tb2 : Nat} {own : Own} {ts e : TypeId} {F : Nat → List Value} {vb : Option Nat} {u : Value} (h : Tb w base own q tb ts e k n F) (hb : Below w.heap.size w V) (hg : V.grownBy V' vb) (hv : ∀ g, vb = some g → own g = (q2, i2) ∧ base ≤ g) (hq : q ≠ q2) (ht : tb ≠ tb2) (ht2 : tb2 < base) :
    Tb (V'.setCell ⟨tb2, i2, none⟩ u) base (own2 V own q2 i2) q tb ts e k n F := by
  have hl := h.lt
  obtain ⟨cs, h1, h2, h3⟩ := (h.below hb).ex
  refine ⟨⟨cs, ?_, h2, fun i v hv2 => ?_⟩, h.lt⟩
  · have hb1 : Blk V' tb ts cs.toArray := (hg.block tb h1.lt (fun e => by have := (hv tb e.symm).2; omega)).trans h1
    exact hb1.setO ht _ _
  · obtain ⟨m, h4, h5⟩ := h3 i v hv2
    refine ⟨m, own_set2 (own_kept2 h4 hg (fun g hgv e => ?_)) ht2, fun g hgv => ?_⟩
    · have e1 := h5 g hgv
      rw [(hv g e.symm).1] at e1
      injection e1 with e1 _
      exact hq e1.symm
    · unfold own2
      rw [if_pos (ownsRow_lt h4 hgv).2]
      exact h5 g hgv
theorem Tb.push {w V V' : World} {base q tb k n i m : Nat} {own : Own} {ts e : TypeId} {F : Nat → List Value} {v v' : Value} {ys : List Value} (h : Tb w base own q tb ts e k n F) (hi : i < n) (hb : Below w.heap.size w V) (hg : V.grownBy V' v.ownBlock) (hv : ∀ g, v.ownBlock = some g → own g = (q, i) ∧ base ≤ g)
    (ho : V'.ownsRow base e k v' m (F i ++ ys)) (hor : v'.ownBlock = v.ownBlock ∨ v'.ownBlock = some V.heap.size) :
    Tb (V'.setCell ⟨tb, i, none⟩ v') base (own2 V own q i) q tb ts e k n (fun j => if j = i then F i ++ ys else F j) := by
  have hl := h.lt
  obtain ⟨cs, h1, h2, h3⟩ := (h.below hb).ex
  have hb1 : Blk V' tb ts cs.toArray := (hg.block tb h1.lt (fun e => by have := (hv tb e.symm).2; omega)).trans h1
  refine ⟨⟨cs.set i v', ?_, by rw [List.length_set, h2], fun j u hu => ?_⟩, h.lt⟩
  · have := hb1.set i v'
    simpa using this
  · by_cases hj : j = i
    · subst hj
      rw [List.getElem?_set_self (by omega)] at hu
      injection hu with hu
      subst hu
      rw [if_pos rfl]
      refine ⟨m, own_set2 ho hl, fun g hgv => ?_⟩
      unfold own2
      split
      · rename_i hlt
        rcases hor with e | e
        · exact (hv g (by rw [← e]; exact hgv)).1
        · rw [e] at hgv
          injection hgv with hgv
          omega
      · rfl
    · rw [List.getElem?_set_ne (fun e => hj e.symm)] at hu
      rw [if_neg hj]
      obtain ⟨m2, h4, h5⟩ := h3 j u hu
      refine ⟨m2, own_set2 (own_kept2 h4 hg (fun g hgv e => ?_)) hl, fun g hgv => ?_⟩
      · have e1 := h5 g hgv
        rw [(hv g e.symm).1] at e1
        injection e1 with _ e1
        exact hj e1.symm
      · unfold own2
        rw [if_pos (ownsRow_lt h4 hgv).2]
        exact h5 g hgv
/-- a new table: n empty rows -/
theorem Tb.new (w : World) (base n k q tb : Nat) (own : Own) (ts e : TypeId) (h : Blk w tb ts (Array.replicate n (Value.slice none 0 0))) (hl : tb < base) : Tb w base own q tb ts e k n (fun _ => []) := by
  refine ⟨⟨List.replicate n (.slice none 0 0), by simpa using h, List.length_replicate, fun i v hv => ?_⟩, hl⟩
  rw [List.getElem?_replicate] at hv
  split at hv
  · injection hv with hv
    subst hv
    exact ⟨0, ⟨by simp, .inl ⟨rfl, rfl⟩⟩, fun g hg => by simp [Value.ownBlock] at hg⟩
  · cases hv
/-- a row of alarms that is nobody's slot -/
structure RowO (w : World) (base : Nat) (own : Own) (v : Value) (n : Nat) (xs : List Value) : Prop where
  row : RowN 2 w v n xs
  ex : 0 < n → ∀ ad n' c, v = .slice (some ad) n' c → base ≤ ad.block ∧ own ad.block = (9, 0)
theorem RowN.empty {k : Nat} {w w' : World} {v : Value} {xs : List Value} (h : RowN k w v 0 xs) : RowN k w' v 0 xs := by
  obtain ⟨h0, A, c, h1, h2, h3, h4⟩ := h
  have hx : xs = [] := List.eq_nil_of_length_eq_zero (by simpa using h0)
  subst hx
  refine ⟨h0, A, c, h1, h2, h3, ?_⟩
  rcases h4 with h4 | ⟨ad, h5, _⟩
  · exact .inl h4
  · exact .inr ⟨ad, h5, fun h => by simp at h, fun i x hx => by simp at hx⟩
theorem RowO.lt {w : World} {base n : Nat} {own : Own} {v : Value} {xs : List Value} (h : RowO w base own v n xs) (hn : 0 < n) {ad : Addr} {n' c : Nat} (e : v = .slice (some ad) n' c) : ad.block < w.heap.size := by
  obtain ⟨h0, A, c, h1, h2, h3, h4⟩ := h.row
  rcases h4 with ⟨_, h4⟩ | ⟨ad', h5, h6, _⟩
  · omega
  · rw [e] at h1
    injection h1 with h1 _ _
    rw [h5] at h1
    injection h1 with h1
    subst h1
    exact h6 (by omega)
theorem RowO.below {w w' : World} {base n : Nat} {own : Own} {v : Value} {xs : List Value} (h : RowO w base own v n xs) (hb : Below w.heap.size w w') : RowO w' base own v n xs := ⟨h.row.below hb, h.ex⟩
theorem RowO.other {w V V' : World} {base q i tb n : Nat} {own : Own} {v u : Value} {xs : List Value} {vb : Option Nat} (h : RowO w base own v n xs) (hb : Below w.heap.size w V) (hg : V.grownBy V' vb) (hv : ∀ g, vb = some g → own g = (q, i) ∧ base ≤ g) (hq : q ≠ 9) (ht : tb < base) :
    RowO (V'.setCell ⟨tb, i, none⟩ u) base (own2 V own q i) v n xs := by
  rcases Nat.eq_zero_or_pos n with rfl | hn
  · exact ⟨h.row.empty, fun hn => by omega⟩
  · have hV := h.below hb
    refine ⟨?_, fun _ ad n' c e => ?_⟩
    · have hk : Kp V tb vb (V'.setCell ⟨tb, i, none⟩ u) := ((Kp.refl V tb vb).grown hg).set u
      have ho : Only (tb :: vb.toList) V (V'.setCell ⟨tb, i, none⟩ u) := ⟨hk.os, hk.tape, hk.output, hk.size, fun b hb hn => hk.block b hb (fun e => hn (by simp [e])) (fun e => hn (by rw [← e]; simp))⟩
      refine hV.row.only ho (fun ad n' c e hm => ?_)
      obtain ⟨h1, h2⟩ := h.ex hn ad n' c e
      rcases List.mem_cons.1 hm with hm | hm
      · omega
      · have := (hv _ (by simpa using hm)).1
        rw [h2] at this
        injection this with this _
        exact hq this.symm
    · obtain ⟨h1, h2⟩ := h.ex hn ad n' c e
      refine ⟨h1, ?_⟩
      unfold own2
      rw [if_pos (hV.lt hn e)]
      exact h2
/-- five tables -/
structure Spec where
  tb : Nat → Nat
  ts : Nat → TypeId
  e : Nat → TypeId
  k : Nat → Nat
  n : Nat → Nat
structure Jar (w : World) (base : Nat) (own : Own) (S : Spec) (F : Nat → Nat → List Value) : Prop where
  tbl : ∀ q, q < 5 → Tb w base own q (S.tb q) (S.ts q) (S.e q) (S.k q) (S.n q) (F q)
  inj : ∀ p q, p < 5 → q < 5 → p ≠ q → S.tb p ≠ S.tb q
  base : base ≤ w.heap.size
theorem Jar.congr {w : World} {base : Nat} {own : Own} {S : Spec} {F G : Nat → Nat → List Value} (h : Jar w base own S F) (he : ∀ q i, q < 5 → i < S.n q → F q i = G q i) : Jar w base own S G := ⟨fun q hq => (h.tbl q hq).congr (fun i hi => he q i hq hi), h.inj, h.base⟩
theorem Jar.below {w w' : World} {base : Nat} {own : Own} {S : Spec} {F : Nat → Nat → List Value} (h : Jar w base own S F) (hb : Below w.heap.size w w') : Jar w' base own S F := ⟨fun q hq => (h.tbl q hq).below hb, h.inj, Nat.le_trans h.base hb.size⟩
theorem Jar.fr {w w' : World} {base lo hi : Nat} {own : Own} {S : Spec} {F : Nat → Nat → List Value} (h : Jar w base own S F) (f : Fr lo hi w w') (ht : ∀ q, q < 5 → hi ≤ S.tb q) : Jar w' base own S F := ⟨fun q hq => (h.tbl q hq).fr f (ht q hq), h.inj, Nat.le_trans h.base f.size⟩
theorem Jar.mono {w : World} {base : Nat} {own own2 : Own} {S : Spec} {F : Nat → Nat → List Value} (h : Jar w base own S F) (ho : ∀ g, g < w.heap.size → own2 g = own g) : Jar w base own2 S F := ⟨fun q hq => (h.tbl q hq).mono ho, h.inj, h.base⟩
theorem Jar.push {w V V' : World} {base q i m : Nat} {own : Own} {S : Spec} {F : Nat → Nat → List Value} {v v' : Value} {ys : List Value} (h : Jar w base own S F) (hq : q < 5) (hi : i < S.n q) (hb : Below w.heap.size w V) (hg : V.grownBy V' v.ownBlock) (hv : ∀ g, v.ownBlock = some g → own g = (q, i) ∧ base ≤ g)
    (ho : V'.ownsRow base (S.e q) (S.k q) v' m (F q i ++ ys)) (hor : v'.ownBlock = v.ownBlock ∨ v'.ownBlock = some V.heap.size) :
    Jar (V'.setCell ⟨S.tb q, i, none⟩ v') base (own2 V own q i) S (fun p j => if p = q ∧ j = i then F q i ++ ys else F p j) := by
  refine ⟨fun p hp => ?_, h.inj, by have := h.base; have := hb.size; have := hg.size; simp [World.setCell]; omega⟩
  by_cases e : p = q
  · subst e
    refine ((h.tbl p hp).push hi hb hg hv ho hor).congr (fun j hj => ?_)
    by_cases hji : j = i
    · rw [if_pos hji, if_pos ⟨rfl, hji⟩]
    · rw [if_neg hji, if_neg (fun h => hji h.2)]
  · refine ((h.tbl p hp).other hb hg hv e (h.inj p q hp hq e) (h.tbl q hq).lt).congr (fun j hj => ?_)
    rw [if_neg (fun h => e h.1)]
end Go.Proofs.Ytcdmojimdiiepaa
