/- Layer 18: tools; two rules joined. -/
import Derived.Test.YtcdmojimdiiepaaRuleIV
import Derived.Test.YtcdmojimdiiepaaReg
import Derived.StillTailTactics
namespace Go.Proofs.Ytcdmojimdiiepaa
open Go.ChangeShapes Go.WideShapes Go.ChangeAt Go.RowKit
set_option linter.unusedVariables false
set_option linter.unusedSimpArgs false

/-- Nothing but the blocks of s has turned. -/
structure Only (s : List Nat) (w w' : World) : Prop where
  os : w'.os = w.os
  tape : w'.tape = w.tape
  output : w'.output = w.output
  size : w.heap.size ≤ w'.heap.size
  block : ∀ b, b < w.heap.size → b ∉ s → w'.heap[b]? = w.heap[b]?
theorem Only.refl (s : List Nat) (w : World) : Only s w w := ⟨rfl, rfl, rfl, Nat.le_refl _, fun _ _ _ => rfl⟩
theorem Only.trans {s : List Nat} {a b c : World} (h : Only s a b) (k : Only s b c) : Only s a c :=
  ⟨k.os.trans h.os, k.tape.trans h.tape, k.output.trans h.output, Nat.le_trans h.size k.size, fun i hi hg => (k.block i (Nat.lt_of_lt_of_le hi h.size) hg).trans (h.block i hi hg)⟩
theorem Only.of_below (s : List Nat) {a b : World} (h : Below a.heap.size a b) : Only s a b := ⟨h.os, h.tape, h.output, h.size, fun i hi _ => h.block i hi⟩
theorem Only.drew {s : List Nat} {a b : World} (h : Only s a b) (n : Nat) : Only s a (b.drewN n) := ⟨h.os, h.tape, h.output, h.size, h.block⟩
theorem Only.below {s : List Nat} {B : Nat} {a b c : World} (h : Below B a b) (hB : B ≤ b.heap.size) (k : Only s b c) (hs : ∀ x ∈ s, B ≤ x) : Below B a c :=
  h.trans ⟨k.os, k.tape, k.output, k.size, fun i hi => k.block i (by omega) (fun hm => by have := hs i hm; omega)⟩
theorem Only.setCell {s : List Nat} {a b : World} (h : Only s a b) {p : Addr} (hp : p.block ∈ s) (u : Value) : Only s a (b.setCell p u) :=
  h.trans ⟨rfl, rfl, rfl, by simp [World.setCell], fun i hi hn => Below.heap_setCell _ _ _ _ (fun e => hn (e ▸ hp))⟩
theorem Blk.only {w w' : World} {s : List Nat} {b : Nat} {t : TypeId} {cs : Array Value} (h : Blk w b t cs) (k : Only s w w') (hne : b ∉ s) : Blk w' b t cs := (k.block b h.lt hne).trans h

theorem nameV {K : Act → World → Prop} {a : Act} {W0 : World} (R : World → Prop) (h0 : R W0) (h : ∀ W, R W → K a W) : K a W0 := h _ h0
theorem own_emptyN (w : World) (base n k : Nat) (e : TypeId) (hb : base ≤ w.heap.size) (hn : n = w.heap.size) : (w.alloc (.cells #[] e)).ownsRow base e k (.slice (some ⟨n, 0, none⟩) 0 0) 0 [] := by
  subst hn
  exact ⟨by simp, .inr ⟨w.heap.size, 0, #[], rfl, hb, heap_alloc_new _ _, Nat.le_refl _, Nat.zero_le _, by simp, by simp⟩⟩
theorem own_lt {w : World} {base : Nat} {e : TypeId} {k n : Nat} {v : Value} {xs : List Value} (h : w.ownsRow base e k v n xs) {g : Nat} (hg : v.ownBlock = some g) : g < w.heap.size := by
  obtain ⟨_, h2⟩ := h
  rcases h2 with ⟨rfl, _⟩ | ⟨g1, cap, cur, rfl, _, hgg, _⟩
  · simp [Value.ownBlock] at hg
  · simp [Value.ownBlock] at hg
    subst hg
    exact (Array.getElem?_eq_some_iff.1 hgg).1
theorem elT : Elem Try.prog 48 103 3 24 := Elem.mk' (z := .agg #[.int .i64 0, .int .i64 0, .int .i64 0]) (by kernel_rfl) (by kernel_rfl) rfl (by decide)
theorem c3_app (l m : List Cl) : c3c (l ++ m) = c3c l ++ c3c m := by simp [c3c]
theorem c3_one (l : List Cl) : ∀ u ∈ c3c l, u.oneCell' = true := by
  intro u hu
  obtain ⟨a, _, h⟩ := List.mem_flatMap.1 hu
  simp only [List.mem_cons, List.not_mem_nil, or_false] at h
  rcases h with rfl | rfl | rfl <;> rfl
theorem c3_take (l : List Cl) (m : Nat) (h : m ≤ l.length) : c3c (l.take m) = (c3c l).take (m * 3) := by
  have e := c3_app (l.take m) (l.drop m)
  rw [List.take_append_drop] at e
  rw [e, List.take_left']
  rw [c3c_len, List.length_take, Nat.min_eq_left h]
theorem RowN.pre {k : Nat} {w : World} {A : Option Addr} {c n m : Nat} {xs : List Value} (h : RowN k w (.slice A n c) n xs) (hm : m ≤ n) : RowN k w (.slice A m c) m (xs.take (m * k)) := by
  obtain ⟨h0, A', c', e, hc, hmx, hA⟩ := h
  injection e with e1 _ e2
  subst e1 e2
  refine ⟨by rw [List.length_take, h0]; exact Nat.min_eq_left (Nat.mul_le_mul_right k hm), A, c, rfl, by omega, hmx, ?_⟩
  rcases hA with ⟨rfl, h⟩ | ⟨ad, rfl, hb, hcell⟩
  · exact .inl ⟨rfl, by omega⟩
  · refine .inr ⟨ad, rfl, fun hp => hb ?_, fun i u hu => hcell i u ?_⟩
    · rw [List.length_take] at hp; omega
    · rw [List.getElem?_take] at hu
      split at hu
      · exact hu
      · cases hu
theorem RowN.caps {k : Nat} {w : World} {A : Option Addr} {c n : Nat} {xs : List Value} (h : RowN k w (.slice A n c) n xs) : n ≤ c ∧ c ≤ maxLen := by
  obtain ⟨_, A', c', e, hc, hm, _⟩ := h
  injection e with _ _ e2
  subst e2
  exact ⟨hc, hm⟩
theorem ne_some {w : World} {base n k g : Nat} {e : TypeId} {v : Value} {xs : List Value} (h : w.ownsRow base e k v n xs) (hg : g = w.heap.size) : some g ≠ v.ownBlock := fun he => by have := own_lt h he.symm; omega
end Go.Proofs.Ytcdmojimdiiepaa
