/- Layer 14: tools of the laws. -/
import Derived.Test.YtgklbmhihfmagaaBatchH
import Derived.Test.YtgklbmhihfmagaaBatchU
import Derived.Test.YtgklbmhihfmagaaBatchW
import Derived.Test.YtgklbmhihfmagaaBatchV
import Derived.Handy
namespace Go.Proofs.Ytgklbmhihfmagaa
open Go.ChangeShapes Go.WideShapes Go.ChangeAt Go.RowKit Go.Deep
set_option linter.unusedVariables false
set_option linter.unusedSimpArgs false

theorem own_mono {w : World} {base b2 k n : Nat} {e : TypeId} {v : Value} {xs : List Value} (h : w.ownsRow base e k v n xs) (hb : b2 ≤ base) : w.ownsRow b2 e k v n xs := by
  obtain ⟨h1, h2⟩ := h
  rcases h2 with h2 | ⟨g, cap, cur, hv, hbg, hrest⟩
  · exact ⟨h1, .inl h2⟩
  · exact ⟨h1, .inr ⟨g, cap, cur, hv, Nat.le_trans hb hbg, hrest⟩⟩
theorem own_shapeX {w : World} {base : Nat} {e : TypeId} {k n : Nat} {v : Value} {xs : List Value} (h : w.ownsRow base e k v n xs) : ∃ A c, v = .slice A n c ∧ n ≤ c ∧ c ≤ maxLen := by
  obtain ⟨_, h2⟩ := h
  rcases h2 with ⟨rfl, rfl⟩ | ⟨g1, cap, cur, rfl, _, _, h3, h4, _⟩
  · exact ⟨none, 0, rfl, Nat.le_refl _, Nat.zero_le _⟩
  · exact ⟨_, cap, rfl, h3, h4⟩
theorem prow_own {w w0 : World} {base n : Nat} {A : Option Addr} {c : Nat} {O l : List PV} {vl : Value} (h : w.ownsRow base 31 6 (.slice A n c) n (tk f6 O)) (hn : n = O.length) (hl : PRow w0 vl l) (hb : Below w0.heap.size w0 w) (hs : ∀ x ∈ O, x ∈ l) : PRow w (.slice A n c) O := by
  subst hn
  exact ⟨⟨A, c, rfl⟩, RowN.of_own h, fun x hx => (hl.2.2 x (hs x hx)).below hb⟩
theorem elPk : Elem Try.prog 23 31 6 64 := Elem.mk' (z := .agg #[.int .i64 0, .int .i64 0, .int .i64 0, .int .i64 0, .int .i64 0, .slice none 0 0]) (by kernel_rfl) (by kernel_rfl) rfl (by decide)
theorem RowN.suf {α : Type} {f : α → List Value} {k n m : Nat} (hk : ∀ a, (f a).length = k) {w : World} {ad : Addr} {c : Nat} {L : List α} (h : RowN k w (.slice (some ad) n c) n (tk f L)) (hn : n = L.length) (hm : m ≤ n) : RowN k w (.slice (some (ad.add (m * k))) (n - m) (c - m)) (n - m) (tk f (L.drop m)) := by
  obtain ⟨h0, A', c', e, hc, hmx, hA⟩ := h
  injection e with e1 _ e2
  subst e1 e2
  refine ⟨by rw [tk_len hk, List.length_drop, hn], some (ad.add (m * k)), c - m, rfl, by omega, by omega, ?_⟩
  rcases hA with ⟨h, _⟩ | ⟨ad', e, hb, hcell⟩
  · cases h
  · injection e with e
    subst e
    refine .inr ⟨_, rfl, fun hp => ?_, fun i u hu => ?_⟩
    · rw [block_add]
      refine hb ?_
      rw [tk_drop hk, List.length_drop] at hp
      omega
    · rw [Go.Deep.add_add]
      refine hcell _ _ ?_
      rw [tk_drop hk, List.getElem?_drop] at hu
      exact hu
theorem wp_one6 {a : Act} {w : World} {next : Act → World → Prop} {Q : Exit → Act → World → Prop} {r : Nat} {d : Option Nat} {ty : TypeId} {pos : String} {af : Array Edge} {gd : Option (Nat × Bool)} {v0 v1 v2 v3 v4 v5 : Value} (hv : a.eval (.tmp r) = .agg #[v0, v1, v2, v3, v4, v5])
    (hn : next (a.put d (.slice (some ⟨w.heap.size, 0, none⟩) 1 1)) (w.alloc (.cells #[v0, v1, v2, v3, v4, v5] 31))) :
    Oper.wp Try.prog ⟨d, .buildSlice 23 1 #[(0, .tmp r)], ty, pos, af, gd⟩ a w next Q := by
  unfold Oper.wp
  have h : (execOp a.eval ⟨d, .buildSlice 23 1 #[(0, .tmp r)], ty, pos, af, gd⟩).run Try.prog w = .ok (.value (.slice (some ⟨w.heap.size, 0, none⟩) 1 1)) (w.alloc (.cells #[v0, v1, v2, v3, v4, v5] 31)) := by
    generalize a.eval = ev at hv
    simp only [execOp]
    show (Instr.buildSlice _ _ _ >>= _ : Sem Next).run _ _ = _
    simp [hv, go_sem]
  rw [h]
  exact hn
set_option maxRecDepth 100000 in
theorem wpList_one6 {a : Act} {w : World} {ops : Array Oper} {rest : List Oper} {Q : Exit → Act → World → Prop} {r : Nat} {d : Option Nat} {ty : TypeId} {pos : String} {af : Array Edge} {v0 v1 v2 v3 v4 v5 : Value} (hv : a.eval (.tmp r) = .agg #[v0, v1, v2, v3, v4, v5])
    (hn : wpList Try.prog ops Q rest (a.put d (.slice (some ⟨w.heap.size, 0, none⟩) 1 1)) (w.alloc (.cells #[v0, v1, v2, v3, v4, v5] 31))) :
    wpList Try.prog ops Q (⟨d, .buildSlice 23 1 #[(0, .tmp r)], ty, pos, af, none⟩ :: rest) a w := by
  refine wpList_plain rfl ?_
  intro K hK
  exact wp_one6 hv (hK _ _ hn)
section
variable {w : World}
/-- a row cut short -/
theorem PRow.pre {l : List PV} {A : Option Addr} {n c m : Nat} (h : PRow w (.slice A n c) l) (hm : m ≤ l.length) : PRow w (.slice A m c) (l.take m) := by
  obtain ⟨⟨A1, c1, e⟩, h2, h3⟩ := h
  injection e with e1 e2 e3
  subst e2
  have h4 := h2.pre hm
  rw [← tk_take f6_len] at h4
  have hl : (l.take m).length = m := by rw [List.length_take]; omega
  refine ⟨⟨A, c, by rw [hl]⟩, ?_, fun x hx => h3 x (List.mem_of_mem_take hx)⟩
  rw [hl]
  exact h4
theorem PRow.caps {l : List PV} {A : Option Addr} {n c : Nat} (h : PRow w (.slice A n c) l) : n = l.length ∧ l.length ≤ c ∧ c ≤ 9223372036854775807 := by
  obtain ⟨⟨A1, c1, e⟩, h2, h3⟩ := h
  injection e with e1 e2 e3
  subst e2
  have := h2.caps
  unfold maxLen at this
  exact ⟨rfl, by omega, by omega⟩
/-- packets that stand in a row of one's own -/
theorem PRow.of_own {base n : Nat} {A : Option Addr} {c : Nat} {O : List PV} (h : w.ownsRow base 31 6 (.slice A n c) n (tk f6 O)) (hn : n = O.length) (hs : ∀ x ∈ O, Ints .i64 w x.vs x.p.vals) : PRow w (.slice A n c) O := by
  subst hn
  exact ⟨⟨A, c, rfl⟩, RowN.of_own h, hs⟩
end
end Go.Proofs.Ytgklbmhihfmagaa
