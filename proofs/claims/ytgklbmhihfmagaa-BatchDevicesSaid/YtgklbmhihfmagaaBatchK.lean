/- Layer 14: packets, each once: the mathematics, and which are known. -/
import Derived.Test.YtgklbmhihfmagaaBatchT
import Derived.Test.YtgklbmhihfmagaaBatchS
import Derived.Test.YtgklbmhihfmagaaPackF
import Derived.Maps.OwnSet
import Derived.StringKeys
namespace Go.Proofs.Ytgklbmhihfmagaa
open Go.ChangeShapes Go.WideShapes Go.ChangeAt Go.RowKit Go.Deep
open Go.Maps (Keyed IsMap)
open Go.WideMaps (keyOf_string_mk)
set_option linter.unusedVariables false
set_option linter.unusedSimpArgs false

structure En where
  x : PV
  k : Int
  n : Int
  s : ByteArray
instance : Inhabited En := ⟨⟨default, 0, 0, ByteArray.empty⟩⟩
def f9 (e : En) : List Value := [.int .i64 e.x.p.dev, .int .i64 e.x.p.chan, .int .i64 e.x.p.boot, .int .i64 e.x.p.seq, .int .i64 e.x.p.stamp, e.x.vs, .int .i64 e.k, .int .i64 e.n, .string e.s]
theorem f9_len (e : En) : (f9 e).length = 9 := rfl
theorem f9_one (e : En) : ∀ u ∈ f9 e, u.oneCell' = true := by
  intro u hu
  simp [f9, PV.vs] at hu
  rcases hu with rfl | rfl | rfl | rfl | rfl | rfl | rfl | rfl | rfl <;> rfl
def enOf (ts : List Tk) (x : PV) : En := ⟨x, kt ts x.p, nm ts x.p, bstr x.p.data⟩
def onceL (l : List PV) : List PV := l.foldl (fun o x => if x.p ∈ o.map PV.p then o else o ++ [x]) []
theorem onceL_snoc (l : List PV) (x : PV) : onceL (l ++ [x]) = if x.p ∈ (onceL l).map PV.p then onceL l else onceL l ++ [x] := by simp [onceL]
theorem onceL_facts : ∀ (l o : List PV), (o.map PV.p).Nodup →
    ((l.foldl (fun o x => if x.p ∈ o.map PV.p then o else o ++ [x]) o).map PV.p).Nodup ∧ (∀ x ∈ l.foldl (fun o x => if x.p ∈ o.map PV.p then o else o ++ [x]) o, x ∈ o ∨ x ∈ l) ∧
    (∀ p, p ∈ (l.foldl (fun o x => if x.p ∈ o.map PV.p then o else o ++ [x]) o).map PV.p ↔ p ∈ o.map PV.p ∨ p ∈ l.map PV.p) ∧ (l.foldl (fun o x => if x.p ∈ o.map PV.p then o else o ++ [x]) o).length ≤ o.length + l.length := by
  intro l
  induction l with
  | nil => intro o h; exact ⟨h, fun x hx => .inl hx, fun p => by simp, by simp⟩
  | cons y l ih =>
    intro o h
    rw [List.foldl_cons]
    by_cases c : y.p ∈ o.map PV.p
    · rw [if_pos c]
      obtain ⟨h1, h2, h3, h4⟩ := ih o h
      refine ⟨h1, fun x hx => (h2 x hx).imp id (fun h => by simp [h]), fun p => ?_, by rw [List.length_cons]; omega⟩
      rw [h3]
      simp only [List.map_cons, List.mem_cons]
      constructor
      · rintro (h | h)
        · exact .inl h
        · exact .inr (.inr h)
      · rintro (h | h | h)
        · exact .inl h
        · subst h; exact .inl c
        · exact .inr h
    · rw [if_neg c]
      obtain ⟨h1, h2, h3, h4⟩ := ih (o ++ [y]) (by
        rw [List.map_append, List.map_singleton]
        exact List.nodup_append.2 ⟨h, by simp, fun a ha b hb e => by simp at hb; subst hb; subst e; exact c ha⟩)
      refine ⟨h1, fun x hx => ?_, fun p => ?_, by rw [List.length_append, List.length_singleton] at h4; rw [List.length_cons]; omega⟩
      · rcases h2 x hx with h | h
        · rcases List.mem_append.1 h with h | h
          · exact .inl h
          · simp at h; subst h; exact .inr (by simp)
        · exact .inr (by simp [h])
      · rw [h3]
        simp only [List.map_append, List.map_cons, List.map_nil, List.mem_append, List.mem_cons, List.not_mem_nil, or_false]
        constructor
        · rintro ((h | h) | h)
          · exact .inl h
          · exact .inr (.inl h)
          · exact .inr (.inr h)
        · rintro (h | h | h)
          · exact .inl (.inl h)
          · exact .inl (.inr h)
          · exact .inr h
theorem onceL_nodup (l : List PV) : ((onceL l).map PV.p).Nodup := (onceL_facts l [] List.nodup_nil).1
theorem onceL_sub (l : List PV) : ∀ x ∈ onceL l, x ∈ l := fun x hx => ((onceL_facts l [] List.nodup_nil).2.1 x hx).resolve_left (by simp)
theorem onceL_mem (l : List PV) (p : Pk) : p ∈ (onceL l).map PV.p ↔ p ∈ l.map PV.p := by
  have := (onceL_facts l [] List.nodup_nil).2.2.1 p
  rw [show onceL l = l.foldl (fun o x => if x.p ∈ o.map PV.p then o else o ++ [x]) [] from rfl, this]
  simp
theorem onceL_len (l : List PV) : (onceL l).length ≤ l.length := by
  have := (onceL_facts l [] List.nodup_nil).2.2.2
  rw [show onceL l = l.foldl (fun o x => if x.p ∈ o.map PV.p then o else o ++ [x]) [] from rfl]
  simpa using this

abbrev keyL (p : Pk) : Lit := .string (bstr p.data).data.toList
theorem keyL_inj {p q : Pk} (hp : p.right) (hq : q.right) (h : keyL p = keyL q) : p = q := by
  injection h with h
  rw [bstr_data, bstr_data] at h
  exact (data_inj p q hp hq).mp (bytes_inj (data_range p) (data_range q) h)
/-- the map in block b knows the packets of o -/
def Known (w : World) (b n : Nat) (o : List Pk) : Prop :=
  ∃ D : DataW Unit, w.ownsMap Try.prog 9 (plainElem Try.prog 4) b n D ∧ IsMap D ∧ ∀ p : Pk, p.right → D.atKey (keyL p) (.lit (.bool false)) = .lit (.bool (decide (p ∈ o)))
set_option maxRecDepth 100000 in
theorem plainBool_inv {v : Value} {z : DataW Unit × List MemPlace} (h : plainElem Try.prog 4 v = some z) : ∃ x, v = .bool x ∧ z = (.lit (.bool x), []) := by
  unfold plainElem at h
  rw [Try.underlying4] at h
  cases v <;> simp at h
  exact ⟨_, rfl, h.symm⟩
theorem zeroB (w : World) : (zeroValue 4).run Try.prog w = .ok (.bool false) w := by kernel_rfl
theorem bstr_size (p : Pk) (hp : p.right) : (bstr p.data).size ≤ maxLen := by
  have h1 := congrArg List.length (bstr_data p.data)
  rw [List.length_map, data_len] at h1
  have h2 := hp.2.1.2
  have : (bstr p.data).size = (bstr p.data).data.toList.length := rfl
  rw [this, h1]
  unfold maxLen
  omega
section
variable {w w' : World} {b n : Nat} {o : List Pk}
theorem Known.new (w : World) : Known (w.alloc (.map #[] 0)) w.heap.size 0 [] :=
  ⟨.map [], World.ownsMap_made _ _ _ _, ⟨_, rfl⟩, fun p _ => by simp [DataW.atKey]⟩
theorem Known.lt (h : Known w b n o) : b < w.heap.size := h.elim fun D hD => hD.1.lt
theorem Known.kept {row : Option Nat} (h : Known w b n o) (hg : w.grownBy w' row) (hne : some b ≠ row) : Known w' b n o := by
  obtain ⟨D, h1, h2⟩ := h
  exact ⟨D, h1.kept hg hne, h2⟩
theorem Known.below (h : Known w b n o) (hb : Below w.heap.size w w') : Known w' b n o := by
  have hl := h.lt
  obtain ⟨D, ⟨es, clock, h1, h2⟩, h3⟩ := h
  exact ⟨D, ⟨es, clock, (hb.block b hl).trans h1, h2⟩, h3⟩
theorem Known.only {s : List Nat} (h : Known w b n o) (hb : Only s w w') (hs : b ∉ s) : Known w' b n o := by
  have hl := h.lt
  obtain ⟨D, ⟨es, clock, h1, h2⟩, h3⟩ := h
  exact ⟨D, ⟨es, clock, (hb.block b hl hs).trans h1, h2⟩, h3⟩
set_option maxRecDepth 100000 in
theorem Known.run (h : Known w b n o) {p : Pk} (hp : p.right) : (Instr.lookup 65 (.map (some b)) (.string (bstr p.data)) false).run Try.prog w = .ok (.bool (decide (p ∈ o))) w := by
  obtain ⟨D, h1, h2, h3⟩ := h
  obtain ⟨v, ps, hrun, hv⟩ := h1.lookup (Maps.string_keyed Try.underlying9) Try.underlying65 (zeroB w) (plainElem_bool Try.underlying4 false) (keyOf_string_mk Try.underlying9 (bstr_size p hp))
  obtain ⟨x, rfl, hx⟩ := plainBool_inv hv
  rw [hrun]
  have e := congrArg Prod.fst hx
  rw [h3 p hp] at e
  injection e with e
  injection e with e
  rw [e]
end
section
variable {P : Program} {w : World} {ops : Array Oper} {rest : List Oper} {o : Oper} {a : Act} {Q : Exit → Act → World → Prop}
theorem wpList_look (hg : o.guard = none) (m x : Operand) (hop : o.op = Op.lookup 65 m x false) {b n : Nat} {ks : List Pk} {p : Pk} (hm : a.eval m = .map (some b)) (hx : a.eval x = .string (bstr p.data)) (h : Known w b n ks) (hp : p.right) (bb : Bool) (hbb : decide (p ∈ ks) = bb)
    (hK : wpList Try.prog ops Q rest (a.put o.dst (.bool bb)) w) : wpList Try.prog ops Q (o :: rest) a w := by
  refine wpList_plain hg fun K' hK' => ?_
  have hrun := h.run hp
  rw [hbb] at hrun
  unfold Oper.wp
  simp [execOp, hop, hm, hx, hrun, Result.andThen]
  exact hK' _ _ hK
theorem wpList_put (hg : o.guard = none) (m x v : Operand) (hop : o.op = Op.mapUpdate 65 m x v) {b n : Nat} {ks : List Pk} {p : Pk} (hm : a.eval m = .map (some b)) (hx : a.eval x = .string (bstr p.data)) (hv : a.eval v = .bool true) (h : Known w b n ks) (hp : p.right) (hn : n < maxLen)
    (hK : ∀ w', Known w' b (n + 1) (ks ++ [p]) → w.grownBy w' (some b) → wpList Try.prog ops Q rest (a.put o.dst undef) w') : wpList Try.prog ops Q (o :: rest) a w := by
  obtain ⟨D, h1, h2, h3⟩ := h
  refine wpList_mapUpdate_own w hg m x v _ hop 9 4 (Maps.string_keyed Try.underlying9) Try.underlying65 _ b n D hm h1 hn _ _ (keyL p) hx hv (keyOf_string_mk Try.underlying9 (bstr_size p hp)) (.lit (.bool true)) [] (plainElem_bool Try.underlying4 true) fun w' k1 k2 => ?_
  have hkl : WideAt.IsKeyLit (keyL p) := by trivial
  refine hK w' ⟨_, k1, k1.isMap, fun q hq => ?_⟩ k2
  by_cases e : q = p
  · subst e
    rw [Maps.atKey_put_same h2 hkl]
    simp
  · rw [Maps.atKey_put_other (fun h => e (keyL_inj hq hp h)), h3 q hq]
    simp [e]
end
theorem elE : Elem Try.prog 46 51 9 96 := Elem.mk' (z := .agg #[.int .i64 0, .int .i64 0, .int .i64 0, .int .i64 0, .int .i64 0, .slice none 0 0, .int .i64 0, .int .i64 0, .string ByteArray.empty]) (by kernel_rfl) (by kernel_rfl) rfl (by decide)
end Go.Proofs.Ytgklbmhihfmagaa
