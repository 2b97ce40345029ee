/- Rows of structs: each element's cells one behind the other. -/
import Derived.Test.YtaelhgkodcgmnaaDoorMemB
import Derived.Deep.MidRow
namespace Go.Proofs.YtaelhgkodcgmnaaDoor
open Go.ChangeShapes Go.WideShapes Go.ChangeAt Go.RowKit
set_option linter.unusedVariables false
set_option linter.unusedSimpArgs false

/-- The slice v has n elements of k cells each; they read as xs. -/
def RowN (k : Nat) (w : World) (v : Value) (n : Nat) (xs : List Value) : Prop :=
  xs.length = n * k ∧ ∃ A c, v = .slice A n c ∧ n ≤ c ∧ c ≤ maxLen ∧
    ((A = none ∧ c = 0) ∨ ∃ ad, A = some ad ∧ (0 < xs.length → ad.block < w.heap.size) ∧ ∀ i x, xs[i]? = some x → w.cell? (ad.add i) = some x)
section
variable {P : Program} {w w' : World} {v : Value} {xs : List Value} {k n : Nat}
theorem RowN.keep (h : RowN k w v n xs) (hs : w.heap.size ≤ w'.heap.size) (hk : ∀ p : Addr, p.block < w.heap.size → w'.cell? p = w.cell? p) : RowN k w' v n xs := by
  obtain ⟨h0, A, c, h1, h2, h3, h4⟩ := h
  refine ⟨h0, A, c, h1, h2, h3, ?_⟩
  rcases h4 with h4 | ⟨ad, h5, h6, h7⟩
  · exact .inl h4
  · refine .inr ⟨ad, h5, fun h => Nat.lt_of_lt_of_le (h6 h) hs, fun i x hx => ?_⟩
    have hl : 0 < xs.length := by
      rcases Nat.eq_zero_or_pos xs.length with h0 | h0
      · rw [List.eq_nil_of_length_eq_zero h0] at hx; simp at hx
      · exact h0
    rw [hk _ (by rw [block_add]; exact h6 hl)]
    exact h7 i x hx
theorem RowN.below (h : RowN k w v n xs) (hb : Below w.heap.size w w') : RowN k w' v n xs := h.keep hb.size fun _ hp => hb.cell hp
theorem RowN.nil_ : RowN k w (.slice none 0 0) 0 [] := ⟨by simp, none, 0, rfl, Nat.le_refl _, Nat.zero_le _, .inl ⟨rfl, rfl⟩⟩
theorem RowN.of_row (h : Row w v xs) : RowN 1 w v xs.length xs := by
  obtain ⟨A, c, h1, h2, h3, h4⟩ := h
  exact ⟨by simp, A, c, h1, h2, h3, h4⟩
theorem add_zero_addr (g i : Nat) : (Addr.add ⟨g, 0, none⟩ i) = ⟨g, i, none⟩ := by
  unfold Addr.add
  split
  · simp [*]
  · simp
theorem RowN.of_own {base : Nat} {e : TypeId} (h : w.ownsRow base e k v n xs) : RowN k w v n xs := by
  obtain ⟨hl, h⟩ := h
  rcases h with ⟨rfl, rfl⟩ | ⟨g, cap, cur, rfl, hb, hh, hn, hc, hs, ht⟩
  · have : xs = [] := List.eq_nil_of_length_eq_zero (by simpa using hl)
    subst this
    exact RowN.nil_
  · refine ⟨hl, some ⟨g, 0, none⟩, cap, rfl, by omega, hc, .inr ⟨_, rfl, fun _ => ?_, fun i x hx => ?_⟩⟩
    · show g < w.heap.size
      rcases Nat.lt_or_ge g w.heap.size with h1 | h1
      · exact h1
      · rw [Array.getElem?_eq_none h1] at hh; cases hh
    · rw [add_zero_addr, cell_of_row w g i cur e (0, 0) hh]
      rw [← ht] at hx
      rw [List.getElem?_take] at hx
      split at hx
      · simpa using hx
      · cases hx
/-- A row that is a whole block, or its beginning. -/
theorem RowN.of_blk {g c : Nat} {cur : Array Value} {t : TypeId} (hh : Blk w g t cur) (hx : cur.toList.take (n * k) = xs) (hl : xs.length = n * k) (hc : n ≤ c) (hm : c ≤ maxLen) : RowN k w (.slice (some ⟨g, 0, none⟩) n c) n xs := by
  refine ⟨hl, some ⟨g, 0, none⟩, c, rfl, hc, hm, .inr ⟨_, rfl, fun _ => hh.lt, fun i x hi => ?_⟩⟩
  rw [add_zero_addr, hh.cells]
  rw [← hx, List.getElem?_take] at hi
  split at hi
  · simpa using hi
  · cases hi

theorem run_make_rowN (t e : TypeId) (z : Value) (bytes : Nat) (ht : P.underlying t = some (.slice e)) (hinfo : (P.info? e).map (fun i => (i.zero, i.size, i.bytes)) = some (some z, k, bytes))
    (kl kc : IntKind) (n : Nat) (hbytes : bytes * n ≤ 281474976710656) (h63 : n ≤ 9223372036854775807) (w : World) :
    (Instr.makeSlice t (.int kl (n : Int)) (.int kc (n : Int))).run P w = .ok (.slice (some ⟨w.heap.size, 0, none⟩) n n) (w.alloc (.cells (madeCells z.cells (n * k)) e)) := by
  obtain ⟨i, hi, hzz⟩ := Option.map_eq_some_iff.1 hinfo
  simp only [Prod.mk.injEq] at hzz
  obtain ⟨hz, hs, hb⟩ := hzz
  have hb' : (i.bytes : Int) * (n : Int) ≤ 281474976710656 := by
    have h : ((i.bytes * n : Nat) : Int) ≤ 281474976710656 := by rw [hb]; omega
    rwa [Int.natCast_mul] at h
  have hr := run_make (P := P) w t e i z ht hi hz kl kc n n (by omega) (Int.le_refl _) hb' (by omega)
  simp only [Int.toNat_natCast, hs] at hr
  exact hr

theorem madeCells_rep (z : Array Value) (x : Value) (n : Nat) (h : ∀ i, i < z.size → z[i]! = x) (h0 : 0 < z.size) : madeCells z n = (List.replicate n x).toArray := by
  apply Array.ext
  · simp [madeCells]
  · intro i h1 h2
    have hm : i % z.size < z.size := Nat.mod_lt _ h0
    simp [madeCells]
    have := h _ hm
    simpa using this

/-- A struct is read, wherever it lies. -/
theorem run_loadAt_row (a : Addr) (ty : TypeId) (cs : List Value) (d : TypeDesc) (hu : P.underlying ty = some d) (hd : d.isRow = true) (hi : (P.info? ty).map (·.size) = some cs.length)
    (w : World) (hc : ∀ j v, cs[j]? = some v → w.cell? (a.add j) = some v) :
    (Instr.loadAt ty (.pointer (some a))).run P w = .ok (.agg cs.toArray) w := by
  have hl : (loadCells a cs.length).run P w = .ok cs.toArray w := run_loadCells_list (P := P) w a cs hc
  cases hq : P.info? ty with
  | none => simp [hq] at hi
  | some i =>
    have hs : i.size = cs.length := by simpa [hq] using hi
    have hagg : (isAgg ty).run P w = .ok true w := by
      unfold isAgg
      rw [Sem.run_bind, run_underlying hu w]
      cases d <;> simp_all
    simp [Instr.loadAt, Instr.sureAddr, loadVar, Sem.run_bind, hagg, sizeOf, typeInfo, hq, hs, hl]
theorem at2 {w : World} {a : Addr} {i : Nat} {x y : Value} (h1 : w.cell? (a.add i) = some x) (h2 : w.cell? (a.add (i + 1)) = some y) :
    ∀ j v, [x, y][j]? = some v → w.cell? ((a.add i).add j) = some v := by
  intro j v hv
  rw [Go.Deep.add_add]
  match j, hv with
  | 0, hv => simp at hv; subst hv; exact h1
  | 1, hv => simp at hv; subst hv; exact h2

theorem wp_appN {o : Oper} {a : Act} {K : Act → World → Prop} {Q : Exit → Act → World → Prop} {t e : TypeId} {bytes : Nat} (E : Elem P t e k bytes) (s x : Operand)
    (ho : o.op = .call { callee := .builtin .append, args := #[s, x], argTypes := #[t, t] })
    (base : Nat) (v : Value) (n : Nat) (xs : List Value) (hs : a.eval s = v) (hown : w.ownsRow base e k v n xs)
    (vx : Value) (m : Nat) (ys : List Value) (hx : a.eval x = vx) (hr : RowN k w vx m ys) (h1 : ∀ u ∈ ys, u.oneCell' = true)
    (h63 : n + m ≤ maxLen) (hbytes : (n + m) * bytes ≤ 140737488355328) (hbase : base ≤ w.heap.size)
    (h : ∀ v' w', w'.ownsRow base e k v' (n + m) (xs ++ ys) → w.grownBy w' v.ownBlock → (v'.ownBlock = v.ownBlock ∨ v'.ownBlock = some w.heap.size) → K (a.put o.dst v') w') : o.wp P a w K Q := by
  obtain ⟨i, z, hi, hz, hsz, hby, hzs⟩ := E.info
  obtain ⟨h0, A, c, rfl, hc, hm, hA⟩ := hr
  rcases hA with ⟨rfl, rfl⟩ | ⟨ad, rfl, _, hcell⟩
  · obtain rfl : m = 0 := by omega
    have hys : ys = [] := List.eq_nil_of_length_eq_zero (by simpa using h0)
    subst hys
    have hrun := run_append_owned_none (P := P) (w := w) base t o.type e i k E.under hi v n xs hown
    unfold Oper.wp
    simp [execOp, ho, resolve, invoke, builtin, hs, hx, hrun, Result.andThen]
    exact h v w (by simpa using hown) (World.grownBy.refl w _) (.inl rfl)
  · obtain ⟨v', w', hrun, h2, h3, _, h5⟩ := run_append_own_at (P := P) w base t o.type e i z k bytes E.under hi hz hsz hby hzs E.pos v n xs hown ad m c ys h0 hcell h1 h63 hbytes hbase
    unfold Oper.wp execOp
    simp only [ho, resolve, invoke, builtin, Sem.run_bind, Sem.run_pure, Result.andThen_ok, List.map_toArray, List.map_cons, List.map_nil, hs, hx, hrun]
    exact h v' w' h2 h3 h5

theorem wpList_appN {ops : Array Oper} {rest : List Oper} {o : Oper} {a : Act} {Q : Exit → Act → World → Prop} {t e : TypeId} {bytes : Nat} (E : Elem P t e k bytes) (hgd : o.guard = none) (s x : Operand)
    (ho : o.op = .call { callee := .builtin .append, args := #[s, x], argTypes := #[t, t] })
    (base : Nat) (v : Value) (n : Nat) (xs : List Value) (hs : a.eval s = v) (hown : w.ownsRow base e k v n xs)
    (vx : Value) (m : Nat) (ys : List Value) (hx : a.eval x = vx) (hr : RowN k w vx m ys) (h1 : ∀ u ∈ ys, u.oneCell' = true)
    (h63 : n + m ≤ maxLen) (hbytes : (n + m) * bytes ≤ 140737488355328) (hbase : base ≤ w.heap.size)
    (h : ∀ v' w', w'.ownsRow base e k v' (n + m) (xs ++ ys) → w.grownBy w' v.ownBlock → (v'.ownBlock = v.ownBlock ∨ v'.ownBlock = some w.heap.size) → wpList P ops Q rest (a.put o.dst v') w') : wpList P ops Q (o :: rest) a w :=
  wpList_plain hgd fun _ hK => wp_appN E s x ho base v n xs hs hown vx m ys hx hr h1 h63 hbytes hbase fun v' w' h2 h3 h4 => hK _ _ (h v' w' h2 h3 h4)
/-- behind a guard that is met -/
theorem wpList_wanted {ops : Array Oper} {rest : List Oper} {o : Oper} {a : Act} {Q : Exit → Act → World → Prop} (hg : Region.wanted o (yielded ops a.tmps) = true)
    (h : ∀ K : Act → World → Prop, (∀ a w, wpList P ops Q rest a w → K a w) → o.wp P a w K Q) : wpList P ops Q (o :: rest) a w :=
  wpList_step fun K hK => by rw [if_pos hg]; exact h K hK
theorem wpList_appG {ops : Array Oper} {rest : List Oper} {o : Oper} {a : Act} {Q : Exit → Act → World → Prop} {t e : TypeId} {bytes : Nat} (E : Elem P t e 1 bytes) (s x : Operand)
    (ho : o.op = .call { callee := .builtin .append, args := #[s, x], argTypes := #[t, t] })
    (base : Nat) (v : Value) (n : Nat) (xs : List Value) (hs : a.eval s = v) (hown : w.ownsRow base e 1 v n xs)
    (vx : Value) (ys : List Value) (hx : a.eval x = vx) (hr : Row w vx ys) (h1 : ∀ u ∈ ys, u.oneCell' = true) (hgd : Region.wanted o (yielded ops a.tmps) = true)
    (h63 : n + ys.length ≤ maxLen) (hbytes : (n + ys.length) * bytes ≤ 140737488355328) (hbase : base ≤ w.heap.size)
    (h : ∀ v' w', w'.ownsRow base e 1 v' (n + ys.length) (xs ++ ys) → w.grownBy w' v.ownBlock → (v'.ownBlock = v.ownBlock ∨ v'.ownBlock = some w.heap.size) → wpList P ops Q rest (a.put o.dst v') w') : wpList P ops Q (o :: rest) a w :=
  wpList_wanted hgd fun _ hK => wp_app E s x ho base v n xs hs hown vx ys hx hr h1 h63 hbytes hbase fun v' w' h2 h3 h4 => hK _ _ (h v' w' h2 h3 h4)
theorem own_nilN (base : Nat) (e : TypeId) : w.ownsRow base e k (.slice none 0 0) 0 [] := ⟨by simp, .inl ⟨rfl, rfl⟩⟩
end

theorem own_below {w w' : World} {base : Nat} {e : TypeId} {size n : Nat} {v : Value} {xs : List Value} (h : w.ownsRow base e size v n xs) (hb : Below w.heap.size w w') : w'.ownsRow base e size v n xs := by
  obtain ⟨h1, h2⟩ := h
  rcases h2 with h2 | ⟨g, cap, cur, hv, hbg, hgg, hrest⟩
  · exact ⟨h1, .inl h2⟩
  · exact ⟨h1, .inr ⟨g, cap, cur, hv, hbg, (hb.block g (Array.getElem?_eq_some_iff.1 hgg).1).trans hgg, hrest⟩⟩

/-- Structs of two bools. -/
def al2 (l : List (Bool × Bool)) : List Value := l.flatMap fun a => [.bool a.1, .bool a.2]
theorem al2_len (l : List (Bool × Bool)) : (al2 l).length = l.length * 2 := by
  induction l with
  | nil => rfl
  | cons a l ih => simp [al2] at ih ⊢; omega
theorem al2_app (l m : List (Bool × Bool)) : al2 (l ++ m) = al2 l ++ al2 m := by simp [al2]
theorem al2_at (l : List (Bool × Bool)) (i : Nat) (a : Bool × Bool) (h : l[i]? = some a) : (al2 l)[i * 2]? = some (.bool a.1) ∧ (al2 l)[i * 2 + 1]? = some (.bool a.2) := by
  induction l generalizing i with
  | nil => simp at h
  | cons b l ih =>
    cases i with
    | zero =>
      simp at h
      subst h
      exact ⟨rfl, rfl⟩
    | succ i =>
      have h' : l[i]? = some a := by simpa using h
      have := ih i h'
      have e1 : (i + 1) * 2 = i * 2 + 2 := by omega
      rw [e1]
      exact this
theorem al2_one (l : List (Bool × Bool)) : ∀ u ∈ al2 l, u.oneCell' = true := by
  intro u hu
  obtain ⟨a, _, h⟩ := List.mem_flatMap.1 hu
  simp only [List.mem_cons, List.not_mem_nil, or_false] at h
  rcases h with rfl | rfl <;> rfl
theorem al2_inj {l m : List (Bool × Bool)} (h : al2 l = al2 m) : l = m := by
  induction l generalizing m with
  | nil => cases m with
    | nil => rfl
    | cons b m => simp [al2] at h
  | cons a l ih => cases m with
    | nil => simp [al2] at h
    | cons b m =>
      simp only [al2, List.flatMap_cons, List.cons_append, List.nil_append, List.cons.injEq, Value.bool.injEq] at h
      obtain ⟨h1, h2, h3⟩ := h
      rw [ih h3, Prod.ext h1 h2]
end Go.Proofs.YtaelhgkodcgmnaaDoor
