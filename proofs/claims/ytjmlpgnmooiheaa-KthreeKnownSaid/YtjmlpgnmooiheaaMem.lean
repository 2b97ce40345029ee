/- Words for rows of values in memory: what a slice reads as, kept over what a call leaves alone. -/
import Derived.Test.YtjmlpgnmooiheaaRows
import Derived.WalkKit
import Derived.ProofKit
import Derived.OpenShut
import Derived.Lib.Hide
import Derived.Handy
import Derived.Laws.BytesString
import Derived.Deep.Draws
import Derived.Maps.AppendAt
import Derived.Laws.AppendOwnNone
import Derived.OwnWalk
import Derived.Deep.Slices
namespace Go.Proofs.Ytjmlpgnmooiheaa
open Go.ChangeShapes Go.WideShapes Go.ChangeAt Go.RowKit
set_option linter.unusedVariables false
set_option linter.unusedSimpArgs false

theorem ret_int {k : IntKind} {a b : Int} (h : a = b) : Ending.returned (.int k a) = .returned (.int k b) := by rw [h]
theorem ret_bool {a b : Bool} (h : a = b) : Ending.returned (.bool a) = .returned (.bool b) := by rw [h]
theorem Btrans {a b c : World} (h : Below a.heap.size a b) (k : Below b.heap.size b c) : Below a.heap.size a c := h.trans (k.mono h.size)
theorem Bdrew {B : Nat} {a w : World} (h : Below B a w) (n : Nat) : Below B a (w.drewN n) := ⟨h.os, h.tape, h.output, h.size, h.block⟩
theorem block_add (a : Addr) (n : Nat) : (a.add n).block = a.block := by unfold Addr.add; split <;> rfl

/-- The slice v reads as the values xs. -/
def Row (w : World) (v : Value) (xs : List Value) : Prop :=
  ∃ A c, v = .slice A xs.length c ∧ xs.length ≤ c ∧ c ≤ maxLen ∧
    ((A = none ∧ c = 0) ∨ ∃ ad, A = some ad ∧ (0 < xs.length → ad.block < w.heap.size) ∧ ∀ i x, xs[i]? = some x → w.cell? (ad.add i) = some x)

def Bytes (w : World) (v : Value) (bs : List Int) : Prop := Row w v (bs.map (Value.int .u8)) ∧ ∀ x ∈ bs, 0 ≤ x ∧ x ≤ 255

section
variable {w w' : World} {v : Value} {xs : List Value} {bs : List Int}
theorem Row.keep (h : Row w v xs) (hs : w.heap.size ≤ w'.heap.size) (hk : ∀ p : Addr, p.block < w.heap.size → w'.cell? p = w.cell? p) : Row w' v xs := by
  obtain ⟨A, c, h1, h2, h3, h4⟩ := h
  refine ⟨A, c, h1, h2, h3, ?_⟩
  rcases h4 with h4 | ⟨ad, h5, h6, h7⟩
  · exact .inl h4
  · refine .inr ⟨ad, h5, fun h => Nat.lt_of_lt_of_le (h6 h) hs, fun i x hx => ?_⟩
    have hl : 0 < xs.length := by
      rcases Nat.eq_zero_or_pos xs.length with h0 | h0
      · rw [List.eq_nil_of_length_eq_zero h0] at hx; simp at hx
      · exact h0
    rw [hk _ (by rw [block_add]; exact h6 hl)]
    exact h7 i x hx
theorem Row.below (h : Row w v xs) (hb : Below w.heap.size w w') : Row w' v xs := h.keep hb.size fun _ hp => hb.cell hp
theorem Bytes.below (h : Bytes w v bs) (hb : Below w.heap.size w w') : Bytes w' v bs := ⟨h.1.below hb, h.2⟩
theorem lt_of_cell {a : Addr} {u : Value} (h : w.cell? a = some u) : a.block < w.heap.size := by
  rcases Nat.lt_or_ge a.block w.heap.size with h1 | h1
  · exact h1
  · unfold World.cell? at h
    rw [Array.getElem?_eq_none h1] at h
    cases h
theorem Row.drew (h : Row w v xs) : Row w.drew v xs := h
theorem Row.drewN (h : Row w v xs) (n : Nat) : Row (w.drewN n) v xs := h
theorem Row.nil_ : Row w (.slice none 0 0) [] := ⟨none, 0, rfl, Nat.le_refl _, Nat.zero_le _, .inl ⟨rfl, rfl⟩⟩
theorem Bytes.nil_ : Bytes w (.slice none 0 0) [] := ⟨Row.nil_, by simp⟩
theorem Row.of_own {base : Nat} {e : TypeId} {n : Nat} (h : w.ownsRow base e 1 v n xs) : Row w v xs := by
  obtain ⟨hl, h⟩ := h
  rcases h with ⟨rfl, rfl⟩ | ⟨g, cap, cur, rfl, hb, hh, hn, hc, hs, ht⟩
  · have : xs = [] := List.eq_nil_of_length_eq_zero (by simpa using hl)
    subst this
    exact Row.nil_
  · have hl' : xs.length = n := by simpa using hl
    refine ⟨some ⟨g, 0, none⟩, cap, by rw [hl'], by omega, hc, .inr ⟨_, rfl, fun _ => ?_, fun i x hx => ?_⟩⟩
    · show g < w.heap.size
      rcases Nat.lt_or_ge g w.heap.size with h1 | h1
      · exact h1
      · rw [Array.getElem?_eq_none h1] at hh; cases hh
    · have hi : i < xs.length := by
        rcases Nat.lt_or_ge i xs.length with h1 | h1
        · exact h1
        · rw [List.getElem?_eq_none h1] at hx; cases hx
      have he : (Addr.add ⟨g, 0, none⟩ i) = ⟨g, i, none⟩ := by
        unfold Addr.add
        split
        · simp [*]
        · simp
      rw [he, cell_of_row w g i cur e (0, 0) hh]
      rw [← ht] at hx
      rw [List.getElem?_take] at hx
      split at hx
      · simpa using hx
      · cases hx
/-- A block that was just laid. -/
theorem Row.new (cs : List Value) (t : TypeId) (c : Nat) (hc : cs.length ≤ c) (hm : c ≤ maxLen) (W : World) (n : Nat) (hn : n = W.heap.size) :
    Row (W.alloc (.cells cs.toArray t)) (.slice (some ⟨n, 0, none⟩) cs.length c) cs := by
  subst hn
  refine ⟨_, c, rfl, hc, hm, .inr ⟨_, rfl, fun _ => by simp, fun i x hx => ?_⟩⟩
  have he : (Addr.add ⟨W.heap.size, 0, none⟩ i) = ⟨W.heap.size, i, none⟩ := by
    unfold Addr.add
    split
    · simp [*]
    · simp
  rw [he, World.cell?_alloc_new]
  simpa using hx

/-- The string of bytes. -/
def bstr (bs : List Int) : ByteArray := bs.foldl (fun r n => r.push (UInt8.ofNat n.toNat)) ByteArray.empty

theorem bstr_data (bs : List Int) : (bstr bs).data.toList = bs.map fun n => UInt8.ofNat n.toNat := by
  have key : ∀ (l : List Int) (s : ByteArray), (l.foldl (fun r n => r.push (UInt8.ofNat n.toNat)) s).data.toList = s.data.toList ++ l.map fun n => UInt8.ofNat n.toNat := by
    intro l
    induction l with
    | nil => intro s; simp
    | cons a l ih => intro s; rw [List.foldl_cons, ih]; simp [ByteArray.push]
  rw [bstr, key]
  simp [ByteArray.empty, ByteArray.emptyWithCapacity]
  rfl

theorem bytes_inj {cs bs : List Int} (ha : ∀ x ∈ cs, 0 ≤ x ∧ x ≤ 255) (hb : ∀ x ∈ bs, 0 ≤ x ∧ x ≤ 255)
    (h : cs.map (fun n => UInt8.ofNat n.toNat) = bs.map fun n => UInt8.ofNat n.toNat) : cs = bs := by
  induction cs generalizing bs with
  | nil => cases bs with
    | nil => rfl
    | cons b bs => simp at h
  | cons a cs ih => cases bs with
    | nil => simp at h
    | cons b bs =>
      simp only [List.map_cons, List.cons.injEq] at h
      obtain ⟨h1, h2⟩ := h
      have ra := ha a (by simp)
      have rb := hb b (by simp)
      have h3 : (UInt8.ofNat a.toNat).toNat = (UInt8.ofNat b.toNat).toNat := by rw [h1]
      simp only [UInt8.toNat_ofNat'] at h3
      have : a = b := by omega
      subst this
      rw [ih (fun x hx => ha x (by simp [hx])) (fun x hx => hb x (by simp [hx])) h2]

theorem toList_data (s : ByteArray) : s.toList = s.data.toList := ByteArray.toList_eq s

theorem bstr_eq {cs bs : List Int} (ha : ∀ x ∈ cs, 0 ≤ x ∧ x ≤ 255) (hb : ∀ x ∈ bs, 0 ≤ x ∧ x ≤ 255) :
    ((bstr cs).toList == (bstr bs).toList) = decide (cs = bs) := by
  rw [toList_data, toList_data, bstr_data, bstr_data]
  rw [Bool.eq_iff_iff, beq_iff_eq, decide_eq_true_eq]
  exact ⟨bytes_inj ha hb, fun h => by rw [h]⟩

theorem run_conv {P : Program} {src dst e : TypeId} (hs : P.underlying src = some (.slice e)) (he : P.underlying e = some (.int .u8)) (hd : P.underlying dst = some .string)
    (h : Bytes w v bs) : (convert src dst v).run P w = .ok (.string (bstr bs)) w := by
  obtain ⟨⟨A, c, rfl, h2, h3, h4⟩, hr⟩ := h
  rw [run_convert_bytes_string w src dst e _ _ _ hs he hd]
  rcases h4 with ⟨rfl, rfl⟩ | ⟨ad, rfl, _, hc⟩
  · have : bs = [] := List.eq_nil_of_length_eq_zero (by simpa using h2)
    subst this
    simp [Conv.bytesToString, Sem.run_pure, bstr]
  · refine (run_bytesToString w ad _ c bs ?_).trans rfl
    have := run_loadCells_list (P := P) w ad (bs.map (Value.int .u8)) (fun j u hj => hc j u hj)
    simpa using this
end

theorem heap_at (w : World) (o : Obj) (n : Nat) (h : n = w.heap.size) : (w.alloc o).heap[n]? = some o := by
  subst h
  exact heap_alloc_new _ _

/-- A row that lies in a block known whole. -/
theorem Row.of_block {w : World} {g off n c : Nat} {cur : Array Value} {t : TypeId} {xs : List Value} (hh : w.heap[g]? = some (.cells cur t (0, 0)))
    (hx : (cur.toList.drop off).take n = xs) (hn : xs.length = n) (hc : n ≤ c) (hm : c ≤ maxLen) : Row w (.slice (some ⟨g, off, none⟩) n c) xs := by
  refine ⟨_, c, by rw [hn], by omega, hm, .inr ⟨_, rfl, fun _ => ?_, fun i x hi => ?_⟩⟩
  · show g < w.heap.size
    rcases Nat.lt_or_ge g w.heap.size with h1 | h1
    · exact h1
    · rw [Array.getElem?_eq_none h1] at hh; cases hh
  · have he : (Addr.add ⟨g, off, none⟩ i) = ⟨g, off + i, none⟩ := by
      unfold Addr.add
      split
      · simp [*]
      · rfl
    rw [he, cell_of_row w g (off + i) cur t (0, 0) hh]
    rw [← hx, List.getElem?_take] at hi
    split at hi
    · simpa using hi
    · cases hi

/-- A block that is known whole. -/
def Blk (w : World) (b : Nat) (t : TypeId) (cs : Array Value) : Prop := w.heap[b]? = some (.cells cs t (0, 0))
section
variable {w w' : World} {b : Nat} {t : TypeId} {cs : Array Value}
theorem Blk.lt (h : Blk w b t cs) : b < w.heap.size := by
  rcases Nat.lt_or_ge b w.heap.size with h1 | h1
  · exact h1
  · unfold Blk at h; rw [Array.getElem?_eq_none h1] at h; cases h
theorem Blk.cells (h : Blk w b t cs) : ∀ i, w.cell? ⟨b, i, none⟩ = cs[i]? := fun i => cell_of_row w b i cs t (0, 0) h
theorem Blk.below (h : Blk w b t cs) (hb : Below w.heap.size w w') : Blk w' b t cs := (hb.block b h.lt).trans h
theorem Blk.new (w : World) (t : TypeId) (cs : Array Value) (n : Nat) (hn : n = w.heap.size) : Blk (w.alloc (.cells cs t)) n t cs := heap_at w _ n hn
end

/-- What an append asks of a slice's type. -/
structure Elem (P : Program) (t e : TypeId) (size bytes : Nat) : Prop where
  under : P.underlying t = some (.slice e)
  info : ∃ i z, P.info? e = some i ∧ i.zero = some z ∧ i.size = size ∧ i.bytes = bytes ∧ z.cells.size = size
  pos : 0 < size

theorem Elem.mk' {P : Program} {t e : TypeId} {size bytes : Nat} {z : Value} (ht : P.underlying t = some (.slice e))
    (h : (P.info? e).map (fun i => (i.zero, i.size, i.bytes)) = some (some z, size, bytes)) (hz : z.cells.size = size) (hp : 0 < size) : Elem P t e size bytes := by
  obtain ⟨i, h1, h2, h3, h4⟩ := info_parts h
  exact ⟨ht, ⟨i, z, h1, h2, h3, h4, hz⟩, hp⟩

section
variable {P : Program} {w : World}
theorem wp_app {o : Oper} {a : Act} {K : Act → World → Prop} {Q : Exit → Act → World → Prop} {t e : TypeId} {bytes : Nat} (E : Elem P t e 1 bytes) (s x : Operand)
    (ho : o.op = .call { callee := .builtin .append, args := #[s, x], argTypes := #[t, t] })
    (base : Nat) (v : Value) (n : Nat) (xs : List Value) (hs : a.eval s = v) (hown : w.ownsRow base e 1 v n xs)
    (vx : Value) (ys : List Value) (hx : a.eval x = vx) (hr : Row w vx ys) (h1 : ∀ u ∈ ys, u.oneCell' = true)
    (h63 : n + ys.length ≤ maxLen) (hbytes : (n + ys.length) * bytes ≤ 140737488355328) (hbase : base ≤ w.heap.size)
    (h : ∀ v' w', w'.ownsRow base e 1 v' (n + ys.length) (xs ++ ys) → w.grownBy w' v.ownBlock → (v'.ownBlock = v.ownBlock ∨ v'.ownBlock = some w.heap.size) → K (a.put o.dst v') w') : o.wp P a w K Q := by
  obtain ⟨i, z, hi, hz, hsz, hby, hzs⟩ := E.info
  obtain ⟨A, c, rfl, hc, hm, hA⟩ := hr
  rcases hA with ⟨rfl, rfl⟩ | ⟨ad, rfl, _, hcell⟩
  · have hys : ys = [] := List.eq_nil_of_length_eq_zero (by omega)
    subst hys
    have hrun := run_append_owned_none (P := P) (w := w) base t o.type e i 1 E.under hi v n xs hown
    unfold Oper.wp
    simp [execOp, ho, resolve, invoke, builtin, hs, hx, hrun, Result.andThen]
    exact h v w (by simpa using hown) (World.grownBy.refl w _) (.inl rfl)
  · obtain ⟨v', w', hrun, h2, h3, _, h5⟩ := run_append_own_at (P := P) w base t o.type e i z 1 bytes E.under hi hz hsz hby hzs E.pos v n xs hown ad ys.length c ys (by omega) hcell h1 h63 hbytes hbase
    unfold Oper.wp execOp
    simp only [ho, resolve, invoke, builtin, Sem.run_bind, Sem.run_pure, Result.andThen_ok, List.map_toArray, List.map_cons, List.map_nil, hs, hx, hrun]
    exact h v' w' h2 h3 h5

theorem wpList_app {ops : Array Oper} {rest : List Oper} {o : Oper} {a : Act} {Q : Exit → Act → World → Prop} {t e : TypeId} {bytes : Nat} (E : Elem P t e 1 bytes) (hgd : o.guard = none) (s x : Operand)
    (ho : o.op = .call { callee := .builtin .append, args := #[s, x], argTypes := #[t, t] })
    (base : Nat) (v : Value) (n : Nat) (xs : List Value) (hs : a.eval s = v) (hown : w.ownsRow base e 1 v n xs)
    (vx : Value) (ys : List Value) (hx : a.eval x = vx) (hr : Row w vx ys) (h1 : ∀ u ∈ ys, u.oneCell' = true)
    (h63 : n + ys.length ≤ maxLen) (hbytes : (n + ys.length) * bytes ≤ 140737488355328) (hbase : base ≤ w.heap.size)
    (h : ∀ v' w', w'.ownsRow base e 1 v' (n + ys.length) (xs ++ ys) → w.grownBy w' v.ownBlock → (v'.ownBlock = v.ownBlock ∨ v'.ownBlock = some w.heap.size) → wpList P ops Q rest (a.put o.dst v') w') : wpList P ops Q (o :: rest) a w :=
  wpList_plain hgd fun _ hK => wp_app E s x ho base v n xs hs hown vx ys hx hr h1 h63 hbytes hbase fun v' w' h2 h3 h4 => hK _ _ (h v' w' h2 h3 h4)
theorem own_nil (base : Nat) (e : TypeId) : w.ownsRow base e 1 (.slice none 0 0) 0 [] := ⟨by simp, .inl ⟨rfl, rfl⟩⟩
theorem own_empty (w : World) (base n : Nat) (e : TypeId) (hb : base ≤ w.heap.size) (hn : n = w.heap.size) : (w.alloc (.cells #[] e)).ownsRow base e 1 (.slice (some ⟨n, 0, none⟩) 0 0) 0 [] := by
  subst hn
  exact ⟨rfl, .inr ⟨w.heap.size, 0, #[], rfl, hb, heap_alloc_new _ _, Nat.le_refl _, Nat.zero_le _, rfl, rfl⟩⟩
theorem below_app {B : Nat} {w w1 w2 : World} {v : Value} {base : Nat} {e : TypeId} {size n : Nat} {xs : List Value} (h : Below B w w1) (hB : B ≤ w1.heap.size) (hown : w1.ownsRow base e size v n xs) (hg : w1.grownBy w2 v.ownBlock) (hbase : B ≤ base) : Below B w w2 := by
  refine h.grown hg hB ?_
  intro g hg'
  rcases hown.2 with ⟨rfl, _⟩ | ⟨g1, cap, cur, rfl, hg1, _⟩
  · simp [Value.ownBlock] at hg'
  · simp [Value.ownBlock] at hg'; omega
theorem one_ints (k : IntKind) (l : List Int) : ∀ u ∈ l.map (Value.int k), u.oneCell' = true := by
  intro u hu
  obtain ⟨x, _, rfl⟩ := List.mem_map.1 hu
  rfl
end

/-- The slice v reads as integers of a kind. -/
def Ints (k : IntKind) (w : World) (v : Value) (zs : List Int) : Prop := Row w v (zs.map (Value.int k)) ∧ ∀ z ∈ zs, (Lit.int k z).wf = true
theorem Ints.below {k : IntKind} {w w' : World} {v : Value} {zs : List Int} (h : Ints k w v zs) (hb : Below w.heap.size w w') : Ints k w' v zs := ⟨h.1.below hb, h.2⟩
theorem wf_u8 {z : Int} (h : (Lit.int .u8 z).wf = true) : 0 ≤ z ∧ z ≤ 255 := bounds_u8 h
theorem Ints.bytes {w : World} {v : Value} {zs : List Int} (h : Ints .u8 w v zs) : Bytes w v zs := ⟨h.1, fun x hx => wf_u8 (h.2 x hx)⟩

def boolOf : Value → Bool | .bool b => b | _ => false
section
variable {H : Type} {enc : TypeId × Value → H} {P : Program} {w : World} {r : Reach} {b0 : Nat}
theorem bools_of_trod {t e : TypeId} {v : Value} {d : DataW H} {p : List MemPlace} (ht : P.underlying t = some (.slice e)) (he : P.underlying e = some .bool) (hc : P.cellsOf e = 1)
    (hv : Value.okWide P w r b0 t v) (h : DataW.Trod enc P w 0 (fun _ => true) true t v d p) : ∃ zs : List Bool, Row w v (zs.map Value.bool) := by
  obtain ⟨a0, len0, cap0, rfl⟩ := okWide_slice ht hv
  obtain ⟨fuel, hf⟩ := h
  rcases Go.Deep.open_slice1 ht hc hf with ⟨hcs, _⟩ | ⟨x, l, c, m, n, V, D, Pl, hcs, _, hl, hm, hmm, _, hi⟩
  · simp [Value.cells] at hcs
    obtain ⟨rfl, rfl, rfl⟩ := hcs
    exact ⟨[], Row.nil_⟩
  · simp [Value.cells] at hcs
    obtain ⟨rfl, rfl, rfl⟩ := hcs
    have hlm : len0 ≤ m := by rw [hmm]; simp; omega
    have hB : ∀ i, i < m → ∃ b, V i = .bool b := fun i him => by
      obtain ⟨b, hb, _⟩ := DataW.trod_bool he (hi i him).2
      exact ⟨b, by simpa using hb⟩
    have hget : ∀ i u, ((List.range len0).map fun i => boolOf (V i))[i]? = some u → w.cell? (x.add i) = some (.bool u) := by
      intro i u hu
      have hil : i < len0 := by
        rcases Nat.lt_or_ge i len0 with h1 | h1
        · exact h1
        · rw [List.getElem?_eq_none (by simpa using h1)] at hu
          cases hu
      obtain ⟨b, hb⟩ := hB i (by omega)
      rw [(hi i (by omega)).1, hb]
      simp [hil, hb, boolOf] at hu
      simp [hu]
    refine ⟨(List.range len0).map fun i => boolOf (V i), some x, cap0, by simp, by simpa using hl, hm, .inr ⟨x, rfl, fun h0 => ?_, fun i u hu => ?_⟩⟩
    · have h0' : 0 < len0 := by simpa using h0
      have h2 := lt_of_cell (hi 0 (by omega)).1
      rwa [block_add] at h2
    · rw [List.getElem?_map] at hu
      obtain ⟨b, hb, rfl⟩ := Option.map_eq_some_iff.1 hu
      exact hget i b hb

theorem ints_of_trod {k : IntKind} {t e : TypeId} {v : Value} {d : DataW H} {p : List MemPlace} (ht : P.underlying t = some (.slice e)) (he : P.underlying e = some (.int k)) (hc : P.cellsOf e = 1)
    (hv : Value.okWide P w r b0 t v) (h : DataW.Trod enc P w 0 (fun _ => true) true t v d p) : ∃ zs, Ints k w v zs := by
  obtain ⟨a0, len0, cap0, rfl⟩ := okWide_slice ht hv
  obtain ⟨fuel, hf⟩ := h
  rcases open_ints ht he hc hf with ⟨hcs, _⟩ | ⟨x, l, c, zs, hcs, _, hl, hm, hz, _, hcell, hwz⟩
  · simp [Value.cells] at hcs
    obtain ⟨rfl, rfl, rfl⟩ := hcs
    exact ⟨[], Row.nil_, by simp⟩
  · simp [Value.cells] at hcs
    obtain ⟨rfl, rfl, rfl⟩ := hcs
    have hz' : zs.length = cap0 := by simpa using hz
    have hlen : (List.map (Value.int k) (zs.take len0)).length = len0 := by simp; omega
    have hget : ∀ i u, (List.map (Value.int k) (zs.take len0))[i]? = some u → w.cell? (x.add i) = some u := by
      intro i u hu
      have hi : i < len0 := by
        rcases Nat.lt_or_ge i len0 with h1 | h1
        · exact h1
        · rw [List.getElem?_eq_none (by rw [hlen]; exact h1)] at hu
          cases hu
      rw [hcell i (by omega), ← hu]
      rw [List.getElem?_map, List.getElem?_take, if_pos hi, List.getD_eq_getElem?_getD, List.getElem?_eq_getElem (by omega)]
      rfl
    refine ⟨zs.take len0, ⟨some x, cap0, by rw [hlen], by omega, hm, .inr ⟨x, rfl, fun h0 => ?_, hget⟩⟩, fun z hzm => hwz z (List.mem_of_mem_take hzm)⟩
    have h1 := hget 0 _ (List.getElem?_eq_getElem h0)
    have h2 := lt_of_cell h1
    rwa [block_add] at h2
end
end Go.Proofs.Ytjmlpgnmooiheaa
