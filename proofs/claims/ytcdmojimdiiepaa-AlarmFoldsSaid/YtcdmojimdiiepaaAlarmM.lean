/- Layer 21: alarms that are watched, in memory. -/
import Derived.Test.YtcdmojimdiiepaaRuleUV
import Derived.Test.YtcdmojimdiiepaaPhysCV
import Derived.Test.YtcdmojimdiiepaaTechCV
namespace Go.Proofs.Ytcdmojimdiiepaa
open Go.ChangeShapes Go.WideShapes Go.ChangeAt Go.RowKit
set_option linter.unusedVariables false
set_option linter.unusedSimpArgs false

theorem Only.cell {s : List Nat} {a b : World} (h : Only s a b) {p : Addr} (hp : p.block < a.heap.size) (hn : p.block ∉ s) : b.cell? p = a.cell? p := by
  unfold World.cell?
  rw [h.block _ hp hn]
theorem Only.ownCell {s : List Nat} {a b : World} (h : Only s a b) {p : Addr} (hp : a.heap.size ≤ p.block) (u : Value) : Only s a (b.setCell p u) :=
  ⟨h.os, h.tape, h.output, by simpa [World.setCell] using h.size, fun c hc hn => by
    rw [Below.heap_setCell _ _ _ _ (show c ≠ p.block by omega)]
    exact h.block c hc hn⟩
theorem Only.mono {s t : List Nat} {a b : World} (h : Only s a b) (hs : ∀ x ∈ s, x ∈ t) : Only t a b := ⟨h.os, h.tape, h.output, h.size, fun i hi hn => h.block i hi fun hm => hn (hs i hm)⟩
theorem Only.alloc {s : List Nat} {a b : World} (h : Only s a b) (o : Obj) : Only s a (b.alloc o) := h.trans (Only.of_below s ((Below.refl _ _).alloc (Nat.le_refl _) o))
/-- an alarm that is watched: a rule's, or a channel's -/
inductive Wt where
  | rule (A : Option Addr) (rc : Nat) (hold : Int) (latch : Bool) (l : List T) (s : Ph) (a : Bool)
  | chan (stale : Int) (ch : Nat) (s : Te) (a : Bool)
def sampB (cs : List Cl) (ch : Nat) : Bool := decide ((cs.getD ch (0, 0, 0)).1 = 1)
def Wt.next (cs : List Cl) : Wt → Wt
  | .rule A rc h la l s a => .rule A rc h la l (pstep h la s (saysR l cs) a) false
  | .chan k ch s a => .chan k ch (tstep k s (sampB cs ch) a) false
def Wt.al : Wt → Bool × Bool
  | .rule _ _ _ _ _ s _ => (s.on, s.now)
  | .chan _ _ s _ => (s.on, s.now)
def Wt.ack : Wt → Wt
  | .rule A rc h la l s _ => .rule A rc h la l s true
  | .chan k ch s _ => .chan k ch s true
def wval (x : Nat × Wt) : Value := match x.2 with
  | .rule .. => .iface 69 (.pointer (some ⟨x.1, 0, none⟩))
  | .chan .. => .iface 78 (.pointer (some ⟨x.1, 0, none⟩))
/-- a watched alarm lies in a block; its terms lay there before -/
def IsW (W0 w : World) (b : Nat) : Wt → Prop
  | .rule A rc h la l s a => Blk w b 73 #[.slice A l.length rc, .int .i64 h, .bool la, .int .i64 s.run, .bool s.on, .bool s.now, .bool a] ∧ RowN 3 W0 (.slice A l.length rc) l.length (c3c l)
  | .chan k ch s a => Blk w b 82 #[.int .i64 k, .int .i64 (ch : Int), .int .i64 s.run, .bool s.on, .bool s.now, .bool s.ok, .bool a]
def Wt.ok (n : Nat) : Wt → Prop
  | .rule _ _ h _ l s _ => ruleB h l (n : Int) = true ∧ 0 ≤ s.run ∧ s.run ≤ h
  | .chan k ch s _ => ch < n ∧ 1 ≤ k ∧ k ≤ 1000 ∧ 0 ≤ s.run ∧ s.run ≤ k
theorem rule_h {h n : Int} {l : List T} (hr : ruleB h l n = true) : 1 ≤ h ∧ h ≤ 1000 ∧ l.length ≤ 16 ∧ (∀ t ∈ l, tRight t n = true) ∧ evalN l 0 = some 1 := by
  obtain ⟨h1, h2, h3⟩ := rule_n hr
  exact ⟨h1.1, h1.2.1, h1.2.2.2, h2, h3⟩
theorem tstep_bd (k : Int) (s : Te) (x y : Bool) (hk : 1 ≤ k) (h0 : 0 ≤ s.run) (h1 : s.run ≤ k) : 0 ≤ (tstep k s x y).run ∧ (tstep k s x y).run ≤ k := by
  rw [tstep_run]
  unfold lst
  (repeat' split) <;> simp only <;> omega
theorem next_ok {n : Nat} {cs : List Cl} {x : Wt} (h : x.ok n) : (x.next cs).ok n := by
  cases x with
  | rule A rc hd la l s a =>
    obtain ⟨h1, h2, h3⟩ := h
    obtain ⟨r1, _⟩ := rule_h h1
    exact ⟨h1, pstep_bd _ _ _ _ _ r1 h2 h3⟩
  | chan k ch s a =>
    obtain ⟨h1, h2, h3, h4, h5⟩ := h
    exact ⟨h1, h2, h3, tstep_bd _ _ _ _ h2 h4 h5⟩
theorem ack_ok {n : Nat} {x : Wt} (h : x.ok n) : x.ack.ok n := by cases x <;> exact h
theorem IsW.lt {W0 w : World} {b : Nat} {x : Wt} (h : IsW W0 w b x) : b < w.heap.size := by
  cases x with
  | rule => exact h.1.lt
  | chan => exact Blk.lt h
theorem IsW.only {W0 w w' : World} {b : Nat} {x : Wt} {s : List Nat} (h : IsW W0 w b x) (k : Only s w w') (hb : b ∉ s) : IsW W0 w' b x := by
  cases x with
  | rule => exact ⟨h.1.only k hb, h.2⟩
  | chan => exact Blk.only h k hb
theorem IsW.below {W0 w w' : World} {b : Nat} {x : Wt} (h : IsW W0 w b x) (k : Below w.heap.size w w') : IsW W0 w' b x := h.only (Only.of_below [] k) (by simp)
def nx (cs : List Cl) (x : Nat × Wt) : Nat × Wt := (x.1, x.2.next cs)
theorem wval_nx (cs : List Cl) (x : Nat × Wt) : wval (nx cs x) = wval x := by
  obtain ⟨b, x⟩ := x
  cases x <;> rfl
theorem wval_ack (x : Nat × Wt) : wval (x.1, x.2.ack) = wval x := by
  obtain ⟨b, x⟩ := x
  cases x <;> rfl
def AllW (W0 w : World) (q : List (Nat × Wt)) : Prop := ∀ (j : Nat) (y : Nat × Wt), q[j]? = some y → IsW W0 w y.1 y.2
def Inj (q : List (Nat × Wt)) : Prop := ∀ (i j : Nat) (x y : Nat × Wt), q[i]? = some x → q[j]? = some y → x.1 = y.1 → i = j
def bl (q : List (Nat × Wt)) : List Nat := q.map Prod.fst
theorem bl_nx (cs : List Cl) (q : List (Nat × Wt)) : bl (q.map (nx cs)) = bl q := by unfold bl; rw [List.map_map]; rfl
theorem wvals_nx (cs : List Cl) (q : List (Nat × Wt)) : (q.map (nx cs)).map wval = q.map wval := by rw [List.map_map]; exact List.map_congr_left fun x _ => wval_nx cs x
theorem mem_bl {q : List (Nat × Wt)} {j : Nat} {y : Nat × Wt} (h : q[j]? = some y) : y.1 ∈ bl q := List.mem_map.2 ⟨y, List.mem_of_getElem? h, rfl⟩
theorem AllW.only {W0 w w' : World} {q : List (Nat × Wt)} {s : List Nat} (h : AllW W0 w q) (k : Only s w w') (hb : ∀ b ∈ bl q, b ∉ s) : AllW W0 w' q :=
  fun j y hy => (h j y hy).only k (hb _ (mem_bl hy))
theorem Inj.of_bl {q r : List (Nat × Wt)} (h : Inj q) (e : bl r = bl q) : Inj r := by
  intro i j x y hx hy hxy
  have e1 : (bl r)[i]? = some x.1 := by unfold bl; rw [List.getElem?_map, hx]; rfl
  have e2 : (bl r)[j]? = some y.1 := by unfold bl; rw [List.getElem?_map, hy]; rfl
  rw [e] at e1 e2
  unfold bl at e1 e2
  rw [List.getElem?_map] at e1 e2
  obtain ⟨x', hx', ex⟩ := Option.map_eq_some_iff.1 e1
  obtain ⟨y', hy', ey⟩ := Option.map_eq_some_iff.1 e2
  exact h i j x' y' hx' hy' (by rw [ex, ey, hxy])

/-- a row of structs whose block is at B or behind -/
def RowF (B k : Nat) (w : World) (v : Value) (n : Nat) (xs : List Value) : Prop := RowN k w v n xs ∧ ∀ ad n' c, v = .slice (some ad) n' c → B ≤ ad.block
theorem RowN.only {k n : Nat} {w w' : World} {v : Value} {xs : List Value} {s : List Nat} (h : RowN k w v n xs) (ho : Only s w w') (hs : ∀ ad n' c, v = .slice (some ad) n' c → ad.block ∉ s) : RowN k w' v n xs := by
  obtain ⟨h0, A, c, h1, h2, h3, h4⟩ := h
  refine ⟨h0, A, c, h1, h2, h3, ?_⟩
  rcases h4 with h4 | ⟨ad, h5, h6, h7⟩
  · exact .inl h4
  · refine .inr ⟨ad, h5, fun h => Nat.lt_of_lt_of_le (h6 h) ho.size, fun i x hx => ?_⟩
    have hl : 0 < xs.length := by
      rcases Nat.eq_zero_or_pos xs.length with h0 | h0
      · rw [List.eq_nil_of_length_eq_zero h0] at hx; simp at hx
      · exact h0
    have hb := ho.block ad.block (h6 hl) (hs ad n c (by rw [h1, h5]))
    have := h7 i x hx
    rw [← this]
    unfold World.cell?
    rw [block_add, hb]
theorem Row.toN {w : World} {v : Value} {xs : List Value} (h : Row w v xs) : RowN 1 w v xs.length xs := RowN.of_row h
theorem Row.only {w w' : World} {v : Value} {xs : List Value} {s : List Nat} (h : Row w v xs) (ho : Only s w w') (hs : ∀ ad n' c, v = .slice (some ad) n' c → ad.block ∉ s) : Row w' v xs := by
  obtain ⟨_, h⟩ := (RowN.of_row h).only ho hs
  exact h
theorem RowF.only {B k n : Nat} {w w' : World} {v : Value} {xs : List Value} {s : List Nat} (h : RowF B k w v n xs) (ho : Only s w w') (hs : ∀ b ∈ s, b < B) : RowF B k w' v n xs :=
  ⟨h.1.only ho (fun ad n' c e hm => by have := h.2 ad n' c e; have := hs _ hm; omega), h.2⟩

/-- all alarms, in memory: their blocks lie from lo on, ahead of hi -/
structure St (W0 w : World) (lo hi pb : Nat) (qr qc : List (Nat × Wt)) : Prop where
  blk : ∃ RA rc CA cc, Blk w pb 77 #[.slice RA qr.length rc, .slice CA qc.length cc] ∧ Row w (.slice RA qr.length rc) (qr.map wval) ∧ Row w (.slice CA qc.length cc) (qc.map wval) ∧
    (∀ ad, RA = some ad → lo ≤ ad.block ∧ ad.block < hi ∧ ad.block ∉ bl (qr ++ qc)) ∧ (∀ ad, CA = some ad → lo ≤ ad.block ∧ ad.block < hi ∧ ad.block ∉ bl (qr ++ qc))
  rules : AllW W0 w qr
  chans : AllW W0 w qc
  inj : Inj (qr ++ qc)
  within : ∀ b ∈ bl (qr ++ qc), lo ≤ b ∧ b < hi
  head : lo ≤ pb ∧ pb < hi ∧ pb ∉ bl (qr ++ qc)
  base : W0.heap.size ≤ lo
  top : hi ≤ w.heap.size
theorem bl_app (a b : List (Nat × Wt)) : bl (a ++ b) = bl a ++ bl b := by simp [bl]
theorem St.only {W0 w w' : World} {lo hi pb : Nat} {qr qc : List (Nat × Wt)} {s : List Nat} (h : St W0 w lo hi pb qr qc) (k : Only s w w') (hs : ∀ b ∈ s, b < lo ∨ hi ≤ b) : St W0 w' lo hi pb qr qc := by
  have hn : ∀ b, lo ≤ b → b < hi → b ∉ s := fun b h1 h2 hm => by have := hs b hm; omega
  have hw := h.within
  rw [bl_app] at hw
  refine ⟨?_, h.rules.only k fun b hb => ?_, h.chans.only k fun b hb => ?_, h.inj, h.within, h.head, h.base, Nat.le_trans h.top k.size⟩
  · obtain ⟨RA, rc, CA, cc, h1, h2, h3, h4, h5⟩ := h.blk
    refine ⟨RA, rc, CA, cc, h1.only k (hn _ h.head.1 h.head.2.1), h2.only k ?_, h3.only k ?_, h4, h5⟩
    · intro ad n' c e
      injection e with e
      exact hn _ (h4 ad e).1 (h4 ad e).2.1
    · intro ad n' c e
      injection e with e
      exact hn _ (h5 ad e).1 (h5 ad e).2.1
  · have := hw b (by simp [hb]); exact hn _ this.1 this.2
  · have := hw b (by simp [hb]); exact hn _ this.1 this.2
theorem St.below {W0 w w' : World} {lo hi pb : Nat} {qr qc : List (Nat × Wt)} (h : St W0 w lo hi pb qr qc) (k : Below w.heap.size w w') : St W0 w' lo hi pb qr qc := h.only (Only.of_below [] k) (by simp)
/-- what a call gives that turns watched alarms alone -/
theorem St.back {W0 w w' : World} {lo hi pb : Nat} {qr qc qr' qc' : List (Nat × Wt)} (h : St W0 w lo hi pb qr qc) (k : Only (bl (qr ++ qc)) w w') (er : bl qr' = bl qr) (ec : bl qc' = bl qc) (vr : qr'.map wval = qr.map wval) (vc : qc'.map wval = qc.map wval) (hr : AllW W0 w' qr') (hc : AllW W0 w' qc') :
    St W0 w' lo hi pb qr' qc' := by
  have eb : bl (qr' ++ qc') = bl (qr ++ qc) := by rw [bl_app, bl_app, er, ec]
  have lr : qr'.length = qr.length := by have := congrArg List.length er; unfold bl at this; simpa using this
  have lc : qc'.length = qc.length := by have := congrArg List.length ec; unfold bl at this; simpa using this
  refine ⟨?_, hr, hc, h.inj.of_bl eb, by rw [eb]; exact h.within, by rw [eb]; exact h.head, h.base, Nat.le_trans h.top k.size⟩
  obtain ⟨RA, rc, CA, cc, h1, h2, h3, h4, h5⟩ := h.blk
  rw [lr, lc, vr, vc, eb]
  refine ⟨RA, rc, CA, cc, h1.only k h.head.2.2, h2.only k ?_, h3.only k ?_, h4, h5⟩
  · intro ad n' c e
    injection e with e
    exact (h4 ad e).2.2
  · intro ad n' c e
    injection e with e
    exact (h5 ad e).2.2
end Go.Proofs.Ytcdmojimdiiepaa
