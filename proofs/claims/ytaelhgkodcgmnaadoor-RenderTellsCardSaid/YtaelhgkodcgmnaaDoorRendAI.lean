/- Layer 23: the document's Read: what its guess holds in memory. -/
import Derived.Test.YtaelhgkodcgmnaaDoorRendAH
import Derived.Handy
import Derived.IntWalk
namespace Go.Proofs.YtaelhgkodcgmnaaDoor
open Go.ChangeShapes Go.WideShapes Go.ChangeAt Go.RowKit Go.Deep
open Go.Shelf
set_option linter.unusedVariables false
set_option linter.unusedSimpArgs false

/-- a guess in block B, its rows of the call's own -/
def GS (B base : Nat) (t : Td) (p : Nat) (w : World) (CA : Option Addr) (cc : Nat) (RA : Option Addr) (rc : Nat) (HA_ : Option Addr) (hc : Nat) : Prop :=
  Blk w B 25 #[.int .i64 t.tick, .slice CA (t.cells.length) cc, .slice RA (t.rules.length) rc, .slice HA_ (t.chans.length) hc] ∧
  w.ownsRow base 44 3 (.slice CA t.cells.length cc) t.cells.length (tk f3 t.cells) ∧ w.ownsRow base 51 2 (.slice RA t.rules.length rc) t.rules.length (tk f2 t.rules) ∧ w.ownsRow base 51 2 (.slice HA_ t.chans.length hc) t.chans.length (tk f2 t.chans) ∧
  (∀ g, (Value.slice RA t.rules.length rc).ownBlock = some g → (Value.slice HA_ t.chans.length hc).ownBlock ≠ some g) ∧ (p ≤ 1 → HA_ = none ∧ hc = 0 ∧ t.chans = [])
theorem GS.below {B base p : Nat} {t : Td} {w w' : World} {CA RA HA_ : Option Addr} {cc rc hc : Nat} (h : GS B base t p w CA cc RA rc HA_ hc) (hb : Below w.heap.size w w') : GS B base t p w' CA cc RA rc HA_ hc :=
  ⟨h.1.below hb, own_below h.2.1 hb, own_below h.2.2.1 hb, own_below h.2.2.2.1 hb, h.2.2.2.2.1, h.2.2.2.2.2⟩
theorem GS.told {B base p : Nat} {t : Td} {w : World} {CA RA HA_ : Option Addr} {cc rc hc : Nat} (h : GS B base t p w CA cc RA rc HA_ hc) : ToldO w (.agg #[.int .i64 t.tick, .slice CA (t.cells.length) cc, .slice RA (t.rules.length) rc, .slice HA_ (t.chans.length) hc]) t := ⟨_, _, _, _, _, _, _, _, _, rfl, h.2.1, h.2.2.1, h.2.2.2.1⟩
theorem GS.more {B base p q : Nat} {t : Td} {w : World} {CA RA HA_ : Option Addr} {cc rc hc : Nat} (h : GS B base t p w CA cc RA rc HA_ hc) (hq : p ≤ q) : GS B base t q w CA cc RA rc HA_ hc :=
  ⟨h.1, h.2.1, h.2.2.1, h.2.2.2.1, h.2.2.2.2.1, fun hq1 => h.2.2.2.2.2 (by omega)⟩
theorem blk_own {w w' : World} {b base k n : Nat} {t e : TypeId} {cs : Array Value} {v : Value} {xs : List Value} (h : Blk w b t cs) (ho : w.ownsRow base e k v n xs) (ht : t ≠ e) (hg : w.grownBy w' v.ownBlock) : Blk w' b t cs := by
  refine (hg.block b h.lt (fun he => ?_)).trans h
  rcases ho.2 with ⟨hv, _⟩ | ⟨g, cap, cur, hv, _, hgg, _⟩
  · rw [hv] at he; simp [Value.ownBlock] at he
  · rw [hv] at he
    simp [Value.ownBlock] at he
    subst he
    have := h.symm.trans hgg
    injection this with this
    injection this with _ h2 _
    exact ht h2
theorem own_keptZ {w w' : World} {base n k : Nat} {e : TypeId} {v : Value} {xs : List Value} {row : Option Nat} (h : w.ownsRow base e k v n xs) (hg : w.grownBy w' row) (hne : ∀ g, v.ownBlock = some g → some g ≠ row) : w'.ownsRow base e k v n xs := by
  obtain ⟨h1, h2⟩ := h
  rcases h2 with h2 | ⟨g, cap, cur, hv, hbg, hgg, hrest⟩
  · exact ⟨h1, .inl h2⟩
  · exact ⟨h1, .inr ⟨g, cap, cur, hv, hbg, (hg.block g (Array.getElem?_eq_some_iff.1 hgg).1 (hne g (by rw [hv]; rfl))).trans hgg, hrest⟩⟩
theorem own_other {w w' : World} {ba bb na nb ka kb : Nat} {ea eb : TypeId} {va vb : Value} {xa xb : List Value} (ha : w.ownsRow ba ea ka va na xa) (hb : w.ownsRow bb eb kb vb nb xb) (ht : ea ≠ eb) (hg : w.grownBy w' vb.ownBlock) : w'.ownsRow ba ea ka va na xa := by
  refine own_keptZ ha hg fun g hgv he => ?_
  rcases ha.2 with ⟨hv, _⟩ | ⟨g1, cap, cur, hv, _, hgg, _⟩
  · rw [hv] at hgv; simp [Value.ownBlock] at hgv
  · rw [hv] at hgv
    simp [Value.ownBlock] at hgv
    subst hgv
    rcases hb.2 with ⟨hv2, _⟩ | ⟨g2, cap2, cur2, hv2, _, hgg2, _⟩
    · rw [hv2] at he; simp [Value.ownBlock] at he
    · rw [hv2] at he
      simp [Value.ownBlock] at he
      subst he
      have := hgg.symm.trans hgg2
      injection this with this
      injection this with _ h2 _
      exact ht h2
theorem own_blt {w : World} {base : Nat} {e : TypeId} {k n : Nat} {v : Value} {xs : List Value} (h : w.ownsRow base e k v n xs) {g : Nat} (hg : v.ownBlock = some g) : g < w.heap.size := by
  rcases h.2 with ⟨rfl, _⟩ | ⟨g1, cap, cur, rfl, _, hgg, _⟩
  · simp [Value.ownBlock] at hg
  · simp [Value.ownBlock] at hg
    subst hg
    exact (Array.getElem?_eq_some_iff.1 hgg).1
/-- a cell more -/
theorem GS.cell {B base p : Nat} {t : Td} {w w' : World} {CA RA HA_ : Option Addr} {cc rc hc : Nat} (h : GS B base t p w CA cc RA rc HA_ hc) (x : Cl) {FA : Option Addr} {fc : Nat}
    (ho : w'.ownsRow base 44 3 (.slice FA (t.cells.length + 1) fc) (t.cells.length + 1) (tk f3 t.cells ++ tk f3 [x])) (hg : w.grownBy w' (Value.slice CA t.cells.length cc).ownBlock) :
    GS B base { t with cells := t.cells ++ [x] } p (w'.setCell ⟨B, 1, none⟩ (.slice FA (t.cells.length + 1) fc)) FA fc RA rc HA_ hc := by
  obtain ⟨h1, h2, h3, h4, h5, h6⟩ := h
  have b1 := blk_own h1 h2 (by decide) hg
  have o3 := own_other h3 h2 (by decide) hg
  have o4 := own_other h4 h2 (by decide) hg
  have hl : (t.cells ++ [x]).length = t.cells.length + 1 := by simp
  refine ⟨?_, ?_, own_setZ o3 b1 (by decide), own_setZ o4 b1 (by decide), h5, h6⟩
  · have := b1.set 1 (.slice FA (t.cells.length + 1) fc)
    rw [hl]
    exact this
  · dsimp only
    rw [hl, tk_app]
    exact own_setZ ho b1 (by decide)
/-- a rule's alarm more -/
theorem GS.rule {B base p : Nat} {t : Td} {w w' : World} {CA RA HA_ : Option Addr} {cc rc hc : Nat} (h : GS B base t p w CA cc RA rc HA_ hc) (hp : p ≤ 1) (x : Bool × Bool) {FA : Option Addr} {fc : Nat}
    (ho : w'.ownsRow base 51 2 (.slice FA (t.rules.length + 1) fc) (t.rules.length + 1) (tk f2 t.rules ++ tk f2 [x])) (hg : w.grownBy w' (Value.slice RA t.rules.length rc).ownBlock) :
    GS B base { t with rules := t.rules ++ [x] } p (w'.setCell ⟨B, 2, none⟩ (.slice FA (t.rules.length + 1) fc)) CA cc FA fc HA_ hc := by
  obtain ⟨h1, h2, h3, h4, h5, h6⟩ := h
  obtain ⟨e1, e2, e3⟩ := h6 hp
  have b1 := blk_own h1 h3 (by decide) hg
  have o2 := own_other h2 h3 (by decide) hg
  have hl : (t.rules ++ [x]).length = t.rules.length + 1 := by simp
  refine ⟨?_, own_setZ o2 b1 (by decide), ?_, ?_, ?_, h6⟩
  · have := b1.set 2 (.slice FA (t.rules.length + 1) fc)
    rw [hl]
    exact this
  · dsimp only
    rw [hl, tk_app]
    exact own_setZ ho b1 (by decide)
  · dsimp only
    rw [e1, e2, e3]
    exact own_nilN _ _
  · intro g _
    rw [e1]
    simp [Value.ownBlock]
/-- a channel's alarm more -/
theorem GS.chan {B base p : Nat} {t : Td} {w w' : World} {CA RA HA_ : Option Addr} {cc rc hc : Nat} (h : GS B base t p w CA cc RA rc HA_ hc) (hp : 1 < p) (x : Bool × Bool) {FA : Option Addr} {fc : Nat}
    (ho : w'.ownsRow base 51 2 (.slice FA (t.chans.length + 1) fc) (t.chans.length + 1) (tk f2 t.chans ++ tk f2 [x])) (hg : w.grownBy w' (Value.slice HA_ t.chans.length hc).ownBlock)
    (hbk : (Value.slice FA (t.chans.length + 1) fc).ownBlock = (Value.slice HA_ t.chans.length hc).ownBlock ∨ (Value.slice FA (t.chans.length + 1) fc).ownBlock = some w.heap.size) :
    GS B base { t with chans := t.chans ++ [x] } p (w'.setCell ⟨B, 3, none⟩ (.slice FA (t.chans.length + 1) fc)) CA cc RA rc FA fc := by
  obtain ⟨h1, h2, h3, h4, h5, h6⟩ := h
  have b1 := blk_own h1 h4 (by decide) hg
  have o2 := own_other h2 h4 (by decide) hg
  have o3 := own_keptZ h3 hg (fun g hg1 he => h5 g hg1 he.symm)
  have hl : (t.chans ++ [x]).length = t.chans.length + 1 := by simp
  refine ⟨?_, own_setZ o2 b1 (by decide), own_setZ o3 b1 (by decide), ?_, ?_, fun h => absurd h (by omega)⟩
  · have := b1.set 3 (.slice FA (t.chans.length + 1) fc)
    rw [hl]
    exact this
  · dsimp only
    rw [hl, tk_app]
    exact own_setZ ho b1 (by decide)
  · intro g hg1
    dsimp only
    rw [hl]
    rcases hbk with hbk | hbk
    · rw [hbk]; exact h5 g hg1
    · rw [hbk]
      intro e
      injection e with e
      have := own_blt h3 hg1
      omega
end Go.Proofs.YtaelhgkodcgmnaaDoor
