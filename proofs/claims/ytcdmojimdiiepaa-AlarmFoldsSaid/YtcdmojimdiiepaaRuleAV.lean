/- Layer 18: the pile. -/
import Derived.Test.YtcdmojimdiiepaaRuleMV
import Derived.Test.YtcdmojimdiiepaaMemB
import Derived.Laws.EntriesVeiled
import Derived.WalkLawsBesides
namespace Go.Proofs.Ytcdmojimdiiepaa
open Go.ChangeShapes Go.WideShapes Go.ChangeAt Go.RowKit
set_option linter.unusedVariables false
set_option linter.unusedSimpArgs false

def flt : PanicEntry := { v := .iface 126 (.agg #[]), recovered := false }
theorem elI : Elem Try.prog 46 3 1 8 := Elem.mk' (z := .int .i64 0) (by kernel_rfl) (by kernel_rfl) rfl (by decide)
theorem own_shape {w : World} {base k n : Nat} {e : TypeId} {v : Value} {xs : List Value} (h : w.ownsRow base e k v n xs) : ∃ A c, v = .slice A n c := by
  obtain ⟨h1, h2⟩ := h
  rcases h2 with ⟨rfl, rfl⟩ | ⟨g, cap, cur, hv, hrest⟩
  · exact ⟨_, _, rfl⟩
  · exact ⟨_, _, hv⟩
/-- a pile: its variable, and its truths, the last one first -/
structure Pile (w : World) (b0 pb : Nat) (xs : List Int) : Prop where
  ex : ∃ A c, Blk w pb 122 #[.slice A xs.length c] ∧ w.ownsRow b0 3 1 (.slice A xs.length c) xs.length (xs.reverse.map (.int .i64))
  lo : b0 ≤ pb
theorem own_belowB {w w' : World} {base : Nat} {e : TypeId} {k n : Nat} {v : Value} {xs : List Value} (h : w.ownsRow base e k v n xs) (hb : Below w.heap.size w w') : w'.ownsRow base e k v n xs := own_below h hb
theorem Pile.below {w w' : World} {b0 pb : Nat} {xs : List Int} (h : Pile w b0 pb xs) (hb : Below w.heap.size w w') : Pile w' b0 pb xs := by
  obtain ⟨A, c, h1, h2⟩ := h.ex
  exact ⟨⟨A, c, h1.below hb, own_below h2 hb⟩, h.lo⟩
theorem Pile.lt {w : World} {b0 pb : Nat} {xs : List Int} (h : Pile w b0 pb xs) : pb < w.heap.size := by
  obtain ⟨A, c, h1, h2⟩ := h.ex
  exact h1.lt
theorem own_typed {w : World} {base b : Nat} {e t : TypeId} {k n : Nat} {v : Value} {xs : List Value} {cs : Array Value} (h : w.ownsRow base e k v n xs) (hb : Blk w b t cs) (ht : t ≠ e) (i : Nat) (u : Value) : (w.setCell ⟨b, i, none⟩ u).ownsRow base e k v n xs := by
  obtain ⟨h1, h2⟩ := h
  rcases h2 with h2 | ⟨g, cap, cur, hv, hbg, hgg, hrest⟩
  · exact ⟨h1, .inl h2⟩
  · have hne : g ≠ b := by
      rintro rfl
      have := hgg.symm.trans hb
      injection this with this
      injection this with _ h2 _
      exact ht h2.symm
    exact ⟨h1, .inr ⟨g, cap, cur, hv, hbg, (Below.heap_setCell _ _ _ _ hne).trans hgg, hrest⟩⟩
theorem own_cut {w : World} {base : Nat} {e : TypeId} {A : Option Addr} {n c : Nat} {xs : List Value} {x : Value} (h : w.ownsRow base e 1 (.slice A (n + 1) c) (n + 1) (xs ++ [x])) (hn : xs.length = n) : w.ownsRow base e 1 (.slice A n c) n xs ∧ ∃ ad, A = some ad ∧ w.cell? (ad.add n) = some x ∧ n + 1 ≤ c ∧ c ≤ maxLen := by
  have hr := Row.of_own h
  obtain ⟨h1, h2⟩ := h
  rcases h2 with ⟨h2, _⟩ | ⟨g, cap, cur, hv, hbg, hgg, hnc, hm, hs, ht⟩
  · cases h2
  · injection hv with e1 e2 e3
    subst e1 e3
    refine ⟨⟨by simpa using hn, .inr ⟨g, c, cur, rfl, hbg, hgg, by omega, hm, hs, ?_⟩⟩, ⟨g, 0, none⟩, rfl, ?_, hnc, hm⟩
    · have := congrArg (List.take n) ht
      rw [List.take_take, List.take_left' (by omega)] at this
      rw [← this]
      congr 1
      omega
    · obtain ⟨A', c', e4, _, _, hA⟩ := hr
      injection e4 with e4 _ _
      rcases hA with ⟨rfl, _⟩ | ⟨ad, rfl, _, hc⟩
      · cases e4
      · injection e4 with e4
        subst e4
        exact hc n x (by rw [List.getElem?_append_right (by omega)]; simp [hn])

set_option maxHeartbeats 2000000 in
theorem put_any (w : World) (b0 pb : Nat) (xs : List Int) (x : Int) (h : Pile w b0 pb xs) (hx : xs.length ≤ 1000) (hb0 : b0 ≤ w.heap.size) :
    Calls Try.prog 78 #[.pointer (some ⟨pb, 0, none⟩), .int .i64 x] w fun e w' => e = .returned (.tuple #[]) ∧ Pile w' b0 pb (x :: xs) ∧ Below b0 w w' := by
  obtain ⟨A, c, h1, h2⟩ := h.ex
  have H1 := Lib.hid h1
  have H2 := Lib.hid h2
  have hlo := h.lo
  have hcx := h1.cells
  clear h h1 h2
  go_enter Try.func78, Try.ntmps78
  go_wp2_with (at_builtin; refine wpList_app elI rfl (.tmp 8) (.tmp 10) rfl b0 _ xs.length _ rfl (own_below H2.out (by go_grown)) _ [.int .i64 x] rfl (Row.new [.int .i64 x] 3 1 (by simp) (by decide) _ _ rfl) (by simp [Value.oneCell']) ?_ ?_ ?_ ?_)
  case refine_1 => simp; unfold maxLen; omega
  case refine_2 => simp; omega
  case refine_3 => simp; omega
  intro v7 w7 own7 hg7 _
  have hal := (Below.refl b0 w).alloc hb0 (.cells #[.int .i64 x] 3)
  have ow := own_below H2.out ((Below.refl _ _).alloc (Nat.le_refl _) (.cells #[.int .i64 x] 3))
  have hb7 : Below b0 w w7 := below_app hal (by simp; omega) ow hg7 (Nat.le_refl _)
  have hB7 : Blk w7 pb 122 #[.slice A xs.length c] := by
    refine (hg7.block pb (by simp; have := H1.out.lt; omega) ?_).trans (H1.out.al _)
    intro he
    rcases ow.2 with ⟨h0, _⟩ | ⟨g, cap, cur, hv, hbg, hgg, _⟩
    · rw [h0] at he; simp [Value.ownBlock] at he
    · rw [hv] at he
      simp [Value.ownBlock] at he
      subst he
      have := hgg.symm.trans (H1.out.al _)
      injection this with this
      injection this with _ h2 _
      exact absurd h2 (by decide)
  have own8 : w7.ownsRow b0 3 1 v7 (xs.length + 1) ((x :: xs).reverse.map (.int .i64)) := by simpa [List.map_reverse] using own7
  obtain ⟨A7, c7, rfl⟩ := own_shape own8
  have HB7 := Lib.hid hB7
  have HO8 := Lib.hid own8
  have hc7 := hB7.cells
  have hf7 := hB7.froz
  have hl7 := hB7.lt
  clear own7 own8 hg7 hB7 hcx hal ow
  go_wp2
  go_end0
  exact ⟨rfl, ⟨⟨A7, c7, HB7.out.set 0 _, own_typed HO8.out HB7.out (by decide) _ _⟩, hlo⟩, hb7.setCell (p := ⟨pb, 0, none⟩) hlo _⟩

set_option maxHeartbeats 2000000 in
theorem take_some (w : World) (b0 pb : Nat) (xs : List Int) (x : Int) (h : Pile w b0 pb (x :: xs)) (hx : xs.length ≤ 1000) :
    Calls Try.prog 67 #[.pointer (some ⟨pb, 0, none⟩)] w fun e w' => e = .returned (.int .i64 x) ∧ Pile w' b0 pb xs ∧ Below b0 w w' := by
  obtain ⟨A, c, h1, h2⟩ := h.ex
  rw [List.reverse_cons, List.map_append] at h2
  obtain ⟨h3, ad, rfl, hc, hcap, hcapm⟩ := own_cut (n := xs.length) h2 (by simp)
  have H1 := Lib.hid h1
  have H3 := Lib.hid h3
  have hlo := h.lo
  have hcx := h1.cells
  have hfx := h1.froz
  have hlx := h1.lt
  have hwr : IntKind.i64.wrap (((xs.length + 1 : Nat) : Int) - 1) = (xs.length : Int) := by rw [IntWalk.i64_in _ (by omega)]; omega
  have hneg : decide ((xs.length : Int) < 0) = false := decide_eq_false (by omega)
  have hlt : (xs.length : Int) < ((xs.length + 1 : Nat) : Int) := by omega
  have hle : (xs.length : Int) ≤ (c : Int) := by omega
  clear h h1 h2 h3
  go_enter Try.func67, Try.ntmps67
  go_wp2
  go_ret
  exact ⟨rfl, ⟨⟨_, c, H1.out.set 0 _, own_typed H3.out H1.out (by decide) _ _⟩, hlo⟩, (Below.refl _ _).setCell (p := ⟨pb, 0, none⟩) hlo _⟩

theorem take_none (w : World) (b0 pb : Nat) (h : Pile w b0 pb []) :
    Calls Try.prog 67 #[.pointer (some ⟨pb, 0, none⟩)] w fun e w' => e = .panicked [flt] ∧ Below b0 w w' := by
  obtain ⟨A, c, h1, h2⟩ := h.ex
  have hcx := h1.cells
  clear h h1 h2
  go_enter Try.func67, Try.ntmps67
  go_wp2
  exact ⟨rfl, rfl, Below.refl _ _⟩
end Go.Proofs.Ytcdmojimdiiepaa
