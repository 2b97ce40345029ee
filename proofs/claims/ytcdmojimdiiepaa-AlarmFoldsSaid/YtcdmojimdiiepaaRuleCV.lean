/- Layer 18: the table of works. -/
import Derived.Test.YtcdmojimdiiepaaRuleBV
import Derived.WideMake
import Derived.Laws.EntriesVeiled
import Derived.WalkLawsBesides
namespace Go.Proofs.Ytcdmojimdiiepaa
open Go.ChangeShapes Go.WideShapes Go.ChangeAt Go.RowKit
set_option linter.unusedVariables false
set_option linter.unusedSimpArgs false

theorem run_ins {P : Program} (W : World) (mty kt et : TypeId) (r clock : Nat) (es : Array MapEntry) (n : Int) (val : Value) (hm : P.underlying mty = some (.map kt et)) (hk : P.underlying kt = some (.int .i64)) (hb : W.heap[r]? = some (.map es clock)) (hf : Instr.findNow (.int .i64) (.int .i64 n) es.toList 0 = some none) :
    (Instr.mapUpdate mty (.map (some r)) (.int .i64 n) val).run P W = .ok () { W with heap := W.heap.setIfInBounds r (.map (es.push { key := .int .i64 n, val := val, born := clock }) (clock + 1)) } := by
  have hc : (Instr.checkKey false 10000 kt (.int .i64 n)).run P W = .ok () W := MapKept.run_checkKey (k := .int .i64 n) hk (by simp [MapKept.IsKey]) false 9999
  simp [Instr.mapUpdate, run_underlying hm, MapKept.run_getObj_map hb, hc, MapKept.run_findKey hk hf, MapKept.run_setObj_map _ hb, Result.andThen]
theorem arr1 {α : Type} (a : Array α) (m m2 o1 : α) : ((a.push m).push o1).setIfInBounds a.size m2 = (a.push m2).push o1 := by
  apply Array.ext_getElem?
  intro i
  simp only [Array.getElem?_setIfInBounds, Array.getElem?_push, Array.size_push]
  (repeat' split) <;> first | rfl | omega | (subst_vars; omega) | (exfalso; omega)
theorem arr2 {α : Type} (a : Array α) (m m2 o1 o2 : α) : (((a.push m).push o1).push o2).setIfInBounds a.size m2 = ((a.push m2).push o1).push o2 := by
  apply Array.ext_getElem?
  intro i
  simp only [Array.getElem?_setIfInBounds, Array.getElem?_push, Array.size_push]
  (repeat' split) <;> first | rfl | omega | (subst_vars; omega) | (exfalso; omega)
theorem set1 (W : World) (m m2 o1 : Obj) : { (W.alloc m).alloc o1 with heap := ((W.alloc m).alloc o1).heap.setIfInBounds W.heap.size m2 } = (W.alloc m2).alloc o1 :=
  congrArg (fun h => ({ W with heap := h } : World)) (arr1 W.heap m m2 o1)
theorem set2 (W : World) (m m2 o1 o2 : Obj) : { ((W.alloc m).alloc o1).alloc o2 with heap := (((W.alloc m).alloc o1).alloc o2).heap.setIfInBounds W.heap.size m2 } = ((W.alloc m2).alloc o1).alloc o2 :=
  congrArg (fun h => ({ W with heap := h } : World)) (arr2 W.heap m m2 o1 o2)
theorem atB1 (W : World) (m o1 : Obj) : ((W.alloc m).alloc o1).heap[W.heap.size]? = some m := by
  show ((W.heap.push m).push o1)[W.heap.size]? = _
  simp [Array.getElem?_push]
theorem atB2 (W : World) (m o1 o2 : Obj) : (((W.alloc m).alloc o1).alloc o2).heap[W.heap.size]? = some m := by
  show (((W.heap.push m).push o1).push o2)[W.heap.size]? = _
  simp [Array.getElem?_push]
  omega
def fvA (k b c : Nat) : Value := .func (.func k) #[] #[.pointer (some ⟨b, 0, none⟩), .pointer (some ⟨c, 0, none⟩)]
theorem uM : Try.prog.underlying 119 = some (.map 3 123) := by kernel_rfl
/-- the table, in memory -/
structure Works (w : World) (cv : Value) (mb cb wa wb : Nat) : Prop where
  cell : w.cell? ⟨cb, 0, none⟩ = some cv
  above : w.cell? ⟨wa, 0, none⟩ = some (.func (.func 79) #[] #[])
  under : w.cell? ⟨wb, 0, none⟩ = some (.func (.func 80) #[] #[])
  map : w.heap[mb]? = some (.map #[{ key := .int .i64 1, val := .func (.func 76) #[] #[.pointer (some ⟨cb, 0, none⟩), .pointer (some ⟨wa, 0, none⟩)], born := 0 }, { key := .int .i64 2, val := .func (.func 76) #[] #[.pointer (some ⟨cb, 0, none⟩), .pointer (some ⟨wb, 0, none⟩)], born := 1 }, { key := .int .i64 3, val := (.func (.func 81) #[] #[]), born := 2 }, { key := .int .i64 4, val := (.func (.func 83) #[] #[]), born := 3 }, { key := .int .i64 5, val := (.func (.func 85) #[] #[]), born := 4 }] 5)
  lt : cb < w.heap.size ∧ wa < w.heap.size ∧ wb < w.heap.size ∧ mb < w.heap.size
theorem Works.below {w w' : World} {cv : Value} {mb cb wa wb B : Nat} (h : Works w cv mb cb wa wb) (hb : Below B w w') (h1 : cb < B) (h2 : wa < B) (h3 : wb < B) (h4 : mb < B) : Works w' cv mb cb wa wb :=
  ⟨(hb.cell (p := ⟨cb, 0, none⟩) h1).trans h.cell, (hb.cell (p := ⟨wa, 0, none⟩) h2).trans h.above, (hb.cell (p := ⟨wb, 0, none⟩) h3).trans h.under, (hb.block mb h4).trans h.map, by have := hb.size; have := h.lt; omega⟩

set_option maxRecDepth 100000 in
set_option maxHeartbeats 8000000 in
theorem works_any (F : FuncId) (caps : Array Value) (w : World) :
    Calls Try.prog 66 #[.func (.func F) #[] caps] w fun e w' => ∃ mb cb wa wb, e = .returned (.map (some mb)) ∧ Works w' (.func (.func F) #[] caps) mb cb wa wb ∧ Below w.heap.size w w' := by
  have hmf : ∀ (fn : Fn) (first cap : Array Value) (w : World), (Instr.makeFunc fn first cap).run Try.prog w = .ok (.func fn first cap) w := fun _ _ _ _ => rfl
  have hmm : ∀ w : World, (Instr.makeMap 119 none).run Try.prog w = .ok (.map (some w.heap.size)) (w.alloc (.map #[] 0)) := fun w => run_makeMap_plain w _
  obtain ⟨fv1, hf1⟩ : ∃ v, v = Value.func (.func 76) #[] #[.pointer (some ⟨w.heap.size, 0, none⟩), .pointer (some ⟨w.heap.size + 1 + 1, 0, none⟩)] := ⟨_, rfl⟩
  obtain ⟨fv2, hf2⟩ : ∃ v, v = Value.func (.func 76) #[] #[.pointer (some ⟨w.heap.size, 0, none⟩), .pointer (some ⟨w.heap.size + 1 + 1 + 1, 0, none⟩)] := ⟨_, rfl⟩
  obtain ⟨fv3, hf3⟩ : ∃ v, v = Value.func (.func 81) #[] #[] := ⟨_, rfl⟩
  obtain ⟨fv4, hf4⟩ : ∃ v, v = Value.func (.func 83) #[] #[] := ⟨_, rfl⟩
  obtain ⟨fv5, hf5⟩ : ∃ v, v = Value.func (.func 85) #[] #[] := ⟨_, rfl⟩
  have hi1 : (Instr.mapUpdate 119 (.map (some (w.heap.size + 1))) (.int .i64 1) fv1).run Try.prog (((w.alloc (.cells #[.func (.func F) #[] caps] 97)).alloc (.map #[] 0)).alloc (.cells #[(.func (.func 79) #[] #[])] 143)) = .ok () (((w.alloc (.cells #[.func (.func F) #[] caps] 97)).alloc (.map #[{ key := .int .i64 1, val := fv1, born := 0 }] 1)).alloc (.cells #[(.func (.func 79) #[] #[])] 143)) := by
    have h1 := atB1 (w.alloc (.cells #[.func (.func F) #[] caps] 97)) (.map #[] 0) (.cells #[(.func (.func 79) #[] #[])] 143)
    have h2 := set1 (w.alloc (.cells #[.func (.func F) #[] caps] 97)) (.map #[] 0) (.map #[{ key := .int .i64 1, val := fv1, born := 0 }] 1) (.cells #[(.func (.func 79) #[] #[])] 143)
    rw [World.size_alloc] at h1 h2
    rw [← h2]
    exact run_ins _ 119 3 _ _ 0 #[] 1 fv1 uM Try.underlying3 h1 rfl
  have hi2 : (Instr.mapUpdate 119 (.map (some (w.heap.size + 1))) (.int .i64 2) fv2).run Try.prog ((((w.alloc (.cells #[.func (.func F) #[] caps] 97)).alloc (.map #[{ key := .int .i64 1, val := fv1, born := 0 }] 1)).alloc (.cells #[(.func (.func 79) #[] #[])] 143)).alloc (.cells #[(.func (.func 80) #[] #[])] 143)) = .ok () ((((w.alloc (.cells #[.func (.func F) #[] caps] 97)).alloc (.map #[{ key := .int .i64 1, val := fv1, born := 0 }, { key := .int .i64 2, val := fv2, born := 1 }] 2)).alloc (.cells #[(.func (.func 79) #[] #[])] 143)).alloc (.cells #[(.func (.func 80) #[] #[])] 143)) := by
    have h1 := atB2 (w.alloc (.cells #[.func (.func F) #[] caps] 97)) (.map #[{ key := .int .i64 1, val := fv1, born := 0 }] 1) (.cells #[(.func (.func 79) #[] #[])] 143) (.cells #[(.func (.func 80) #[] #[])] 143)
    have h2 := set2 (w.alloc (.cells #[.func (.func F) #[] caps] 97)) (.map #[{ key := .int .i64 1, val := fv1, born := 0 }] 1) (.map #[{ key := .int .i64 1, val := fv1, born := 0 }, { key := .int .i64 2, val := fv2, born := 1 }] 2) (.cells #[(.func (.func 79) #[] #[])] 143) (.cells #[(.func (.func 80) #[] #[])] 143)
    rw [World.size_alloc] at h1 h2
    rw [← h2]
    exact run_ins _ 119 3 _ _ 1 #[{ key := .int .i64 1, val := fv1, born := 0 }] 2 fv2 uM Try.underlying3 h1 rfl
  have hi3 : (Instr.mapUpdate 119 (.map (some (w.heap.size + 1))) (.int .i64 3) fv3).run Try.prog ((((w.alloc (.cells #[.func (.func F) #[] caps] 97)).alloc (.map #[{ key := .int .i64 1, val := fv1, born := 0 }, { key := .int .i64 2, val := fv2, born := 1 }] 2)).alloc (.cells #[(.func (.func 79) #[] #[])] 143)).alloc (.cells #[(.func (.func 80) #[] #[])] 143)) = .ok () ((((w.alloc (.cells #[.func (.func F) #[] caps] 97)).alloc (.map #[{ key := .int .i64 1, val := fv1, born := 0 }, { key := .int .i64 2, val := fv2, born := 1 }, { key := .int .i64 3, val := fv3, born := 2 }] 3)).alloc (.cells #[(.func (.func 79) #[] #[])] 143)).alloc (.cells #[(.func (.func 80) #[] #[])] 143)) := by
    have h1 := atB2 (w.alloc (.cells #[.func (.func F) #[] caps] 97)) (.map #[{ key := .int .i64 1, val := fv1, born := 0 }, { key := .int .i64 2, val := fv2, born := 1 }] 2) (.cells #[(.func (.func 79) #[] #[])] 143) (.cells #[(.func (.func 80) #[] #[])] 143)
    have h2 := set2 (w.alloc (.cells #[.func (.func F) #[] caps] 97)) (.map #[{ key := .int .i64 1, val := fv1, born := 0 }, { key := .int .i64 2, val := fv2, born := 1 }] 2) (.map #[{ key := .int .i64 1, val := fv1, born := 0 }, { key := .int .i64 2, val := fv2, born := 1 }, { key := .int .i64 3, val := fv3, born := 2 }] 3) (.cells #[(.func (.func 79) #[] #[])] 143) (.cells #[(.func (.func 80) #[] #[])] 143)
    rw [World.size_alloc] at h1 h2
    rw [← h2]
    exact run_ins _ 119 3 _ _ 2 #[{ key := .int .i64 1, val := fv1, born := 0 }, { key := .int .i64 2, val := fv2, born := 1 }] 3 fv3 uM Try.underlying3 h1 rfl
  have hi4 : (Instr.mapUpdate 119 (.map (some (w.heap.size + 1))) (.int .i64 4) fv4).run Try.prog ((((w.alloc (.cells #[.func (.func F) #[] caps] 97)).alloc (.map #[{ key := .int .i64 1, val := fv1, born := 0 }, { key := .int .i64 2, val := fv2, born := 1 }, { key := .int .i64 3, val := fv3, born := 2 }] 3)).alloc (.cells #[(.func (.func 79) #[] #[])] 143)).alloc (.cells #[(.func (.func 80) #[] #[])] 143)) = .ok () ((((w.alloc (.cells #[.func (.func F) #[] caps] 97)).alloc (.map #[{ key := .int .i64 1, val := fv1, born := 0 }, { key := .int .i64 2, val := fv2, born := 1 }, { key := .int .i64 3, val := fv3, born := 2 }, { key := .int .i64 4, val := fv4, born := 3 }] 4)).alloc (.cells #[(.func (.func 79) #[] #[])] 143)).alloc (.cells #[(.func (.func 80) #[] #[])] 143)) := by
    have h1 := atB2 (w.alloc (.cells #[.func (.func F) #[] caps] 97)) (.map #[{ key := .int .i64 1, val := fv1, born := 0 }, { key := .int .i64 2, val := fv2, born := 1 }, { key := .int .i64 3, val := fv3, born := 2 }] 3) (.cells #[(.func (.func 79) #[] #[])] 143) (.cells #[(.func (.func 80) #[] #[])] 143)
    have h2 := set2 (w.alloc (.cells #[.func (.func F) #[] caps] 97)) (.map #[{ key := .int .i64 1, val := fv1, born := 0 }, { key := .int .i64 2, val := fv2, born := 1 }, { key := .int .i64 3, val := fv3, born := 2 }] 3) (.map #[{ key := .int .i64 1, val := fv1, born := 0 }, { key := .int .i64 2, val := fv2, born := 1 }, { key := .int .i64 3, val := fv3, born := 2 }, { key := .int .i64 4, val := fv4, born := 3 }] 4) (.cells #[(.func (.func 79) #[] #[])] 143) (.cells #[(.func (.func 80) #[] #[])] 143)
    rw [World.size_alloc] at h1 h2
    rw [← h2]
    exact run_ins _ 119 3 _ _ 3 #[{ key := .int .i64 1, val := fv1, born := 0 }, { key := .int .i64 2, val := fv2, born := 1 }, { key := .int .i64 3, val := fv3, born := 2 }] 4 fv4 uM Try.underlying3 h1 rfl
  have hi5 : (Instr.mapUpdate 119 (.map (some (w.heap.size + 1))) (.int .i64 5) fv5).run Try.prog ((((w.alloc (.cells #[.func (.func F) #[] caps] 97)).alloc (.map #[{ key := .int .i64 1, val := fv1, born := 0 }, { key := .int .i64 2, val := fv2, born := 1 }, { key := .int .i64 3, val := fv3, born := 2 }, { key := .int .i64 4, val := fv4, born := 3 }] 4)).alloc (.cells #[(.func (.func 79) #[] #[])] 143)).alloc (.cells #[(.func (.func 80) #[] #[])] 143)) = .ok () ((((w.alloc (.cells #[.func (.func F) #[] caps] 97)).alloc (.map #[{ key := .int .i64 1, val := fv1, born := 0 }, { key := .int .i64 2, val := fv2, born := 1 }, { key := .int .i64 3, val := fv3, born := 2 }, { key := .int .i64 4, val := fv4, born := 3 }, { key := .int .i64 5, val := fv5, born := 4 }] 5)).alloc (.cells #[(.func (.func 79) #[] #[])] 143)).alloc (.cells #[(.func (.func 80) #[] #[])] 143)) := by
    have h1 := atB2 (w.alloc (.cells #[.func (.func F) #[] caps] 97)) (.map #[{ key := .int .i64 1, val := fv1, born := 0 }, { key := .int .i64 2, val := fv2, born := 1 }, { key := .int .i64 3, val := fv3, born := 2 }, { key := .int .i64 4, val := fv4, born := 3 }] 4) (.cells #[(.func (.func 79) #[] #[])] 143) (.cells #[(.func (.func 80) #[] #[])] 143)
    have h2 := set2 (w.alloc (.cells #[.func (.func F) #[] caps] 97)) (.map #[{ key := .int .i64 1, val := fv1, born := 0 }, { key := .int .i64 2, val := fv2, born := 1 }, { key := .int .i64 3, val := fv3, born := 2 }, { key := .int .i64 4, val := fv4, born := 3 }] 4) (.map #[{ key := .int .i64 1, val := fv1, born := 0 }, { key := .int .i64 2, val := fv2, born := 1 }, { key := .int .i64 3, val := fv3, born := 2 }, { key := .int .i64 4, val := fv4, born := 3 }, { key := .int .i64 5, val := fv5, born := 4 }] 5) (.cells #[(.func (.func 79) #[] #[])] 143) (.cells #[(.func (.func 80) #[] #[])] 143)
    rw [World.size_alloc] at h1 h2
    rw [← h2]
    exact run_ins _ 119 3 _ _ 4 #[{ key := .int .i64 1, val := fv1, born := 0 }, { key := .int .i64 2, val := fv2, born := 1 }, { key := .int .i64 3, val := fv3, born := 2 }, { key := .int .i64 4, val := fv4, born := 3 }] 5 fv5 uM Try.underlying3 h1 rfl
  rw [hf1] at hi1
  rw [hf1, hf2] at hi2
  rw [hf1, hf2, hf3] at hi3
  rw [hf1, hf2, hf3, hf4] at hi4
  rw [hf1, hf2, hf3, hf4, hf5] at hi5
  clear hf1 hf2 hf3 hf4 hf5 fv1 fv2 fv3 fv4 fv5
  go_enter Try.func66, Try.ntmps66
  go_wp2
  go_ret
  refine ⟨_, w.heap.size, w.heap.size + 1 + 1, w.heap.size + 1 + 1 + 1, rfl, ⟨?_, ?_, ?_, ?_, ?_⟩, by go_grown⟩
  · simp [go_sem]
  · simp [go_sem]
  · simp [go_sem]
  · have h1 := atB2 (w.alloc (.cells #[.func (.func F) #[] caps] 97)) (.map #[{ key := .int .i64 1, val := .func (.func 76) #[] #[.pointer (some ⟨w.heap.size, 0, none⟩), .pointer (some ⟨w.heap.size + 1 + 1, 0, none⟩)], born := 0 }, { key := .int .i64 2, val := .func (.func 76) #[] #[.pointer (some ⟨w.heap.size, 0, none⟩), .pointer (some ⟨w.heap.size + 1 + 1 + 1, 0, none⟩)], born := 1 }, { key := .int .i64 3, val := (.func (.func 81) #[] #[]), born := 2 }, { key := .int .i64 4, val := (.func (.func 83) #[] #[]), born := 3 }, { key := .int .i64 5, val := (.func (.func 85) #[] #[]), born := 4 }] 5) (.cells #[(.func (.func 79) #[] #[])] 143) (.cells #[(.func (.func 80) #[] #[])] 143)
    rw [World.size_alloc] at h1
    exact h1
  · simp; omega
end Go.Proofs.Ytcdmojimdiiepaa
