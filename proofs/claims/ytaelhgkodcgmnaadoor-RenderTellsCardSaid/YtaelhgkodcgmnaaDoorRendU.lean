/- Layer 23: a line's words (strings.Split). -/
import Derived.Test.YtaelhgkodcgmnaaDoorRendT
namespace Go.Proofs.YtaelhgkodcgmnaaDoor
open Go.ChangeShapes Go.WideShapes Go.ChangeAt Go.RowKit Go.Deep
open Go.Shelf
set_option linter.unusedVariables false
set_option linter.unusedSimpArgs false

theorem split_words (s : ByteArray) : D (Lib.splitB ⟨#[32]⟩ 0 (Lib.countB s ⟨#[32]⟩) s) = spl 32 s.data.toList := by
  unfold D
  rw [Lib.splitB_data, ← split_spl]
  rfl
theorem count_le (s : ByteArray) : Lib.countB s ⟨#[32]⟩ ≤ s.size := by
  show Lib.count s.data.toList [32] ≤ s.data.toList.length
  rw [Lib.count_one]
  exact List.count_le_length
theorem split_any (s : ByteArray) (hs : s.size < 4294967281) (w : World) (hE : Env w) :
    Calls Tryd.prog 21 #[.string s, .string ⟨#[32]⟩] w fun e w' => (∃ v ps, e = .returned v ∧ WRow w' v ps ∧ D ps = spl 32 s.data.toList) ∧ Below w.heap.size w w' := by
  obtain ⟨m, hm⟩ := hE.len
  refine (Tryd.strings_Split s ⟨#[32]⟩ m w hs hm (by decide)).mono ?_
  rintro e w' ⟨rfl, rfl⟩
  have hl : (Lib.splitB ⟨#[32]⟩ 0 (Lib.countB s ⟨#[32]⟩) s).length = Lib.countB s ⟨#[32]⟩ + 1 := Lib.splitB_all _ (by decide) 0 _ s rfl
  have hc := count_le s
  refine ⟨⟨_, _, rfl, ⟨?_, ?_⟩, split_words s⟩, (Below.refl _ w).alloc (Nat.le_refl _) _⟩
  · have := Row.new ((Lib.splitB ⟨#[32]⟩ 0 (Lib.countB s ⟨#[32]⟩) s).map Value.string) 9 (Lib.countB s ⟨#[32]⟩ + 1) (by rw [List.length_map, hl]; exact Nat.le_refl _) (by unfold maxLen; omega) w _ rfl
    rw [List.length_map, hl] at this
    exact this
  · intro A n c e
    injection e with e
    injection e with e
    rw [← e]
end Go.Proofs.YtaelhgkodcgmnaaDoor
