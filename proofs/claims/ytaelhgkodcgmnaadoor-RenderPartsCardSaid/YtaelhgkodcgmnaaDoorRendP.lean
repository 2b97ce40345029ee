/- Layer 23: kinds of words (made by mk23p.py). -/
import Derived.Test.YtaelhgkodcgmnaaDoorRendO
import Derived.Lib.OthersKept
import Derived.Laws.RangeAny
namespace Go.Proofs.YtaelhgkodcgmnaaDoor
open Go.ChangeShapes Go.WideShapes Go.ChangeAt Go.RowKit Go.Deep
open Go.Shelf
set_option linter.unusedVariables false
set_option linter.unusedSimpArgs false

theorem enc118 : (Utf8.encode 118).data.toList = [118] := by decide +kernel
theorem enc109 : (Utf8.encode 109).data.toList = [109] := by decide +kernel
theorem enc117 : (Utf8.encode 117).data.toList = [117] := by decide +kernel
theorem enc114 : (Utf8.encode 114).data.toList = [114] := by decide +kernel

def kinds4 : ByteArray := ⟨#[118, 109, 117, 114]⟩
theorem pre_one {l : Str} {b : UInt8} : Lib.hasPrefix l [b] = true ↔ ∃ t, l = b :: t := by
  unfold Lib.hasPrefix
  cases l with
  | nil => simp
  | cons a t =>
    simp [List.isPrefixOf]
    exact eq_comm
def noKind (l : Str) (p : Nat) : Prop := ∀ b t, l = b :: t → (1 ≤ p → b ≠ 118) ∧ (2 ≤ p → b ≠ 109) ∧ (3 ≤ p → b ≠ 117) ∧ (4 ≤ p → b ≠ 114)
theorem noKind.zero (l : Str) : noKind l 0 := fun b t e => ⟨by omega, by omega, by omega, by omega⟩
theorem noKind.step0 {l : Str} (h : noKind l 0) (hp : Lib.hasPrefix l [118] = false) : noKind l 1 := by
  intro b t e
  have h0 := h b t e
  have hb : b ≠ 118 := by
    intro hb
    subst hb
    have := (pre_one (l := l) (b := 118)).2 ⟨t, e⟩
    rw [this] at hp
    cases hp
  refine ⟨?_, ?_, ?_, ?_⟩ <;> intro hq <;> first | exact hb | exact h0.1 (by omega) | exact h0.2.1 (by omega) | exact h0.2.2.1 (by omega) | exact h0.2.2.2 (by omega) | omega
theorem noKind.hit0 {l : Str} (h : noKind l 0) (hp : Lib.hasPrefix l [118] = true) : kindR l = 1 := by
  obtain ⟨t, e⟩ := pre_one.1 hp
  subst e
  rfl
theorem noKind.step1 {l : Str} (h : noKind l 1) (hp : Lib.hasPrefix l [109] = false) : noKind l 2 := by
  intro b t e
  have h0 := h b t e
  have hb : b ≠ 109 := by
    intro hb
    subst hb
    have := (pre_one (l := l) (b := 109)).2 ⟨t, e⟩
    rw [this] at hp
    cases hp
  refine ⟨?_, ?_, ?_, ?_⟩ <;> intro hq <;> first | exact hb | exact h0.1 (by omega) | exact h0.2.1 (by omega) | exact h0.2.2.1 (by omega) | exact h0.2.2.2 (by omega) | omega
theorem noKind.hit1 {l : Str} (h : noKind l 1) (hp : Lib.hasPrefix l [109] = true) : kindR l = 2 := by
  obtain ⟨t, e⟩ := pre_one.1 hp
  subst e
  rfl
theorem noKind.step2 {l : Str} (h : noKind l 2) (hp : Lib.hasPrefix l [117] = false) : noKind l 3 := by
  intro b t e
  have h0 := h b t e
  have hb : b ≠ 117 := by
    intro hb
    subst hb
    have := (pre_one (l := l) (b := 117)).2 ⟨t, e⟩
    rw [this] at hp
    cases hp
  refine ⟨?_, ?_, ?_, ?_⟩ <;> intro hq <;> first | exact hb | exact h0.1 (by omega) | exact h0.2.1 (by omega) | exact h0.2.2.1 (by omega) | exact h0.2.2.2 (by omega) | omega
theorem noKind.hit2 {l : Str} (h : noKind l 2) (hp : Lib.hasPrefix l [117] = true) : kindR l = 3 := by
  obtain ⟨t, e⟩ := pre_one.1 hp
  subst e
  rfl
theorem noKind.step3 {l : Str} (h : noKind l 3) (hp : Lib.hasPrefix l [114] = false) : noKind l 4 := by
  intro b t e
  have h0 := h b t e
  have hb : b ≠ 114 := by
    intro hb
    subst hb
    have := (pre_one (l := l) (b := 114)).2 ⟨t, e⟩
    rw [this] at hp
    cases hp
  refine ⟨?_, ?_, ?_, ?_⟩ <;> intro hq <;> first | exact hb | exact h0.1 (by omega) | exact h0.2.1 (by omega) | exact h0.2.2.1 (by omega) | exact h0.2.2.2 (by omega) | omega
theorem noKind.hit3 {l : Str} (h : noKind l 3) (hp : Lib.hasPrefix l [114] = true) : kindR l = 4 := by
  obtain ⟨t, e⟩ := pre_one.1 hp
  subst e
  rfl
theorem noKind.none {l : Str} (h : noKind l 4) : kindR l = 0 := by
  cases l with
  | nil => rfl
  | cons b t =>
    obtain ⟨h1, h2, h3, h4⟩ := h b t rfl
    show (if b = 118 then (1 : Int) else if b = 109 then 2 else if b = 117 then 3 else if b = 114 then 4 else 0) = 0
    rw [if_neg (h1 (by omega)), if_neg (h2 (by omega)), if_neg (h3 (by omega)), if_neg (h4 (by omega))]

set_option maxRecDepth 100000 in
set_option maxHeartbeats 4000000 in
theorem kindOf_any (s : ByteArray) (w : World) :
    Calls Tryd.prog 57 #[.string s] w fun e w' => e = .returned (.int .i64 (kindR s.data.toList)) ∧ Below w.heap.size w w' := by
  go_enter Tryd.func57, Tryd.ntmps57
  go_wp2_with fail
  go_loopw [3] (fun _ wr => ∃ pos : Nat, pos ≤ 4 ∧ wr.heap[w.heap.size]? = some (.stringIter kinds4 pos) ∧ Below w.heap.size w wr ∧ noKind s.data.toList pos) (fun _ wr => 4 - wr.iterPos w.heap.size)
  case atStart =>
    exact ⟨0, by omega, World.iter_heap w kinds4 0, (Below.refl _ w).alloc (Nat.le_refl _) _, noKind.zero _⟩
  case round =>
    obtain ⟨pos, hp4, hit, hbw, hno⟩ := hrel
    have hsz : w.heap.size < wr.heap.size := (Array.getElem?_eq_some_iff.1 hit).1
    have hcase : pos = 0 ∨ pos = 1 ∨ pos = 2 ∨ pos = 3 ∨ pos = 4 := by omega
    rcases hcase with rfl | rfl | rfl | rfl | rfl
    · have hnx : ∀ ty, (Instr.next (.pointer (some ⟨w.heap.size, 0, none⟩)) true ty).run Tryd.prog wr = .ok (.tuple #[.bool true, .int .i64 0, .int .i32 118]) (wr.iterAt w.heap.size kinds4 1) := fun ty => Lib.run_next_ascii_at wr w.heap.size kinds4 0 ty hit (by decide) (by decide)
      have hit2 := Lib.iterAt_heap wr w.heap.size kinds4 0 1 hit
      have hbw2 := Lib.below_iterAt hbw (k := w.heap.size) (Nat.le_refl _) kinds4 1
      go_wp2_with (go_at_call 74; refine (Tryd.strings_HasPrefix s (Utf8.encode 118) _).mono ?_; rintro e W1 ⟨rfl, rfl⟩; rw [enc118])
      case roundEnd =>
        rename_i hpre
        refine ⟨⟨1, by omega, hit2, hbw2, hno.step0 hpre⟩, ?_⟩
        simp only [World.iterPos, hit2, hit]
        omega
      rename_i hpre
      go_ret
      refine ⟨?_, hbw2⟩
      rw [hno.hit0 hpre]
      rfl
    · have hnx : ∀ ty, (Instr.next (.pointer (some ⟨w.heap.size, 0, none⟩)) true ty).run Tryd.prog wr = .ok (.tuple #[.bool true, .int .i64 1, .int .i32 109]) (wr.iterAt w.heap.size kinds4 2) := fun ty => Lib.run_next_ascii_at wr w.heap.size kinds4 1 ty hit (by decide) (by decide)
      have hit2 := Lib.iterAt_heap wr w.heap.size kinds4 1 2 hit
      have hbw2 := Lib.below_iterAt hbw (k := w.heap.size) (Nat.le_refl _) kinds4 2
      go_wp2_with (go_at_call 74; refine (Tryd.strings_HasPrefix s (Utf8.encode 109) _).mono ?_; rintro e W1 ⟨rfl, rfl⟩; rw [enc109])
      case roundEnd =>
        rename_i hpre
        refine ⟨⟨2, by omega, hit2, hbw2, hno.step1 hpre⟩, ?_⟩
        simp only [World.iterPos, hit2, hit]
        omega
      rename_i hpre
      go_ret
      refine ⟨?_, hbw2⟩
      rw [hno.hit1 hpre]
      rfl
    · have hnx : ∀ ty, (Instr.next (.pointer (some ⟨w.heap.size, 0, none⟩)) true ty).run Tryd.prog wr = .ok (.tuple #[.bool true, .int .i64 2, .int .i32 117]) (wr.iterAt w.heap.size kinds4 3) := fun ty => Lib.run_next_ascii_at wr w.heap.size kinds4 2 ty hit (by decide) (by decide)
      have hit2 := Lib.iterAt_heap wr w.heap.size kinds4 2 3 hit
      have hbw2 := Lib.below_iterAt hbw (k := w.heap.size) (Nat.le_refl _) kinds4 3
      go_wp2_with (go_at_call 74; refine (Tryd.strings_HasPrefix s (Utf8.encode 117) _).mono ?_; rintro e W1 ⟨rfl, rfl⟩; rw [enc117])
      case roundEnd =>
        rename_i hpre
        refine ⟨⟨3, by omega, hit2, hbw2, hno.step2 hpre⟩, ?_⟩
        simp only [World.iterPos, hit2, hit]
        omega
      rename_i hpre
      go_ret
      refine ⟨?_, hbw2⟩
      rw [hno.hit2 hpre]
      rfl
    · have hnx : ∀ ty, (Instr.next (.pointer (some ⟨w.heap.size, 0, none⟩)) true ty).run Tryd.prog wr = .ok (.tuple #[.bool true, .int .i64 3, .int .i32 114]) (wr.iterAt w.heap.size kinds4 4) := fun ty => Lib.run_next_ascii_at wr w.heap.size kinds4 3 ty hit (by decide) (by decide)
      have hit2 := Lib.iterAt_heap wr w.heap.size kinds4 3 4 hit
      have hbw2 := Lib.below_iterAt hbw (k := w.heap.size) (Nat.le_refl _) kinds4 4
      go_wp2_with (go_at_call 74; refine (Tryd.strings_HasPrefix s (Utf8.encode 114) _).mono ?_; rintro e W1 ⟨rfl, rfl⟩; rw [enc114])
      case roundEnd =>
        rename_i hpre
        refine ⟨⟨4, by omega, hit2, hbw2, hno.step3 hpre⟩, ?_⟩
        simp only [World.iterPos, hit2, hit]
        omega
      rename_i hpre
      go_ret
      refine ⟨?_, hbw2⟩
      rw [hno.hit3 hpre]
      rfl
    · have hnx : ∀ ty, (Instr.next (.pointer (some ⟨w.heap.size, 0, none⟩)) true ty).run Tryd.prog wr = .ok (.tuple #[.bool false]) wr := fun ty => Lib.run_next_end_at wr w.heap.size kinds4 4 ty hit (by decide)
      go_wp2_with fail
      go_ret
      refine ⟨?_, hbw⟩
      rw [hno.none]
      rfl
end Go.Proofs.YtaelhgkodcgmnaaDoor
