/- Layer 2: sums. -/
import Derived.Test.YtkpdfapfcmlhhaaCrcB
namespace Go.Proofs.Ytkpdfapfcmlhhaa
open Go.ChangeShapes Go.WideShapes Go.ChangeAt Go.RowKit
set_option linter.unusedVariables false
set_option linter.unusedSimpArgs false

set_option maxHeartbeats 2000000 in
theorem take_any (s x : Nat) (b1 b2 : Nat) (w : World) (hs : s < 4294967296) (hx : x < 256) (h1 : Blk w b1 49 #[.int .u32 s]) (h2 : Blk w b2 51 (tabTo 256)) (hne : b1 ≠ b2) :
    Calls Try.prog 31 #[.int .u8 x, .pointer (some ⟨b1, 0, none⟩), .pointer (some ⟨b2, 0, none⟩)] w fun e w' =>
      e = .returned (.tuple #[]) ∧ ∃ n, (w.setCell ⟨b1, 0, none⟩ (.int .u32 (steps 8 (s ^^^ x) : Nat))).drewN n = w' := by
  have c1 : w.cell? ⟨b1, 0, none⟩ = some (.int .u32 s) := by rw [h1.cells]; rfl
  have f1 := h1.froz 0
  have hi : (s % 256) ^^^ x < 256 := Nat.xor_lt_two_pow (n := 8) (by omega) (by omega)
  have c2 : w.cell? ⟨b2, (s % 256) ^^^ x, none⟩ = some (.int .u32 (steps 8 ((s % 256) ^^^ x) : Nat)) := by
    rw [h2.cells, tab_at _ _ hi, if_pos hi]
  have x8 : bits .xor .u8 ((s : Int) % 256) (x : Int) = (((s % 256) ^^^ x : Nat) : Int) := by
    have h := u8_xor_nat (s % 256) x (by omega) hx
    have e : ((s % 256 : Nat) : Int) = (s : Int) % 256 := by omega
    rw [e] at h
    exact h
  have hst := steps_lt 8 ((s % 256) ^^^ x) (by omega)
  have x32 : bits .xor .u32 ((s : Int) / 256) ((steps 8 ((s % 256) ^^^ x) : Nat) : Int) = ((steps 8 (s ^^^ x) : Nat) : Int) := by
    have h := u32_xor_nat (s / 256) (steps 8 ((s % 256) ^^^ x)) (by omega) hst
    have e : ((s / 256 : Nat) : Int) = (s : Int) / 256 := by omega
    rw [e, by_table] at h
    exact h
  clear h1 h2
  generalize (s % 256) ^^^ x = i at *
  generalize steps 8 (s ^^^ x) = r at *
  generalize steps 8 i = q at *
  have hi1 : (i : Int) < 256 := by omega
  have hi0 : (0 : Int) ≤ (i : Int) := by omega
  go_enter Try.func31, Try.ntmps31
  go_region
  all_goals
    go_wp2
    go_returns
    exact ⟨rfl, 1, rfl⟩

/-- A row of bytes, as numbers. -/
def NB (w : World) (v : Value) (bs : List Nat) : Prop := Row w v (bs.map fun x : Nat => Value.int .u8 (x : Int)) ∧ ∀ x ∈ bs, x < 256
theorem NB.below {w w' : World} {v : Value} {bs : List Nat} (h : NB w v bs) (hb : Below w.heap.size w w') : NB w' v bs := ⟨h.1.below hb, h.2⟩
theorem NB.of_ints {w : World} {v : Value} {zs : List Int} (h : Ints .u8 w v zs) : NB w v (zs.map Int.toNat) := by
  refine ⟨?_, ?_⟩
  · rw [List.map_map]
    have e : zs.map ((fun x : Nat => Value.int .u8 (x : Int)) ∘ Int.toNat) = zs.map (Value.int .u8) := by
      apply List.map_congr_left
      intro z hz
      have := wf_u8 (h.2 z hz)
      show Value.int .u8 ((z.toNat : Nat) : Int) = _
      rw [Int.toNat_of_nonneg this.1]
    rw [e]
    exact h.1
  · intro x hx
    obtain ⟨z, hz, rfl⟩ := List.mem_map.1 hx
    have := wf_u8 (h.2 z hz)
    omega
theorem feed_snoc (s : Nat) (l : List Nat) (x : Nat) : feed s (l ++ [x]) = steps 8 (feed s l ^^^ x) := by simp [feed]

def low32 (sum : Int) : Nat := (sum % 4294967296).toNat
theorem low32_lt (sum : Int) : low32 sum < 4294967296 := by unfold low32; omega
def more (sum : Int) (l : List Nat) : Nat := sumN (low32 sum) l

set_option maxRecDepth 10000 in
set_option maxHeartbeats 4000000 in
theorem more_any (sum : Int) (v : Value) (l : List Nat) (w : World) (hl : NB w v l) :
    Calls Try.prog 29 #[.int .i64 sum, v] w fun e w' => e = .returned (.int .i64 (more sum l : Nat)) ∧ Below w.heap.size w w' := by
  obtain ⟨⟨A, c, rfl, hc, hcm, hA⟩, h256⟩ := hl
  rw [List.length_map] at hc hA ⊢
  unfold maxLen at hcm
  have HC : Hid (∀ (k x : Nat), l[k]? = some x → ∃ ad, A = some ad ∧ ad.block < w.heap.size ∧ w.cell? (ad.add k) = some (.int .u8 (x : Int)) ∧ x < 256) := Lib.hid (by
    intro k x hx
    have hk : k < l.length := (List.getElem?_eq_some_iff.1 hx).1
    rcases hA with ⟨_, h0⟩ | ⟨ad, h1, h2, h3⟩
    · omega
    · exact ⟨ad, h1, h2 (by omega), h3 k _ (by rw [List.getElem?_map, hx]; rfl), h256 x (List.mem_of_getElem? hx)⟩)
  have HL := Lib.hid h256
  clear hA h256
  have hz := (zero_of_info zeroT).1
  have hl32 := low32_lt sum
  have hx0 : bits .xor .u32 IntKind.u32.max (sum % 4294967296) = ((4294967295 - low32 sum : Nat) : Int) := by
    have h := u32_xor_nat 4294967295 (low32 sum) (by decide) hl32
    rw [← not_xor _ hl32] at h
    have e : ((low32 sum : Nat) : Int) = sum % 4294967296 := by unfold low32; omega
    rw [e] at h
    exact h
  have HM := Lib.hid (show more sum l = 4294967295 - feed (4294967295 - low32 sum) l from rfl)
  have hS : 4294967295 - low32 sum < 4294967296 := by omega
  clear hl32
  generalize 4294967295 - low32 sum = S at *
  go_enter Try.func29, Try.ntmps29
  go_wp2_with fail
  have HN := Lib.hid (Blk.new w 49 #[.int .u32 (S : Int)] _ rfl)
  refine (sums_any _).mono ?_
  rintro e w1 ⟨rfl, hk1⟩
  have hb1 : Below w.heap.size w w1 := (show Below w.heap.size w _ by go_grown).trans (hk1.mono (by simp))
  have HN1 := Lib.hid (HN.out.below hk1)
  have l1 := HN1.out.lt
  clear hk1 HN hx0
  go_wp2_with (with_reducible show wpList _ _ _ _ _ _; refine wpList_store_row rfl 51 (.tmp 6) (.tmp 13) rfl w1.heap.size (tabTo 256) rfl rfl 51 (tabTo 1) (heap_alloc_last _ _) (sizeT 256) (by rw [tab_size, tab_size]) (tab_one 256) ?_; rw [World.setRow_alloc_new])
  clear hz
  go_loopw [17] (fun i wr => ∃ k : Nat, k ≤ l.length ∧ i = .int .i64 k ∧ Below w.heap.size w wr ∧ Blk wr w.heap.size 49 #[.int .u32 (feed S (l.take k) : Nat)] ∧ Blk wr w1.heap.size 51 (tabTo 256)) (fun i _ => l.length - (intOf i).toNat)
  case atStart => exact ⟨0, Nat.zero_le _, rfl, hb1.alloc (by omega) _, HN1.out.al _, Blk.new _ _ _ _ rfl⟩
  case round =>
    obtain ⟨k, hk, rfl, hb, hn, ht⟩ := hrel
    have hft := feed_lt S (l.take k) hS (fun x hx => HL.out x (List.mem_of_mem_take hx))
    by_cases hlt : k < l.length
    · obtain ⟨x, hx⟩ : ∃ x, l[k]? = some x := ⟨_, List.getElem?_eq_getElem hlt⟩
      obtain ⟨ad, rfl, had, hcx, hx8⟩ := HC.out k x hx
      have hcx' : wr.cell? (ad.add k) = some (.int .u8 x) := by rw [hb.cell (by rw [block_add]; exact had)]; exact hcx
      have HE := Lib.hid (show feed S (l.take (k + 1)) = steps 8 (feed S (l.take k) ^^^ x) by rw [List.take_add_one, hx]; exact feed_snoc _ _ _)
      have HNr := Lib.hid hn
      have HTr := Lib.hid ht
      clear hx hcx hn ht
      generalize feed S (l.take k) = t at *
      go_wp2_with fail
      refine (take_any t x w.heap.size w1.heap.size _ hft hx8 HNr.out HTr.out (by omega)).mono ?_
      rintro e w2 ⟨rfl, nq, rfl⟩
      clear hcx'
      go_wp2
      go_roundw
      case rel =>
        refine ⟨k + 1, by omega, by go_num, Bdrew (hb.setCell (Nat.le_refl _) _) _, ?_, ?_⟩
        · rw [HE.out]; exact (HNr.out.set 0 _).drwN _
        · exact (HTr.out.setO (by omega) _ _).drwN _
      case measure => simp [intOf]; omega
    · have : k = l.length := by omega
      subst this
      rw [List.take_length] at hn hft
      have hx1 : bits .xor .u32 IntKind.u32.max ((feed S l : Nat) : Int) = ((4294967295 - feed S l : Nat) : Int) := by
        have h := u32_xor_nat 4294967295 (feed S l) (by decide) hft
        rw [← not_xor _ hft] at h
        exact h
      have cn := hn.cells
      have hm : 4294967295 - feed S l < 4294967296 := by omega
      rw [← HM.out] at hx1 hm
      clear hn ht
      go_wp2
      go_ret
      exact ⟨by simp, hb⟩

theorem sum_any (v : Value) (l : List Nat) (w : World) (hl : NB w v l) :
    Calls Try.prog 27 #[v] w fun e w' => e = .returned (.int .i64 (sumN 0 l : Nat)) ∧ Below w.heap.size w w' := by
  go_enter Try.func27, Try.ntmps27
  go_wp2_with fail
  refine (more_any 0 v l _ hl).mono ?_
  rintro e w1 ⟨rfl, hk1⟩
  go_wp2
  go_ret
  exact ⟨rfl, hk1⟩
end Go.Proofs.Ytkpdfapfcmlhhaa
