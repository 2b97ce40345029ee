/- Layer 23: a cell of a word. -/
import Derived.Test.YtaelhgkodcgmnaaDoorRendP
namespace Go.Proofs.YtaelhgkodcgmnaaDoor
open Go.ChangeShapes Go.WideShapes Go.ChangeAt Go.RowKit Go.Deep
open Go.Shelf
set_option linter.unusedVariables false
set_option linter.unusedSimpArgs false

/-- what Atoi gives -/
def AtoiE (l : Str) (v : Int) (E : Value) : Prop := (okI (Lib.atoiAll l) = some v ∧ E = .nilIface) ∨ (okI (Lib.atoiAll l) = none ∧ ∃ t a, E = .iface t (.pointer (some a)))
theorem AtoiE.cases {l : Str} {v : Int} {E : Value} (h : AtoiE l v E) : E = .nilIface ∨ ∃ t a, E = .iface t (.pointer (some a)) := by
  rcases h with ⟨_, h⟩ | ⟨_, h⟩
  · exact .inl h
  · exact .inr h
theorem AtoiE.ok {l : Str} {v : Int} (h : AtoiE l v .nilIface) : okI (Lib.atoiAll l) = some v := by
  rcases h with ⟨h, _⟩ | ⟨_, t, a, h⟩
  · exact h
  · cases h
theorem AtoiE.no {l : Str} {v : Int} {t : TypeId} {a : Addr} (h : AtoiE l v (.iface t (.pointer (some a)))) : okI (Lib.atoiAll l) = none := by
  rcases h with ⟨_, h⟩ | ⟨h, _⟩
  · cases h
  · exact h
theorem atoi_any (s : ByteArray) (hlim : s.size ≤ 281474976710656) (w : World) (hE : Env w) :
    Calls Tryd.prog 39 #[.string s] w fun e w' => (∃ v E, e = .returned (.tuple #[.int .i64 v, E]) ∧ AtoiE s.data.toList v E) ∧ Below w.heap.size w w' := by
  rcases h : Lib.atoiAll s.data.toList with v | _ | _
  · refine (Tryd.strconv_Atoi_ok s (by omega) v h w).mono ?_
    rintro e w' ⟨rfl, hw⟩
    refine ⟨⟨v, _, rfl, .inl ⟨by rw [h]; rfl, rfl⟩⟩, ?_⟩
    rcases hw with rfl | ⟨t, rfl⟩
    · exact Below.refl _ _
    · exact Lib.bytesWorld_below _ _ _
  · obtain ⟨tp, p, hv⟩ := hE.syn
    refine (Tryd.strconv_Atoi_syntax_var s hlim h tp p w hv).mono ?_
    rintro e w' ⟨N, rfl, _, _, hb⟩
    exact ⟨⟨_, _, rfl, .inr ⟨by rw [h]; rfl, _, _, rfl⟩⟩, hb⟩
  · obtain ⟨tp, p, hv⟩ := hE.rng
    refine (Tryd.strconv_Atoi_range_var s hlim h tp p w hv).mono ?_
    rintro e w' ⟨N, rfl, _, _, hb⟩
    exact ⟨⟨_, _, rfl, .inr ⟨by rw [h]; rfl, _, _, rfl⟩⟩, hb⟩
/-- what Cut gives -/
def CutV (l : Str) (a b : ByteArray) : Prop := a.data.toList = (Lib.cut l [64]).1 ∧ b.data.toList = (Lib.cut l [64]).2.1
theorem cut_any (s : ByteArray) (hs : s.size < 4294967281) (w : World) (hE : Env w) :
    Calls Tryd.prog 25 #[.string s, .string ⟨#[64]⟩] w fun e w' => (∃ a b o, e = .returned (.tuple #[.string a, .string b, .bool o]) ∧ CutV s.data.toList a b) ∧ Below w.heap.size w w' := by
  obtain ⟨m, hm⟩ := hE.len
  refine (Tryd.strings_Cut s ⟨#[64]⟩ m w hs hm).mono ?_
  rintro e w' ⟨rfl, n, rfl⟩
  exact ⟨⟨_, _, _, rfl, by simp, by simp⟩, Go.Joins.below_draws _ _ _⟩
theorem kindR_cases (l : Str) : kindR l = 1 ∨ kindR l = 0 ∨ kindR l = 2 ∨ kindR l = 3 ∨ kindR l = 4 := by
  cases l with
  | nil => exact .inr (.inl rfl)
  | cons b t =>
    unfold kindR
    repeat' split
    all_goals simp
theorem tail_data (s : ByteArray) : (s.extract 1 s.size).data.toList = s.data.toList.drop 1 := by
  rw [ByteArray.data_extract]
  have h3 : s.size = s.data.toList.length := by rfl
  rw [Array.toList_extract]
  unfold List.extract
  rw [List.take_of_length_le (by rw [List.length_drop, h3]; omega)]
theorem cut_size (l sp : Str) : (Lib.cut l sp).1.length ≤ l.length ∧ (Lib.cut l sp).2.1.length ≤ l.length := by
  unfold Lib.cut
  split
  · refine ⟨?_, ?_⟩
    · show (List.take _ l).length ≤ _
      rw [List.length_take]
      exact Nat.min_le_right _ _
    · show (List.drop _ l).length ≤ _
      rw [List.length_drop]
      exact Nat.sub_le _ _
  · exact ⟨Nat.le_refl _, Nat.zero_le _⟩
theorem CutV.small {s a b : ByteArray} (hs : s.size < 4294967281) (h : CutV (s.data.toList.drop 1) a b) : a.size ≤ 281474976710656 ∧ b.size ≤ 281474976710656 := by
  have h1 := cut_size (s.data.toList.drop 1) [64]
  rw [← h.1, ← h.2, List.length_drop] at h1
  have h3 : s.data.toList.length = s.size := by rfl
  have h4 : a.data.toList.length = a.size := by rfl
  have h5 : b.data.toList.length = b.size := by rfl
  omega
theorem cellR_ok {l : Str} {a b : ByteArray} {v1 v2 : Int} (h : kindR l = 1 ∧ CutV (l.drop 1) a b) (h1 : AtoiE a.data.toList v1 .nilIface) (h2 : AtoiE b.data.toList v2 .nilIface) : cellR l = if true = true then some ⟨1, v1, v2⟩ else none := by
  unfold cellR
  rw [if_pos h.1, ← h.2.1, ← h.2.2, h1.ok, h2.ok]
  rfl
theorem cellR_no1 {l : Str} {a b : ByteArray} {v1 : Int} {t : TypeId} {ad : Addr} {c : Cl} (h : kindR l = 1 ∧ CutV (l.drop 1) a b) (h1 : AtoiE a.data.toList v1 (.iface t (.pointer (some ad)))) : cellR l = if false = true then some c else none := by
  unfold cellR
  rw [if_pos h.1, ← h.2.1, h1.no]
  rfl
theorem cellR_no2 {l : Str} {a b : ByteArray} {v1 : Int} {t : TypeId} {ad : Addr} {c : Cl} (h : kindR l = 1 ∧ CutV (l.drop 1) a b) (h1 : AtoiE b.data.toList v1 (.iface t (.pointer (some ad)))) : cellR l = if false = true then some c else none := by
  unfold cellR
  rw [if_pos h.1, ← h.2.2, h1.no]
  generalize okI (Lib.atoiAll (Lib.cut (List.drop 1 l) [64]).1) = q
  cases q <;> rfl
/-- what is read of a word -/
def CellV (l : Str) (v : Value) (o : Bool) : Prop := ∃ c : Cl, v = .agg (f3 c).toArray ∧ cellR l = if o = true then some c else none
set_option maxRecDepth 100000 in
set_option maxHeartbeats 4000000 in
theorem cellOf_any (s : ByteArray) (w : World) (hs : s.size < 4294967281) (hE : Env w) :
    Calls Tryd.prog 42 #[.string s] w fun e w' => (∃ v o, e = .returned (.tuple #[v, .bool o]) ∧ CellV s.data.toList v o) ∧ Below w.heap.size w w' := by
  go_enter Tryd.func42, Tryd.ntmps42
  go_wp2_with fail
  go_at_call 57
  refine calls_world (fun W => Below w.heap.size w W ∧ Blk W w.heap.size 44 _) ⟨by go_grown, Blk.new _ _ _ _ rfl⟩ fun W0 ⟨hb, hq⟩ => ?_
  refine (kindOf_any s _).mono ?_
  rintro e w1 ⟨rfl, hk⟩
  have hb1 := hb.trans (hk.mono hb.size)
  have hq1 := hq.below hk
  have hE1 := hE.below hb1
  clear hk hb hq
  have cQ := hq1.cells
  have lQ := hq1.lt
  have fQ := hq1.froz
  rcases kindR_cases s.data.toList with hK | hK | hK | hK | hK
  · rw [hK]
    have hx1 : (1 : Int) ≤ ((s.size : Nat) : Int) := by
      have : s.data.toList ≠ [] := by
        intro h0
        rw [h0] at hK
        exact absurd hK (by decide)
      have h2 : 0 < s.data.toList.length := List.length_pos_iff.2 this
      have h3 : s.data.toList.length = s.size := by rfl
      omega
    go_wp2_with fail
    go_at_call 25
    refine (cut_any _ (by simp; omega) _ hE1).mono ?_
    rintro e w2 ⟨⟨a, b, o, rfl, hC⟩, hb2⟩
    rw [tail_data] at hC
    obtain ⟨hCa, hCb⟩ := hC.small hs
    have hE2 := hE1.below hb2
    have hq2 := hq1.below hb2
    have hb12 := hb1.trans (hb2.mono hb1.size)
    clear hE1 hq1 cQ lQ fQ hb2
    clear hx1
    go_wp2_with fail
    go_at_call 39
    refine (atoi_any _ hCa _ hE2).mono ?_
    rintro e w3 ⟨⟨v1, E1, rfl, hA1⟩, hb3⟩
    have hE3 := hE2.below hb3
    have hq3 := hq2.below hb3
    have hb13 := hb12.trans (hb3.mono hb12.size)
    clear hE2 hq2 hb3 hb12
    go_wp2_with fail
    go_at_call 39
    refine (atoi_any _ hCb _ hE3).mono ?_
    rintro e w4 ⟨⟨v2, E2, rfl, hA2⟩, hb4⟩
    have hq4 := hq3.below hb4
    have hb14 := hb13.trans (hb4.mono hb13.size)
    clear hE3 hq3 hb4 hb13
    have cQ := hq4.cells
    have lQ := hq4.lt
    have fQ := hq4.froz
    clear hCa hCb
    have hV : kindR s.data.toList = 1 ∧ CutV (s.data.toList.drop 1) a b := ⟨hK, hC⟩
    clear hK hC
    rcases hA1.cases with rfl | ⟨t1, a1, rfl⟩ <;> rcases hA2.cases with rfl | ⟨t2, a2, rfl⟩
    · go_wp2_with fail
      go_region
      all_goals (try dsimp only [Exit.then])
      all_goals (try go_wp2_with fail)
      refine bodyPost_ret (v := .tuple #[.agg #[.int .i64 1, .int .i64 v1, .int .i64 v2], .bool true]) (by simp [results, Tryd.results42, go_sem, cQ, lQ]) rfl ?_
      exact ⟨⟨_, _, rfl, ⟨1, v1, v2⟩, rfl, cellR_ok hV hA1 hA2⟩, hb14.trans (by go_grown)⟩
    · go_wp2_with fail
      go_region
      all_goals (try dsimp only [Exit.then])
      all_goals (try go_wp2_with fail)
      refine bodyPost_ret (v := .tuple #[.agg #[.int .i64 1, .int .i64 v1, .int .i64 v2], .bool false]) (by simp [results, Tryd.results42, go_sem, cQ, lQ]) rfl ?_
      exact ⟨⟨_, _, rfl, ⟨1, v1, v2⟩, rfl, cellR_no2 hV hA2⟩, hb14.trans (by go_grown)⟩
    · go_wp2_with fail
      go_region
      all_goals (try dsimp only [Exit.then])
      all_goals (try go_wp2_with fail)
      refine bodyPost_ret (v := .tuple #[.agg #[.int .i64 1, .int .i64 v1, .int .i64 v2], .bool false]) (by simp [results, Tryd.results42, go_sem, cQ, lQ]) rfl ?_
      exact ⟨⟨_, _, rfl, ⟨1, v1, v2⟩, rfl, cellR_no1 hV hA1⟩, hb14.trans (by go_grown)⟩
    · go_wp2_with fail
      go_region
      all_goals (try dsimp only [Exit.then])
      all_goals (try go_wp2_with fail)
      refine bodyPost_ret (v := .tuple #[.agg #[.int .i64 1, .int .i64 v1, .int .i64 v2], .bool false]) (by simp [results, Tryd.results42, go_sem, cQ, lQ]) rfl ?_
      exact ⟨⟨_, _, rfl, ⟨1, v1, v2⟩, rfl, cellR_no1 hV hA1⟩, hb14.trans (by go_grown)⟩
  · rw [hK]
    go_wp2_with fail
    refine bodyPost_ret (v := .tuple #[.agg #[.int .i64 0, .int .i64 0, .int .i64 0], .bool false]) (by simp [results, Tryd.results42, go_sem, cQ, lQ]) rfl ?_
    exact ⟨⟨_, _, rfl, ⟨0, 0, 0⟩, rfl, by unfold cellR; rw [if_neg (by omega), if_pos hK]; rfl⟩, hb1.trans (by go_grown)⟩
  · rw [hK]
    go_wp2_with fail
    refine bodyPost_ret (v := .tuple #[.agg #[.int .i64 2, .int .i64 0, .int .i64 0], .bool true]) (by simp [results, Tryd.results42, go_sem, cQ, lQ]) rfl ?_
    exact ⟨⟨_, _, rfl, ⟨2, 0, 0⟩, rfl, by unfold cellR; rw [if_neg (by omega), if_neg (by omega), hK]; rfl⟩, hb1.trans (by go_grown)⟩
  · rw [hK]
    go_wp2_with fail
    refine bodyPost_ret (v := .tuple #[.agg #[.int .i64 3, .int .i64 0, .int .i64 0], .bool true]) (by simp [results, Tryd.results42, go_sem, cQ, lQ]) rfl ?_
    exact ⟨⟨_, _, rfl, ⟨3, 0, 0⟩, rfl, by unfold cellR; rw [if_neg (by omega), if_neg (by omega), hK]; rfl⟩, hb1.trans (by go_grown)⟩
  · rw [hK]
    go_wp2_with fail
    refine bodyPost_ret (v := .tuple #[.agg #[.int .i64 4, .int .i64 0, .int .i64 0], .bool true]) (by simp [results, Tryd.results42, go_sem, cQ, lQ]) rfl ?_
    exact ⟨⟨_, _, rfl, ⟨4, 0, 0⟩, rfl, by unfold cellR; rw [if_neg (by omega), if_neg (by omega), hK]; rfl⟩, hb1.trans (by go_grown)⟩
end Go.Proofs.YtaelhgkodcgmnaaDoor
