/- Layer 23: signs, runes and kinds. -/
import Derived.Test.YtaelhgkodcgmnaaDoorRendA
namespace Go.Proofs.YtaelhgkodcgmnaaDoor
open Go.ChangeShapes Go.WideShapes Go.ChangeAt Go.RowKit Go.Deep
set_option linter.unusedVariables false
set_option linter.unusedSimpArgs false

def SG : Value := .agg #[.bool true, .bool true, .int .i32 43, .bool true, .bool false, .int .i32 42, .bool false, .bool true, .int .i32 33, .bool false, .bool false, .int .i32 45]
set_option maxRecDepth 100000 in
set_option maxHeartbeats 1000000 in
theorem signs_any (w : World) : Calls Tryd.prog 58 #[] w fun e w' => e = .returned SG ∧ Below w.heap.size w w' := by
  go_enter Tryd.func58, Tryd.ntmps58
  go_wp2
  exact bodyPost_ret (v := SG) (by simp [results, Tryd.results58, go_sem, SG]) rfl ⟨rfl, by go_grown⟩
theorem sg0 (w : World) : (Instr.index 93 (.agg #[.bool true, .bool true, .int .i32 43, .bool true, .bool false, .int .i32 42, .bool false, .bool true, .int .i32 33, .bool false, .bool false, .int .i32 45]) (.int .i64 0)).run Tryd.prog w = .ok (.agg #[.bool true, .bool true, .int .i32 43]) w := by kernel_rfl
theorem sg1 (w : World) : (Instr.index 93 (.agg #[.bool true, .bool true, .int .i32 43, .bool true, .bool false, .int .i32 42, .bool false, .bool true, .int .i32 33, .bool false, .bool false, .int .i32 45]) (.int .i64 1)).run Tryd.prog w = .ok (.agg #[.bool true, .bool false, .int .i32 42]) w := by kernel_rfl
theorem sg2 (w : World) : (Instr.index 93 (.agg #[.bool true, .bool true, .int .i32 43, .bool true, .bool false, .int .i32 42, .bool false, .bool true, .int .i32 33, .bool false, .bool false, .int .i32 45]) (.int .i64 2)).run Tryd.prog w = .ok (.agg #[.bool false, .bool true, .int .i32 33]) w := by kernel_rfl
theorem sg3 (w : World) : (Instr.index 93 (.agg #[.bool true, .bool true, .int .i32 43, .bool true, .bool false, .int .i32 42, .bool false, .bool true, .int .i32 33, .bool false, .bool false, .int .i32 45]) (.int .i64 3)).run Tryd.prog w = .ok (.agg #[.bool false, .bool false, .int .i32 45]) w := by kernel_rfl
theorem enc43 : (Utf8.encode 43).toList = [43] := by decide +kernel
theorem enc42 : (Utf8.encode 42).toList = [42] := by decide +kernel
theorem enc33 : (Utf8.encode 33).toList = [33] := by decide +kernel
theorem enc45 : (Utf8.encode 45).toList = [45] := by decide +kernel
theorem enc_hit {e : ByteArray} {l : Str} {s : ByteArray} (he : e.toList = l) (h : (e.toList == s.toList) = true) : s.data.toList = l := by
  rw [he, beq_iff_eq, Lib.toList_data] at h
  exact h.symm
theorem enc_miss {e : ByteArray} {l : Str} {s : ByteArray} (he : e.toList = l) (h : (e.toList == s.toList) = false) : ¬ s.data.toList = l := by
  rw [he, beq_eq_false_iff_ne, Lib.toList_data] at h
  exact fun e => h e.symm
theorem eqA (a b c d : Bool) (w : World) : (Op.equalIn 10000 90 (.agg #[.bool a, .bool b]) (.agg #[.bool c, .bool d])).run Tryd.prog w = .ok (a == c && b == d) w := by
  cases a <;> cases b <;> cases c <;> cases d <;> kernel_rfl
set_option maxRecDepth 100000 in
set_option maxHeartbeats 1000000 in
theorem runeOf_any (a b : Bool) (w : World) : Calls Tryd.prog 49 #[.agg #[.bool a, .bool b]] w fun e w' => e = .returned (.int .i32 ((alB (a, b)).toNat : Int)) ∧ Below w.heap.size w w' := by
  cases a <;> cases b
  all_goals
    go_enter Tryd.func49, Tryd.ntmps49
    go_wp2_with fail
    go_at_call 58
    refine calls_world (fun W => Below w.heap.size w W ∧ Blk W w.heap.size 51 _) ⟨by go_grown, Blk.new _ _ _ _ rfl⟩ fun W0 ⟨hb, hq⟩ => ?_
    refine (signs_any _).mono ?_
    rintro e w1 ⟨rfl, hk⟩
    have hb1 := hb.trans (hk.mono hb.size)
    have cQ := (hq.below hk).cells
    have lQ := (hq.below hk).lt
    have fQ := (hq.below hk).froz
    unfold SG
    have lB1 : w.heap.size < w1.heap.size + 1 := by omega
    have lB2 : w.heap.size < w1.heap.size + 1 + 1 := by omega
    have lB3 : w.heap.size < w1.heap.size + 1 + 1 + 1 := by omega
    have lB4 : w.heap.size < w1.heap.size + 1 + 1 + 1 + 1 := by omega
    clear hk hb hq
    have x0 := sg0; have x1 := sg1; have x2 := sg2; have x3 := sg3; have x4 := eqA
    go_wp2_with fail
    go_rounds 5
    all_goals
      go_ret
      exact ⟨by rfl, hb1.trans (by go_grown)⟩
set_option maxRecDepth 100000 in
set_option maxHeartbeats 1000000 in
theorem alarmOf_any (s : ByteArray) (w : World) : Calls Tryd.prog 44 #[.string s] w fun e w' => (∃ a b o, e = .returned (.tuple #[.agg #[.bool a, .bool b], .bool o]) ∧ (alarmR s.data.toList = if o = true then some (a, b) else none)) ∧ Below w.heap.size w w' := by
  go_enter Tryd.func44, Tryd.ntmps44
  go_wp2_with fail
  go_at_call 58
  refine calls_world (fun W => Below w.heap.size w W ∧ Blk W w.heap.size 51 _) ⟨by go_grown, Blk.new _ _ _ _ rfl⟩ fun W0 ⟨hb, hq⟩ => ?_
  refine (signs_any _).mono ?_
  rintro e w1 ⟨rfl, hk⟩
  have hb1 := hb.trans (hk.mono hb.size)
  have cQ := (hq.below hk).cells
  have lQ := (hq.below hk).lt
  have fQ := (hq.below hk).froz
  unfold SG
  have lB1 : w.heap.size < w1.heap.size + 1 := by omega
  have lB2 : w.heap.size < w1.heap.size + 1 + 1 := by omega
  have lB3 : w.heap.size < w1.heap.size + 1 + 1 + 1 := by omega
  have lB4 : w.heap.size < w1.heap.size + 1 + 1 + 1 + 1 := by omega
  clear hk hb hq
  have x0 := sg0; have x1 := sg1; have x2 := sg2; have x3 := sg3; have x4 := eqA
  go_wp2_with fail
  go_rounds 5
  · rename_i h
    refine bodyPost_ret (v := .tuple #[.agg #[.bool true, .bool true], .bool true]) (by simp [results, Tryd.results44, go_sem, cQ, lQ, lB1, lB2, lB3, lB4]) rfl ?_
    exact ⟨⟨true, true, true, rfl, by rw [enc_hit enc43 h]; rfl⟩, hb1.trans (by go_grown)⟩
  · rename_i h
    refine bodyPost_ret (v := .tuple #[.agg #[.bool true, .bool false], .bool true]) (by simp [results, Tryd.results44, go_sem, cQ, lQ, lB1, lB2, lB3, lB4]) rfl ?_
    exact ⟨⟨true, false, true, rfl, by rw [enc_hit enc42 h]; rfl⟩, hb1.trans (by go_grown)⟩
  · rename_i h
    refine bodyPost_ret (v := .tuple #[.agg #[.bool false, .bool true], .bool true]) (by simp [results, Tryd.results44, go_sem, cQ, lQ, lB1, lB2, lB3, lB4]) rfl ?_
    exact ⟨⟨false, true, true, rfl, by rw [enc_hit enc33 h]; rfl⟩, hb1.trans (by go_grown)⟩
  · rename_i h
    refine bodyPost_ret (v := .tuple #[.agg #[.bool false, .bool false], .bool true]) (by simp [results, Tryd.results44, go_sem, cQ, lQ, lB1, lB2, lB3, lB4]) rfl ?_
    exact ⟨⟨false, false, true, rfl, by rw [enc_hit enc45 h]; rfl⟩, hb1.trans (by go_grown)⟩
  · rename_i h1 h2 h3 h4 h5 h6
    refine bodyPost_ret (v := .tuple #[.agg #[.bool false, .bool false], .bool false]) (by simp [results, Tryd.results44, go_sem, cQ, lQ, lB1, lB2, lB3, lB4]) rfl ?_
    exact ⟨⟨false, false, false, rfl, by
      unfold alarmR
      rw [if_neg (enc_miss enc43 h1), if_neg (enc_miss enc42 h2), if_neg (enc_miss enc33 h3), if_neg (enc_miss enc45 h4)]
      rfl⟩, hb1.trans (by go_grown)⟩
end Go.Proofs.YtaelhgkodcgmnaaDoor
