/- Layer 14: the head. -/
import Derived.Test.YtgklbmhihfmagaaBatchH
import Derived.Test.YtgklbmhihfmagaaBatchW
import Derived.Test.YtgklbmhihfmagaaBatchZa
import Derived.Handy
namespace Go.Proofs.Ytgklbmhihfmagaa
open Go.ChangeShapes Go.WideShapes Go.ChangeAt Go.RowKit Go.Deep
set_option linter.unusedVariables false
set_option linter.unusedSimpArgs false

theorem head_ord : ordR [⟨true, 0, 65535, [65535]⟩] [⟨0, 0, 0, 3, 0, [0]⟩, ⟨9, 0, 0, 0, 0, [1]⟩, ⟨0, 0, 0, 65535, 0, [5]⟩, ⟨0, 0, 0, 3, 0, [0]⟩, ⟨0, 0, 0, 65535, 0, [4]⟩] = [⟨0, 0, 0, 65535, 0, [4]⟩, ⟨0, 0, 0, 65535, 0, [5]⟩, ⟨0, 0, 0, 3, 0, [0]⟩, ⟨9, 0, 0, 0, 0, [1]⟩] := by decide
def pq (d s v : Int) (g : Nat) : PV := ⟨⟨d, 0, 0, s, 0, [v]⟩, some ⟨g, 0, none⟩, 1⟩
set_option maxRecDepth 100000 in
set_option maxHeartbeats 8000000 in
theorem head_any (w : World) : Calls Try.prog 9 #[] w fun e w' => e = .returned (.bool true) ∧ Below w.heap.size w w' := by
  go_enter Try.func9, Try.ntmps9
  go_wp2_with fail
  go_at_call 18
  refine (one_any 3 0 _).mono ?_
  rintro e W1 ⟨g1, rfl, hr, hk⟩
  have HR1 := Lib.hid hr
  have HK1 := Lib.hid hk
  clear hr hk
  go_wp2_with fail
  go_at_call 18
  refine (one_any 65535 5 _).mono ?_
  rintro e W2 ⟨g2, rfl, hr, hk⟩
  have HR2 := Lib.hid hr
  have HK2 := Lib.hid hk
  clear hr hk
  go_wp2_with fail
  go_at_call 18
  refine (one_any 3 0 _).mono ?_
  rintro e W3 ⟨g3, rfl, hr, hk⟩
  have HR3 := Lib.hid hr
  have HK3 := Lib.hid hk
  clear hr hk
  go_wp2_with fail
  go_at_call 18
  refine (one_any 65535 4 _).mono ?_
  rintro e W4 ⟨g4, rfl, hr, hk⟩
  have HR4 := Lib.hid hr
  have HK4 := Lib.hid hk
  clear hr hk
  go_wp2_with fail
  have B1 := HK1.out
  have B2 := HK2.out
  have B2' := Btrans ((Below.refl W1.heap.size W1).alloc (Nat.le_refl _) _) B2
  have B3 := HK3.out
  have B4 := HK4.out
  have hT : TRow W4 (.slice (some ⟨w.heap.size + 1, 0, none⟩) 1 1) [⟨⟨true, 0, 65535, [65535]⟩, some ⟨w.heap.size, 0, none⟩, 1⟩] := by
    have hb : Blk ((w.alloc (.cells #[.int .i64 65535] 3)).alloc (.cells #[.bool true, .int .i64 0, .int .i64 65535, .slice (some ⟨w.heap.size, 0, none⟩) 1 1] 40)) (w.heap.size + 1) 40 #[.bool true, .int .i64 0, .int .i64 65535, .slice (some ⟨w.heap.size, 0, none⟩) 1 1] := Blk.new _ _ _ _ (by simp)
    have hr : Row ((w.alloc (.cells #[.int .i64 65535] 3)).alloc (.cells #[.bool true, .int .i64 0, .int .i64 65535, .slice (some ⟨w.heap.size, 0, none⟩) 1 1] 40)) (.slice (some ⟨w.heap.size, 0, none⟩) 1 1) [.int .i64 65535] := (Row.new [.int .i64 65535] _ 1 (by decide) (by decide) _ _ rfl).below ((Below.refl _ _).alloc (Nat.le_refl _) _)
    refine ⟨⟨_, _, rfl⟩, RowN.of_blk ((((hb.below B1).below B2').below B3).below B4) rfl rfl (by decide) (by decide), ?_⟩
    intro x hx
    simp only [List.mem_cons, List.not_mem_nil, or_false] at hx
    subst hx
    exact ⟨(((hr.below B1).below B2').below B3).below B4, by intro z hz; simp at hz; subst hz; decide⟩
  have hP : PRow (W4.alloc (.cells (tk f6 [pq 0 3 0 g1, pq 9 0 1 W1.heap.size, pq 0 65535 5 g2, pq 0 3 0 g3, pq 0 65535 4 g4]).toArray 31)) (.slice (some ⟨W4.heap.size, 0, none⟩) 5 5) [pq 0 3 0 g1, pq 9 0 1 W1.heap.size, pq 0 65535 5 g2, pq 0 3 0 g3, pq 0 65535 4 g4] := by
    have k4 : Below W4.heap.size W4 (W4.alloc (.cells (tk f6 [pq 0 3 0 g1, pq 9 0 1 W1.heap.size, pq 0 65535 5 g2, pq 0 3 0 g3, pq 0 65535 4 g4]).toArray 31)) := (Below.refl _ _).alloc (Nat.le_refl _) _
    have k3 := Btrans B4 k4
    have k2 := Btrans B3 k3
    have k1' := Btrans B2 k2
    have k1 := Btrans ((Below.refl W1.heap.size W1).alloc (Nat.le_refl _) _) k1'
    have r0 : Row (W1.alloc (.cells #[.int .i64 1] 3)) (.slice (some ⟨W1.heap.size, 0, none⟩) 1 1) [.int .i64 1] := Row.new [.int .i64 1] _ 1 (by decide) (by decide) _ _ rfl
    refine ⟨⟨_, _, rfl⟩, RowN.of_blk (Blk.new _ _ _ _ rfl) rfl rfl (by decide) (by decide), ?_⟩
    intro x hx
    simp only [List.mem_cons, List.not_mem_nil, or_false] at hx
    rcases hx with rfl | rfl | rfl | rfl | rfl
    · exact ⟨HR1.out.below k1, by simp [pq]; decide⟩
    · exact ⟨r0.below k1', by simp [pq]; decide⟩
    · exact ⟨HR2.out.below k2, by simp [pq]; decide⟩
    · exact ⟨HR3.out.below k3, by simp [pq]; decide⟩
    · exact ⟨HR4.out.below k4, by simp [pq]; decide⟩
  go_at_call 12
  refine (order_any _ _ _ _ _ (hT.below ((Below.refl _ _).alloc (Nat.le_refl _) _)) hP ?_ ?_ (by simp)).mono ?_
  · intro x hx
    simp only [List.mem_cons, List.not_mem_nil, or_false] at hx
    rcases hx with rfl | rfl | rfl | rfl | rfl
    · exact (by decide : Pk.right ⟨0, 0, 0, 3, 0, [0]⟩)
    · exact (by decide : Pk.right ⟨9, 0, 0, 0, 0, [1]⟩)
    · exact (by decide : Pk.right ⟨0, 0, 0, 65535, 0, [5]⟩)
    · exact (by decide : Pk.right ⟨0, 0, 0, 3, 0, [0]⟩)
    · exact (by decide : Pk.right ⟨0, 0, 0, 65535, 0, [4]⟩)
  · intro t ht
    simp only [List.mem_cons, List.not_mem_nil, or_false] at ht
    subst ht
    exact (⟨⟨by decide, by decide⟩, fun _ => ⟨by decide, by decide⟩⟩ : TkOk ⟨true, 0, 65535, [65535]⟩)
  rintro e W5 ⟨v5, L5, rfl, h5, hL, hk⟩
  have HP5 := Lib.hid h5
  have HL5 := Lib.hid hL.1
  have HK5 := Lib.hid hk
  clear h5 hL hk hT hP B1 B2 B2' B3 B4
  go_wp2_with fail
  go_at_call 18
  refine (one_any 65535 4 _).mono ?_
  rintro e W6 ⟨g6, rfl, hr, hk⟩
  have HR6 := Lib.hid hr
  have HK6 := Lib.hid hk
  clear hr hk
  go_wp2_with fail
  go_at_call 18
  refine (one_any 65535 5 _).mono ?_
  rintro e W7 ⟨g7, rfl, hr, hk⟩
  have HR7 := Lib.hid hr
  have HK7 := Lib.hid hk
  clear hr hk
  go_wp2_with fail
  go_at_call 18
  refine (one_any 3 0 _).mono ?_
  rintro e W8 ⟨g8, rfl, hr, hk⟩
  have HR8 := Lib.hid hr
  have HK8 := Lib.hid hk
  clear hr hk
  go_wp2_with fail
  have B6 : Below W5.heap.size W5 W8 := HK6.out.trans (Below.mono (HK7.out.trans (HK8.out.mono HK7.out.size)) HK6.out.size)
  have hQ : PRow ((W8.alloc (.cells #[.int .i64 1] 3)).alloc (.cells (tk f6 [pq 0 65535 4 g6, pq 0 65535 5 g7, pq 0 3 0 g8, pq 9 0 1 W8.heap.size]).toArray 31)) (.slice (some ⟨W8.heap.size + 1, 0, none⟩) 4 4) [pq 0 65535 4 g6, pq 0 65535 5 g7, pq 0 3 0 g8, pq 9 0 1 W8.heap.size] := by
    have k8' : Below (W8.alloc (.cells #[.int .i64 1] 3)).heap.size (W8.alloc (.cells #[.int .i64 1] 3)) ((W8.alloc (.cells #[.int .i64 1] 3)).alloc (.cells (tk f6 [pq 0 65535 4 g6, pq 0 65535 5 g7, pq 0 3 0 g8, pq 9 0 1 W8.heap.size]).toArray 31)) := (Below.refl _ _).alloc (Nat.le_refl _) _
    have k8 := Btrans ((Below.refl W8.heap.size W8).alloc (Nat.le_refl _) _) k8'
    have k7 := Btrans HK8.out k8
    have k6 := Btrans HK7.out k7
    have r0 : Row (W8.alloc (.cells #[.int .i64 1] 3)) (.slice (some ⟨W8.heap.size, 0, none⟩) 1 1) [.int .i64 1] := Row.new [.int .i64 1] _ 1 (by decide) (by decide) _ _ rfl
    refine ⟨⟨_, _, rfl⟩, RowN.of_blk (Blk.new _ _ _ _ (by simp)) rfl rfl (by decide) (by decide), ?_⟩
    intro x hx
    simp only [List.mem_cons, List.not_mem_nil, or_false] at hx
    rcases hx with rfl | rfl | rfl | rfl
    · exact ⟨HR6.out.below k6, by simp [pq]; decide⟩
    · exact ⟨HR7.out.below k7, by simp [pq]; decide⟩
    · exact ⟨HR8.out.below k8, by simp [pq]; decide⟩
    · exact ⟨r0.below k8', by simp [pq]; decide⟩
  go_at_call 11
  refine (sameAll_any v5 _ L5 _ _ (HP5.out.below ((B6.alloc B6.size _).alloc (by have := B6.size; simp; omega) _)) hQ).mono ?_
  rintro e W10 ⟨rfl, hk⟩
  rw [HL5.out, show decide (ordR (List.map TV.t [⟨⟨true, 0, 65535, [65535]⟩, some ⟨w.heap.size, 0, none⟩, 1⟩]) (List.map PV.p [pq 0 3 0 g1, pq 9 0 1 W1.heap.size, pq 0 65535 5 g2, pq 0 3 0 g3, pq 0 65535 4 g4]) = List.map PV.p [pq 0 65535 4 g6, pq 0 65535 5 g7, pq 0 3 0 g8, pq 9 0 1 W8.heap.size]) = true from decide_eq_true head_ord]
  have HK10 := Lib.hid hk
  clear hk hQ B6
  go_wp2
  go_ret
  refine ⟨by simp, ?_⟩
  have b1 := Btrans (((Below.refl w.heap.size w).alloc (Nat.le_refl _) _).alloc (by simp) _) HK1.out
  have b2 := Btrans (b1.alloc b1.size _) HK2.out
  have b4 := Btrans (Btrans b2 HK3.out) HK4.out
  have b5 := Btrans (b4.alloc b4.size _) HK5.out
  have b8 := Btrans (Btrans (Btrans b5 HK6.out) HK7.out) HK8.out
  exact Btrans ((b8.alloc b8.size _).alloc (by have := b8.size; simp; omega) _) HK10.out
end Go.Proofs.Ytgklbmhihfmagaa
