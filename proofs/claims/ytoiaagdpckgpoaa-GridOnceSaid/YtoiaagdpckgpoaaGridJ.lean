/- Layer 13: the live question. -/
import Derived.Test.YtoiaagdpckgpoaaGridI
namespace Go.Proofs.Ytoiaagdpckgpoaa
open Go.ChangeShapes Go.WideShapes Go.ChangeAt Go.RowKit
set_option linter.unusedVariables false
set_option linter.unusedSimpArgs false

def S0 : List (Nat × List SB) := List.replicate 3 (0, List.replicate 8 ((0, 0), false))
def S1 : List (Nat × List SB) := gputR 8 S0 1 0 (7, 3)
def S2 : List (Nat × List SB) := gputR 8 S1 1 0 (8, 0)
def S3 : List (Nat × List SB) := gputR 8 S2 3 0 (0, 0)
def S4 : List (Nat × List SB) := gputR 8 S3 0 8 (0, 0)
def S5 : List (Nat × List SB) := S4.map adv
def S6 : List (Nat × List SB) := gputR 8 S5 1 0 (0, 0)

set_option maxRecDepth 100000 in
set_option maxHeartbeats 4000000 in
theorem head_any (w : World) :
    Calls Try.prog 9 #[] w fun e w' => e = .returned (.bool true) ∧ Below w.heap.size w w' := by
  go_enter Try.func9, Try.ntmps9
  go_wp2_with fail
  refine (base_any _).mono ?_
  rintro e W0 ⟨v, rfl, hv, hb0⟩
  go_wp2_with fail
  refine (gnew_any v baseC W0 hv 8 rfl (by decide) (by decide)).mono ?_
  rintro e W1 ⟨g, ab, bs, rfl, hbl, hg, hk, hlo⟩
  have HL := Lib.hid (show ∀ x ∈ gblocks g ab bs, w.heap.size ≤ x from fun x hx => Nat.le_trans hb0.size (hlo x hx))
  have HBL := Lib.hid (show bs.length = 3 from hbl)
  have HG1 := Lib.hid (show GridS W1 g ab bs 8 S0 from hg)
  have hb1 := Btrans hb0 hk
  clear hv hb0 hbl hg hk hlo
  go_wp2_with fail
  refine (gput_any _ g ab 8 bs S0 1 0 (7, 3) HG1.out (by omega)).mono ?_
  rintro e W2 ⟨rfl, hg, ho⟩
  rw [show gputC 8 S0 1 0 = 9 by decide]
  have HG2 := Lib.hid (show GridS W2 g ab bs 8 S1 from hg)
  have hb2 := Only.below hb1 hb1.size ho HL.out
  clear hg ho HG1 hb1
  go_wp2_with fail
  refine (gput_any _ g ab 8 bs S1 1 0 (8, 0) HG2.out (by omega)).mono ?_
  rintro e W3 ⟨rfl, hg, ho⟩
  rw [show gputC 8 S1 1 0 = 8 by decide]
  have HG3 := Lib.hid (show GridS W3 g ab bs 8 S2 from hg)
  have hb3 := Only.below hb2 hb2.size ho HL.out
  clear hg ho HG2 hb2
  go_wp2_with fail
  refine (gput_any _ g ab 8 bs S2 3 0 (0, 0) HG3.out (by omega)).mono ?_
  rintro e W4 ⟨rfl, hg, ho⟩
  rw [show gputC 8 S2 3 0 = 0 by decide]
  have HG4 := Lib.hid (show GridS W4 g ab bs 8 S3 from hg)
  have hb4 := Only.below hb3 hb3.size ho HL.out
  clear hg ho HG3 hb3
  go_wp2_with fail
  refine (gput_any _ g ab 8 bs S3 0 8 (0, 0) HG4.out (by omega)).mono ?_
  rintro e W5 ⟨rfl, hg, ho⟩
  rw [show gputC 8 S3 0 8 = 7 by decide]
  have HG5 := Lib.hid (show GridS W5 g ab bs 8 S4 from hg)
  have hb5 := Only.below hb4 hb4.size ho HL.out
  clear hg ho HG4 hb4
  go_wp2_with fail
  have hal := (Below.refl W5.heap.size W5).alloc (Nat.le_refl _) (.cells #[.int .i64 2, .int .i64 3, .int .i64 4] 3)
  have hlt5 := HG5.out.lt
  refine (gtell_any _ g ab 8 3 bs S4 (some ⟨W5.heap.size, 0, none⟩) [2, 3, 4] (HG5.out.below hal) (by decide) (Row.of_block (heap_at _ _ _ rfl) rfl rfl (Nat.le_refl _) (by decide)) (by rw [HBL.out]; rfl) ?_).mono ?_
  · intro ad n c hv hm
    injection hv with e1 _ _
    injection e1 with e1
    subst e1
    have := hlt5 _ hm
    simp at this
  rintro e W6 ⟨cb, rfl, hcb, hcl, hg, ho⟩
  have HC6 := Lib.hid hcb
  have HG6 := Lib.hid (show GridS W6 g ab bs 8 S5 from hg)
  have HCN := Lib.hid (show cb ∉ gblocks g ab bs from fun hm => by have h1 := hlt5 _ hm; simp at hcl; omega)
  have hb6 := Only.below (hb5.trans (hal.mono hb5.size)) (by have := hb5.size; simp; omega) ho HL.out
  clear hcb hg ho hal hlt5 hcl HG5 hb5
  go_wp2_with fail
  refine (gput_any _ g ab 8 bs S5 1 0 (0, 0) HG6.out (by omega)).mono ?_
  rintro e W7 ⟨rfl, hg, ho⟩
  rw [show gputC 8 S5 1 0 = 6 by decide]
  have HG7 := Lib.hid (show GridS W7 g ab bs 8 S6 from hg)
  have hb7 := Only.below hb6 hb6.size ho HL.out
  have HC7 := Lib.hid (HC6.out.only ho HCN.out)
  clear hg ho HG6 hb6 HC6
  have hbn : (bs.length : Int) = 3 := by have := HBL.out; omega
  go_wp2_with fail
  refine (sameC_any _ _ bs.length 3 (tellC [2, 3, 4] S4) [(2, 0, 0), (1, 7, 3), (4, 0, 0)] _ (RowN.of_blk (HC7.out.al _) ?_ ?_ (Nat.le_refl _) ?_) (RowN.of_blk (Blk.new _ _ _ _ rfl) rfl rfl (Nat.le_refl _) (by decide))).mono ?_
  · rw [List.take_of_length_le (by rw [HBL.out]; decide)]
  · rw [HBL.out]; rfl
  · rw [HBL.out]; decide
  rintro e W8 ⟨rfl, hk⟩
  rw [show decide (tellC [2, 3, 4] S4 = [(2, 0, 0), (1, 7, 3), (4, 0, 0)]) = true by decide]
  have hal := ((Below.refl W7.heap.size W7).alloc (Nat.le_refl _) (.cells #[.int .i64 2, .int .i64 0, .int .i64 0, .int .i64 1, .int .i64 7, .int .i64 3, .int .i64 4, .int .i64 0, .int .i64 0] 51))
  have hk8 : Below W7.heap.size W7 W8 := hal.trans (hk.mono (by simp))
  have HG8 := Lib.hid (HG7.out.below hk8)
  have hb8 := Btrans hb7 hk8
  clear hk hal hk8 HG7 hb7 HC7
  go_wp2_with fail
  refine (gfirst_any W8 g ab 8 bs S6 HG8.out (by rw [HBL.out]; decide)).mono ?_
  rintro e W9 ⟨rfl, hk⟩
  rw [show (gfirst S6 : Int) = 1 by decide]
  have HG9 := Lib.hid (HG8.out.below hk)
  have hb9 := Btrans hb8 hk
  clear hk HG8 hb8
  go_wp2_with fail
  refine (gtell_none W9 g ab 8 0 0 bs S6 none HG9.out (by rw [HBL.out]; decide)).mono ?_
  rintro e W10 ⟨rfl, hk⟩
  have hb10 := Btrans hb9 hk
  clear hk HG9 hb9
  go_wp2
  go_ret
  exact ⟨by first | rfl | simp, hb10⟩
end Go.Proofs.Ytoiaagdpckgpoaa
