/- Layer 21: the live question. -/
import Derived.Test.YtcdmojimdiiepaaAlarmF
import Derived.Test.YtcdmojimdiiepaaAlarmH
import Derived.Test.YtcdmojimdiiepaaAlm
import Derived.StillTailTactics
import Derived.Handy
namespace Go.Proofs.Ytcdmojimdiiepaa
open Go.ChangeShapes Go.WideShapes Go.ChangeAt Go.RowKit
set_option linter.unusedVariables false
set_option linter.unusedSimpArgs false

def Hd : Prop := ∀ w : World, Calls Try.prog 9 #[] w fun e w' => e = .returned (.bool true) ∧ Below w.heap.size w w'
def cs1 : List Cl := [(1, 9, 0), (1, 9, 0), (2, 0, 0)]
def cs2 : List Cl := [(2, 0, 0), (1, 9, 0), (2, 0, 0)]
def cs3 : List Cl := [(1, 9, 0), (1, 9, 0), (1, 9, 0)]
theorem base_ok (A : Option Addr) (rc : Nat) : ∀ x ∈ newL (baseRules A rc), x.ok 3 := by
  intro x hx
  simp [newL, baseRules] at hx
  subst hx
  exact ⟨by rfl, Int.le_refl _, by show (0 : Int) ≤ 2; decide⟩
theorem base_okM : ∀ x ∈ newM baseC, x.ok 3 := by
  intro x hx
  obtain ⟨i, hi, rfl⟩ := List.mem_map.1 hx
  have hl : (chansOf baseC.rows).length = 3 := by rfl
  rw [hl, List.mem_range] at hi
  exact ⟨hi, by decide, by decide, Int.le_refl _, by show (0 : Int) ≤ 2; decide⟩
theorem zeroR (w : World) : ConfR w (.agg #[.int .i64 0, .int .i64 0, .int .i64 0, .int .i64 0, .int .i64 0, .int .i64 0, .int .i64 0, .int .i64 0, .int .i64 0, .slice none 0 0, .slice none 0 0]) zeroC [] :=
  ⟨_, _, _, rfl, ⟨[], Row.nil_, rfl, by simp [zeroC]⟩, RowN.nil_, by simp⟩
set_option maxRecDepth 100000 in
set_option maxHeartbeats 4000000 in
theorem head_any : Hd := by
  intro w
  have hmk : ∀ w, (Instr.makeSlice 38 (.int .i64 3) (.int .i64 3)).run Try.prog w = .ok (.slice (some ⟨w.heap.size, 0, none⟩) 3 3) (w.alloc (.cells #[.bool false, .bool false, .bool false, .bool false, .bool false, .bool false] 53)) := fun w => by
    have := run_make_rowN (P := Try.prog) 38 53 _ _ Try.underlying38 info39 .i64 .i64 3 (by omega) (by omega) w
    rw [fill_zero] at this
    exact this
  go_enter Try.func9, Try.ntmps9
  go_wp2_with fail
  refine (base21_any _).mono ?_
  rintro e W1 ⟨v, A, rc, rfl, hC, hk⟩
  have HB1 := Lib.hid hk
  have HC := Lib.hid hC
  clear hk hC
  go_wp2_with fail
  refine (SS.new W1 _ v baseC (baseRules A rc) HC.out (Below.refl _ _) (by decide) (by simp [baseRules])).mono ?_
  rintro e W2 ⟨pb, rfl, hS, hk⟩
  have HB2 := Lib.hid (HB1.out.trans (hk.mono HB1.out.size))
  have HD2 := Lib.hid (show Below W1.heap.size W1 W2 from hk)
  have HS2 := Lib.hid hS
  have hlo : w.heap.size ≤ W1.heap.size := HB1.out.size
  have htop := hS.top.2.1
  clear hk hS
  go_wp2_with fail
  have hsz2 : W2.heap.size ≤ W2.heap.size := Nat.le_refl _
  refine calls_world (fun W => Below W2.heap.size W2 W ∧ Blk W (W2.heap.size) 55 #[.int .i64 1, .int .i64 9, .int .i64 0] ∧ Blk W (W2.heap.size + 1) 55 #[.int .i64 2, .int .i64 0, .int .i64 0] ∧ Blk W (W2.heap.size + 1 + 1) 55 #[.int .i64 1, .int .i64 9, .int .i64 0, .int .i64 1, .int .i64 9, .int .i64 0, .int .i64 2, .int .i64 0, .int .i64 0]) ⟨(by go_grown), ((Blk.new _ _ _ _ (by first | rfl | simp)).al _).al _, (Blk.new _ _ _ _ (by first | rfl | simp)).al _, Blk.new _ _ _ _ (by first | rfl | simp)⟩ fun W3 ⟨hk, qV, qN, qR⟩ => ?_
  have fr := Fr.of_below (lo := W1.heap.size) (hi := W2.heap.size) hk
  have HB3 := Lib.hid (fr.below HB2.out (Nat.le_refl _) hlo)
  have HD3 := Lib.hid (fr.below HD2.out (Nat.le_refl _) (Nat.le_refl _))
  have hsz3 : W2.heap.size ≤ W3.heap.size := Nat.le_trans hsz2 fr.size
  clear HB2 HD2
  have HS3 := Lib.hid (HS2.out.below hk)
  clear HS2 hk fr
  have V3 := Lib.hid qV
  clear qV
  have N3 := Lib.hid qN
  clear qN
  have R3 := Lib.hid qR
  clear qR
  refine (SS.tick (some ⟨W2.heap.size + 1 + 1, 0, none⟩) 3 cs1 HS3.out (base_ok A rc) base_okM (RowN.of_blk R3.out rfl rfl (Nat.le_refl _) (by decide)) (fun ad h => .inr (by injection h with h; subst h; show W2.heap.size ≤ W2.heap.size + 1 + 1; omega)) (by simp [newM]; rfl) HD3.out (by simp [newL, baseRules]) (by simp [newM]; decide)).mono ?_
  rintro e W4 ⟨va, vb, rfl, ra, rb, hs, fr⟩
  have za := ra.mono (show W2.heap.size ≤ _ from hsz3)
  have zb := rb.mono (show W2.heap.size ≤ _ from hsz3)
  have HB4 := Lib.hid (fr.below HB3.out (Nat.le_refl _) hlo)
  have HD4 := Lib.hid (fr.below HD3.out (Nat.le_refl _) (Nat.le_refl _))
  have V4 := Lib.hid (V3.out.fr fr (.inr (by omega)))
  have N4 := Lib.hid (N3.out.fr fr (.inr (by omega)))
  have hsz4 : W2.heap.size ≤ W4.heap.size := Nat.le_trans hsz3 fr.size
  clear HB3 HD3 V3 N3
  have HS4 := Lib.hid hs
  have Fva4 := Lib.hid za
  clear za
  have Fvb4 := Lib.hid zb
  clear zb
  clear ra rb hs fr HS3 R3
  have cV := V4.out.cells
  have lV := V4.out.lt
  have cN := N4.out.cells
  have lN := N4.out.lt
  go_wp2_with fail
  refine calls_world (fun W => Below W4.heap.size W4 W ∧ Blk W (W4.heap.size) 55 #[.int .i64 2, .int .i64 0, .int .i64 0, .int .i64 1, .int .i64 9, .int .i64 0, .int .i64 2, .int .i64 0, .int .i64 0]) ⟨(by go_grown), Blk.new _ _ _ _ (by first | rfl | simp)⟩ fun W5 ⟨hk, qR⟩ => ?_
  (try clear cV); (try clear lV)
  (try clear cN); (try clear lN)
  have fr := Fr.of_below (lo := W1.heap.size) (hi := W2.heap.size) hk
  have HB5 := Lib.hid (fr.below HB4.out (Nat.le_refl _) hlo)
  have HD5 := Lib.hid (fr.below HD4.out (Nat.le_refl _) (Nat.le_refl _))
  have V5 := Lib.hid (V4.out.fr fr (.inr (by omega)))
  have N5 := Lib.hid (N4.out.fr fr (.inr (by omega)))
  have Fva5 := Lib.hid (Fva4.out.fr fr (by omega))
  have Fvb5 := Lib.hid (Fvb4.out.fr fr (by omega))
  have hsz5 : W2.heap.size ≤ W5.heap.size := Nat.le_trans hsz4 fr.size
  clear HB4 HD4 V4 N4 Fva4 Fvb4
  have HS5 := Lib.hid (HS4.out.below hk)
  clear HS4 hk fr
  have R5 := Lib.hid qR
  clear qR
  refine (SS.tick (some ⟨W4.heap.size, 0, none⟩) 3 cs2 HS5.out (next_oks cs1 (base_ok A rc)) (next_oks cs1 base_okM) (RowN.of_blk R5.out rfl rfl (Nat.le_refl _) (by decide)) (fun ad h => .inr (by injection h with h; subst h; show W2.heap.size ≤ W4.heap.size; omega)) (by simp [newM]; rfl) HD5.out (by simp [newL, baseRules]) (by simp [newM]; decide)).mono ?_
  rintro e W6 ⟨vx, vy, rfl, ra, rb, hs, fr⟩
  have za := ra.mono (show W2.heap.size ≤ _ from hsz5)
  have zb := rb.mono (show W2.heap.size ≤ _ from hsz5)
  have HB6 := Lib.hid (fr.below HB5.out (Nat.le_refl _) hlo)
  have HD6 := Lib.hid (fr.below HD5.out (Nat.le_refl _) (Nat.le_refl _))
  have V6 := Lib.hid (V5.out.fr fr (.inr (by omega)))
  have N6 := Lib.hid (N5.out.fr fr (.inr (by omega)))
  have Fva6 := Lib.hid (Fva5.out.fr fr (by omega))
  have Fvb6 := Lib.hid (Fvb5.out.fr fr (by omega))
  have hsz6 : W2.heap.size ≤ W6.heap.size := Nat.le_trans hsz5 fr.size
  clear HB5 HD5 V5 N5 Fva5 Fvb5
  have HS6 := Lib.hid hs
  have Fvx6 := Lib.hid za
  clear za
  have Fvy6 := Lib.hid zb
  clear zb
  clear ra rb hs fr HS5 R5
  have cV := V6.out.cells
  have lV := V6.out.lt
  have cN := N6.out.cells
  have lN := N6.out.lt
  go_wp2_with fail
  refine calls_world (fun W => Below W6.heap.size W6 W ∧ Blk W (W6.heap.size) 55 #[.int .i64 1, .int .i64 9, .int .i64 0, .int .i64 1, .int .i64 9, .int .i64 0, .int .i64 1, .int .i64 9, .int .i64 0]) ⟨(by go_grown), Blk.new _ _ _ _ (by first | rfl | simp)⟩ fun W7 ⟨hk, qR⟩ => ?_
  (try clear cV); (try clear lV)
  (try clear cN); (try clear lN)
  have fr := Fr.of_below (lo := W1.heap.size) (hi := W2.heap.size) hk
  have HB7 := Lib.hid (fr.below HB6.out (Nat.le_refl _) hlo)
  have HD7 := Lib.hid (fr.below HD6.out (Nat.le_refl _) (Nat.le_refl _))
  have V7 := Lib.hid (V6.out.fr fr (.inr (by omega)))
  have N7 := Lib.hid (N6.out.fr fr (.inr (by omega)))
  have Fva7 := Lib.hid (Fva6.out.fr fr (by omega))
  have Fvb7 := Lib.hid (Fvb6.out.fr fr (by omega))
  have Fvx7 := Lib.hid (Fvx6.out.fr fr (by omega))
  have Fvy7 := Lib.hid (Fvy6.out.fr fr (by omega))
  have hsz7 : W2.heap.size ≤ W7.heap.size := Nat.le_trans hsz6 fr.size
  clear HB6 HD6 V6 N6 Fva6 Fvb6 Fvx6 Fvy6
  have HS7 := Lib.hid (HS6.out.below hk)
  clear HS6 hk fr
  have R7 := Lib.hid qR
  clear qR
  refine (SS.tick (some ⟨W6.heap.size, 0, none⟩) 3 cs3 HS7.out (next_oks cs2 (next_oks cs1 (base_ok A rc))) (next_oks cs2 (next_oks cs1 base_okM)) (RowN.of_blk R7.out rfl rfl (Nat.le_refl _) (by decide)) (fun ad h => .inr (by injection h with h; subst h; show W2.heap.size ≤ W6.heap.size; omega)) (by simp [newM]; rfl) HD7.out (by simp [newL, baseRules]) (by simp [newM]; decide)).mono ?_
  rintro e W8 ⟨vp, vq, rfl, ra, rb, hs, fr⟩
  have za := ra.mono (show W2.heap.size ≤ _ from hsz7)
  have zb := rb.mono (show W2.heap.size ≤ _ from hsz7)
  have HB8 := Lib.hid (fr.below HB7.out (Nat.le_refl _) hlo)
  have HD8 := Lib.hid (fr.below HD7.out (Nat.le_refl _) (Nat.le_refl _))
  have V8 := Lib.hid (V7.out.fr fr (.inr (by omega)))
  have N8 := Lib.hid (N7.out.fr fr (.inr (by omega)))
  have Fva8 := Lib.hid (Fva7.out.fr fr (by omega))
  have Fvb8 := Lib.hid (Fvb7.out.fr fr (by omega))
  have Fvx8 := Lib.hid (Fvx7.out.fr fr (by omega))
  have Fvy8 := Lib.hid (Fvy7.out.fr fr (by omega))
  have hsz8 : W2.heap.size ≤ W8.heap.size := Nat.le_trans hsz7 fr.size
  clear HB7 HD7 V7 N7 Fva7 Fvb7 Fvx7 Fvy7
  have HS8 := Lib.hid hs
  have Fvp8 := Lib.hid za
  clear za
  have Fvq8 := Lib.hid zb
  clear zb
  clear ra rb hs fr HS7 R7
  have cV := V8.out.cells
  have lV := V8.out.lt
  have cN := N8.out.cells
  have lN := N8.out.lt
  go_wp2_with fail
  refine (SS.tick_no none 0 [] HS8.out (by simp [newM]; decide)).mono ?_
  rintro e W9 ⟨rfl, hk⟩
  (try clear cV); (try clear lV)
  (try clear cN); (try clear lN)
  have fr := Fr.of_below (lo := W1.heap.size) (hi := W2.heap.size) hk
  have HB9 := Lib.hid (fr.below HB8.out (Nat.le_refl _) hlo)
  have HD9 := Lib.hid (fr.below HD8.out (Nat.le_refl _) (Nat.le_refl _))
  have V9 := Lib.hid (V8.out.fr fr (.inr (by omega)))
  have N9 := Lib.hid (N8.out.fr fr (.inr (by omega)))
  have Fva9 := Lib.hid (Fva8.out.fr fr (by omega))
  have Fvb9 := Lib.hid (Fvb8.out.fr fr (by omega))
  have Fvx9 := Lib.hid (Fvx8.out.fr fr (by omega))
  have Fvy9 := Lib.hid (Fvy8.out.fr fr (by omega))
  have Fvp9 := Lib.hid (Fvp8.out.fr fr (by omega))
  have Fvq9 := Lib.hid (Fvq8.out.fr fr (by omega))
  have hsz9 : W2.heap.size ≤ W9.heap.size := Nat.le_trans hsz8 fr.size
  clear HB8 HD8 V8 N8 Fva8 Fvb8 Fvx8 Fvy8 Fvp8 Fvq8
  have HS9 := Lib.hid (HS8.out.below hk)
  clear HS8 fr
  clear hk
  have cV := V9.out.cells
  have lV := V9.out.lt
  have cN := N9.out.cells
  have lN := N9.out.lt
  go_wp2_with fail
  refine (base21_any _).mono ?_
  rintro e W10 ⟨v2, A2, rc2, rfl, hC2, hk⟩
  (try clear cV); (try clear lV)
  (try clear cN); (try clear lN)
  have fr := Fr.of_below (lo := W1.heap.size) (hi := W2.heap.size) hk
  have HB10 := Lib.hid (fr.below HB9.out (Nat.le_refl _) hlo)
  have HD10 := Lib.hid (fr.below HD9.out (Nat.le_refl _) (Nat.le_refl _))
  have V10 := Lib.hid (V9.out.fr fr (.inr (by omega)))
  have N10 := Lib.hid (N9.out.fr fr (.inr (by omega)))
  have Fva10 := Lib.hid (Fva9.out.fr fr (by omega))
  have Fvb10 := Lib.hid (Fvb9.out.fr fr (by omega))
  have Fvx10 := Lib.hid (Fvx9.out.fr fr (by omega))
  have Fvy10 := Lib.hid (Fvy9.out.fr fr (by omega))
  have Fvp10 := Lib.hid (Fvp9.out.fr fr (by omega))
  have Fvq10 := Lib.hid (Fvq9.out.fr fr (by omega))
  have hsz10 : W2.heap.size ≤ W10.heap.size := Nat.le_trans hsz9 fr.size
  clear HB9 HD9 V9 N9 Fva9 Fvb9 Fvx9 Fvy9 Fvp9 Fvq9
  have HS10 := Lib.hid (HS9.out.below hk)
  clear HS9 fr
  have HC2 := Lib.hid hC2
  clear hC2
  clear hk
  have cV := V10.out.cells
  have lV := V10.out.lt
  have cN := N10.out.cells
  have lN := N10.out.lt
  go_wp2_with fail
  refine (right21_any _ baseC (baseRules A2 rc2) _ HC2.out (by decide)).mono ?_
  rintro e W11 ⟨rfl, hk⟩
  (try clear cV); (try clear lV)
  (try clear cN); (try clear lN)
  have fr := Fr.of_below (lo := W1.heap.size) (hi := W2.heap.size) hk
  have HB11 := Lib.hid (fr.below HB10.out (Nat.le_refl _) hlo)
  have HD11 := Lib.hid (fr.below HD10.out (Nat.le_refl _) (Nat.le_refl _))
  have V11 := Lib.hid (V10.out.fr fr (.inr (by omega)))
  have N11 := Lib.hid (N10.out.fr fr (.inr (by omega)))
  have Fva11 := Lib.hid (Fva10.out.fr fr (by omega))
  have Fvb11 := Lib.hid (Fvb10.out.fr fr (by omega))
  have Fvx11 := Lib.hid (Fvx10.out.fr fr (by omega))
  have Fvy11 := Lib.hid (Fvy10.out.fr fr (by omega))
  have Fvp11 := Lib.hid (Fvp10.out.fr fr (by omega))
  have Fvq11 := Lib.hid (Fvq10.out.fr fr (by omega))
  have hsz11 : W2.heap.size ≤ W11.heap.size := Nat.le_trans hsz10 fr.size
  clear HB10 HD10 V10 N10 Fva10 Fvb10 Fvx10 Fvy10 Fvp10 Fvq10
  have HS11 := Lib.hid (HS10.out.below hk)
  clear HS10 fr
  rw [show rightA baseC (baseRules A2 rc2) = true from rfl]
  clear hk
  have cV := V11.out.cells
  have lV := V11.out.lt
  have cN := N11.out.cells
  have lN := N11.out.lt
  go_wp2_with fail
  refine (right21_any _ zeroC [] _ (zeroR _) (by decide)).mono ?_
  rintro e W12 ⟨rfl, hk⟩
  (try clear cV); (try clear lV)
  (try clear cN); (try clear lN)
  have fr := Fr.of_below (lo := W1.heap.size) (hi := W2.heap.size) hk
  have HB12 := Lib.hid (fr.below HB11.out (Nat.le_refl _) hlo)
  have HD12 := Lib.hid (fr.below HD11.out (Nat.le_refl _) (Nat.le_refl _))
  have V12 := Lib.hid (V11.out.fr fr (.inr (by omega)))
  have N12 := Lib.hid (N11.out.fr fr (.inr (by omega)))
  have Fva12 := Lib.hid (Fva11.out.fr fr (by omega))
  have Fvb12 := Lib.hid (Fvb11.out.fr fr (by omega))
  have Fvx12 := Lib.hid (Fvx11.out.fr fr (by omega))
  have Fvy12 := Lib.hid (Fvy11.out.fr fr (by omega))
  have Fvp12 := Lib.hid (Fvp11.out.fr fr (by omega))
  have Fvq12 := Lib.hid (Fvq11.out.fr fr (by omega))
  have hsz12 : W2.heap.size ≤ W12.heap.size := Nat.le_trans hsz11 fr.size
  clear HB11 HD11 V11 N11 Fva11 Fvb11 Fvx11 Fvy11 Fvp11 Fvq11
  have HS12 := Lib.hid (HS11.out.below hk)
  clear HS11 fr
  rw [show rightA zeroC [] = false from rfl]
  clear hk
  have cV := V12.out.cells
  have lV := V12.out.lt
  have cN := N12.out.cells
  have lN := N12.out.lt
  go_wp2_with fail
  refine calls_world (fun W => Below W12.heap.size W12 W ∧ Blk W (W12.heap.size) 53 #[.bool false, .bool false]) ⟨(by go_grown), Blk.new _ _ _ _ (by first | rfl | simp)⟩ fun W13 ⟨hk, qQ⟩ => ?_
  (try clear cV); (try clear lV)
  (try clear cN); (try clear lN)
  have fr := Fr.of_below (lo := W1.heap.size) (hi := W2.heap.size) hk
  have HB13 := Lib.hid (fr.below HB12.out (Nat.le_refl _) hlo)
  have HD13 := Lib.hid (fr.below HD12.out (Nat.le_refl _) (Nat.le_refl _))
  have V13 := Lib.hid (V12.out.fr fr (.inr (by omega)))
  have N13 := Lib.hid (N12.out.fr fr (.inr (by omega)))
  have Fva13 := Lib.hid (Fva12.out.fr fr (by omega))
  have Fvb13 := Lib.hid (Fvb12.out.fr fr (by omega))
  have Fvx13 := Lib.hid (Fvx12.out.fr fr (by omega))
  have Fvy13 := Lib.hid (Fvy12.out.fr fr (by omega))
  have Fvp13 := Lib.hid (Fvp12.out.fr fr (by omega))
  have Fvq13 := Lib.hid (Fvq12.out.fr fr (by omega))
  have hsz13 : W2.heap.size ≤ W13.heap.size := Nat.le_trans hsz12 fr.size
  clear HB12 HD12 V12 N12 Fva12 Fvb12 Fvx12 Fvy12 Fvp12 Fvq12
  have HS13 := Lib.hid (HS12.out.below hk)
  clear HS12 hk fr
  have Q13 := Lib.hid qQ
  clear qQ
  refine (same_any _ _ _ 1 _ [(false, false)] _ Fva13.out.1 (RowN.of_blk Q13.out rfl rfl (Nat.le_refl _) (by decide))).mono ?_
  rintro e W14 ⟨rfl, hk⟩
  (try clear cV); (try clear lV)
  (try clear cN); (try clear lN)
  have fr := Fr.of_below (lo := W1.heap.size) (hi := W2.heap.size) hk
  have HB14 := Lib.hid (fr.below HB13.out (Nat.le_refl _) hlo)
  have HD14 := Lib.hid (fr.below HD13.out (Nat.le_refl _) (Nat.le_refl _))
  have V14 := Lib.hid (V13.out.fr fr (.inr (by omega)))
  have N14 := Lib.hid (N13.out.fr fr (.inr (by omega)))
  have Fva14 := Lib.hid (Fva13.out.fr fr (by omega))
  have Fvb14 := Lib.hid (Fvb13.out.fr fr (by omega))
  have Fvx14 := Lib.hid (Fvx13.out.fr fr (by omega))
  have Fvy14 := Lib.hid (Fvy13.out.fr fr (by omega))
  have Fvp14 := Lib.hid (Fvp13.out.fr fr (by omega))
  have Fvq14 := Lib.hid (Fvq13.out.fr fr (by omega))
  have hsz14 : W2.heap.size ≤ W14.heap.size := Nat.le_trans hsz13 fr.size
  clear HB13 HD13 V13 N13 Fva13 Fvb13 Fvx13 Fvy13 Fvp13 Fvq13
  have HS14 := Lib.hid (HS13.out.below hk)
  clear HS13 fr
  rw [show decide (((newL (baseRules A rc)).map (fun x => (x.next cs1).al)) = [(false, false)]) = true from rfl]
  clear Q13
  clear hk
  have cV := V14.out.cells
  have lV := V14.out.lt
  have cN := N14.out.cells
  have lN := N14.out.lt
  go_wp2_with fail
  refine calls_world (fun W => Below W14.heap.size W14 W ∧ Blk W (W14.heap.size) 53 #[.bool false, .bool false, .bool false, .bool false, .bool false, .bool false]) ⟨(by go_grown), Blk.new _ _ _ _ (by first | rfl | simp)⟩ fun W15 ⟨hk, qQ⟩ => ?_
  (try clear cV); (try clear lV)
  (try clear cN); (try clear lN)
  have fr := Fr.of_below (lo := W1.heap.size) (hi := W2.heap.size) hk
  have HB15 := Lib.hid (fr.below HB14.out (Nat.le_refl _) hlo)
  have HD15 := Lib.hid (fr.below HD14.out (Nat.le_refl _) (Nat.le_refl _))
  have V15 := Lib.hid (V14.out.fr fr (.inr (by omega)))
  have N15 := Lib.hid (N14.out.fr fr (.inr (by omega)))
  have Fva15 := Lib.hid (Fva14.out.fr fr (by omega))
  have Fvb15 := Lib.hid (Fvb14.out.fr fr (by omega))
  have Fvx15 := Lib.hid (Fvx14.out.fr fr (by omega))
  have Fvy15 := Lib.hid (Fvy14.out.fr fr (by omega))
  have Fvp15 := Lib.hid (Fvp14.out.fr fr (by omega))
  have Fvq15 := Lib.hid (Fvq14.out.fr fr (by omega))
  have hsz15 : W2.heap.size ≤ W15.heap.size := Nat.le_trans hsz14 fr.size
  clear HB14 HD14 V14 N14 Fva14 Fvb14 Fvx14 Fvy14 Fvp14 Fvq14
  have HS15 := Lib.hid (HS14.out.below hk)
  clear HS14 hk fr
  have Q15 := Lib.hid qQ
  clear qQ
  refine (same_any _ _ _ 3 _ [(false, false), (false, false), (false, false)] _ Fvb15.out.1 (RowN.of_blk Q15.out rfl rfl (Nat.le_refl _) (by decide))).mono ?_
  rintro e W16 ⟨rfl, hk⟩
  (try clear cV); (try clear lV)
  (try clear cN); (try clear lN)
  have fr := Fr.of_below (lo := W1.heap.size) (hi := W2.heap.size) hk
  have HB16 := Lib.hid (fr.below HB15.out (Nat.le_refl _) hlo)
  have HD16 := Lib.hid (fr.below HD15.out (Nat.le_refl _) (Nat.le_refl _))
  have V16 := Lib.hid (V15.out.fr fr (.inr (by omega)))
  have N16 := Lib.hid (N15.out.fr fr (.inr (by omega)))
  have Fva16 := Lib.hid (Fva15.out.fr fr (by omega))
  have Fvb16 := Lib.hid (Fvb15.out.fr fr (by omega))
  have Fvx16 := Lib.hid (Fvx15.out.fr fr (by omega))
  have Fvy16 := Lib.hid (Fvy15.out.fr fr (by omega))
  have Fvp16 := Lib.hid (Fvp15.out.fr fr (by omega))
  have Fvq16 := Lib.hid (Fvq15.out.fr fr (by omega))
  have hsz16 : W2.heap.size ≤ W16.heap.size := Nat.le_trans hsz15 fr.size
  clear HB15 HD15 V15 N15 Fva15 Fvb15 Fvx15 Fvy15 Fvp15 Fvq15
  have HS16 := Lib.hid (HS15.out.below hk)
  clear HS15 fr
  rw [show decide (((newM baseC).map (fun x => (x.next cs1).al)) = [(false, false), (false, false), (false, false)]) = true from rfl]
  clear Q15
  clear hk
  have cV := V16.out.cells
  have lV := V16.out.lt
  have cN := N16.out.cells
  have lN := N16.out.lt
  go_wp2_with fail
  refine calls_world (fun W => Below W16.heap.size W16 W ∧ Blk W (W16.heap.size) 53 #[.bool false, .bool false]) ⟨(by go_grown), Blk.new _ _ _ _ (by first | rfl | simp)⟩ fun W17 ⟨hk, qQ⟩ => ?_
  (try clear cV); (try clear lV)
  (try clear cN); (try clear lN)
  have fr := Fr.of_below (lo := W1.heap.size) (hi := W2.heap.size) hk
  have HB17 := Lib.hid (fr.below HB16.out (Nat.le_refl _) hlo)
  have HD17 := Lib.hid (fr.below HD16.out (Nat.le_refl _) (Nat.le_refl _))
  have V17 := Lib.hid (V16.out.fr fr (.inr (by omega)))
  have N17 := Lib.hid (N16.out.fr fr (.inr (by omega)))
  have Fva17 := Lib.hid (Fva16.out.fr fr (by omega))
  have Fvb17 := Lib.hid (Fvb16.out.fr fr (by omega))
  have Fvx17 := Lib.hid (Fvx16.out.fr fr (by omega))
  have Fvy17 := Lib.hid (Fvy16.out.fr fr (by omega))
  have Fvp17 := Lib.hid (Fvp16.out.fr fr (by omega))
  have Fvq17 := Lib.hid (Fvq16.out.fr fr (by omega))
  have hsz17 : W2.heap.size ≤ W17.heap.size := Nat.le_trans hsz16 fr.size
  clear HB16 HD16 V16 N16 Fva16 Fvb16 Fvx16 Fvy16 Fvp16 Fvq16
  have HS17 := Lib.hid (HS16.out.below hk)
  clear HS16 hk fr
  have Q17 := Lib.hid qQ
  clear qQ
  refine (same_any _ _ _ 1 _ [(false, false)] _ Fvx17.out.1 (RowN.of_blk Q17.out rfl rfl (Nat.le_refl _) (by decide))).mono ?_
  rintro e W18 ⟨rfl, hk⟩
  (try clear cV); (try clear lV)
  (try clear cN); (try clear lN)
  have fr := Fr.of_below (lo := W1.heap.size) (hi := W2.heap.size) hk
  have HB18 := Lib.hid (fr.below HB17.out (Nat.le_refl _) hlo)
  have HD18 := Lib.hid (fr.below HD17.out (Nat.le_refl _) (Nat.le_refl _))
  have V18 := Lib.hid (V17.out.fr fr (.inr (by omega)))
  have N18 := Lib.hid (N17.out.fr fr (.inr (by omega)))
  have Fva18 := Lib.hid (Fva17.out.fr fr (by omega))
  have Fvb18 := Lib.hid (Fvb17.out.fr fr (by omega))
  have Fvx18 := Lib.hid (Fvx17.out.fr fr (by omega))
  have Fvy18 := Lib.hid (Fvy17.out.fr fr (by omega))
  have Fvp18 := Lib.hid (Fvp17.out.fr fr (by omega))
  have Fvq18 := Lib.hid (Fvq17.out.fr fr (by omega))
  have hsz18 : W2.heap.size ≤ W18.heap.size := Nat.le_trans hsz17 fr.size
  clear HB17 HD17 V17 N17 Fva17 Fvb17 Fvx17 Fvy17 Fvp17 Fvq17
  have HS18 := Lib.hid (HS17.out.below hk)
  clear HS17 fr
  rw [show decide ((((newL (baseRules A rc)).map (Wt.next cs1)).map (fun x => (x.next cs2).al)) = [(false, false)]) = true from rfl]
  clear Q17
  clear hk
  have cV := V18.out.cells
  have lV := V18.out.lt
  have cN := N18.out.cells
  have lN := N18.out.lt
  go_wp2_with fail
  refine calls_world (fun W => Below W18.heap.size W18 W ∧ Blk W (W18.heap.size) 53 #[.bool false, .bool false, .bool false, .bool false, .bool true, .bool true]) ⟨(by go_grown), Blk.new _ _ _ _ (by first | rfl | simp)⟩ fun W19 ⟨hk, qQ⟩ => ?_
  (try clear cV); (try clear lV)
  (try clear cN); (try clear lN)
  have fr := Fr.of_below (lo := W1.heap.size) (hi := W2.heap.size) hk
  have HB19 := Lib.hid (fr.below HB18.out (Nat.le_refl _) hlo)
  have HD19 := Lib.hid (fr.below HD18.out (Nat.le_refl _) (Nat.le_refl _))
  have V19 := Lib.hid (V18.out.fr fr (.inr (by omega)))
  have N19 := Lib.hid (N18.out.fr fr (.inr (by omega)))
  have Fva19 := Lib.hid (Fva18.out.fr fr (by omega))
  have Fvb19 := Lib.hid (Fvb18.out.fr fr (by omega))
  have Fvx19 := Lib.hid (Fvx18.out.fr fr (by omega))
  have Fvy19 := Lib.hid (Fvy18.out.fr fr (by omega))
  have Fvp19 := Lib.hid (Fvp18.out.fr fr (by omega))
  have Fvq19 := Lib.hid (Fvq18.out.fr fr (by omega))
  have hsz19 : W2.heap.size ≤ W19.heap.size := Nat.le_trans hsz18 fr.size
  clear HB18 HD18 V18 N18 Fva18 Fvb18 Fvx18 Fvy18 Fvp18 Fvq18
  have HS19 := Lib.hid (HS18.out.below hk)
  clear HS18 hk fr
  have Q19 := Lib.hid qQ
  clear qQ
  refine (same_any _ _ _ 3 _ [(false, false), (false, false), (true, true)] _ Fvy19.out.1 (RowN.of_blk Q19.out rfl rfl (Nat.le_refl _) (by decide))).mono ?_
  rintro e W20 ⟨rfl, hk⟩
  (try clear cV); (try clear lV)
  (try clear cN); (try clear lN)
  have fr := Fr.of_below (lo := W1.heap.size) (hi := W2.heap.size) hk
  have HB20 := Lib.hid (fr.below HB19.out (Nat.le_refl _) hlo)
  have HD20 := Lib.hid (fr.below HD19.out (Nat.le_refl _) (Nat.le_refl _))
  have V20 := Lib.hid (V19.out.fr fr (.inr (by omega)))
  have N20 := Lib.hid (N19.out.fr fr (.inr (by omega)))
  have Fva20 := Lib.hid (Fva19.out.fr fr (by omega))
  have Fvb20 := Lib.hid (Fvb19.out.fr fr (by omega))
  have Fvx20 := Lib.hid (Fvx19.out.fr fr (by omega))
  have Fvy20 := Lib.hid (Fvy19.out.fr fr (by omega))
  have Fvp20 := Lib.hid (Fvp19.out.fr fr (by omega))
  have Fvq20 := Lib.hid (Fvq19.out.fr fr (by omega))
  have hsz20 : W2.heap.size ≤ W20.heap.size := Nat.le_trans hsz19 fr.size
  clear HB19 HD19 V19 N19 Fva19 Fvb19 Fvx19 Fvy19 Fvp19 Fvq19
  have HS20 := Lib.hid (HS19.out.below hk)
  clear HS19 fr
  rw [show decide ((((newM baseC).map (Wt.next cs1)).map (fun x => (x.next cs2).al)) = [(false, false), (false, false), (true, true)]) = true from rfl]
  clear Q19
  clear hk
  have cV := V20.out.cells
  have lV := V20.out.lt
  have cN := N20.out.cells
  have lN := N20.out.lt
  go_wp2_with fail
  refine calls_world (fun W => Below W20.heap.size W20 W ∧ Blk W (W20.heap.size) 53 #[.bool true, .bool true]) ⟨(by go_grown), Blk.new _ _ _ _ (by first | rfl | simp)⟩ fun W21 ⟨hk, qQ⟩ => ?_
  (try clear cV); (try clear lV)
  (try clear cN); (try clear lN)
  have fr := Fr.of_below (lo := W1.heap.size) (hi := W2.heap.size) hk
  have HB21 := Lib.hid (fr.below HB20.out (Nat.le_refl _) hlo)
  have HD21 := Lib.hid (fr.below HD20.out (Nat.le_refl _) (Nat.le_refl _))
  have V21 := Lib.hid (V20.out.fr fr (.inr (by omega)))
  have N21 := Lib.hid (N20.out.fr fr (.inr (by omega)))
  have Fva21 := Lib.hid (Fva20.out.fr fr (by omega))
  have Fvb21 := Lib.hid (Fvb20.out.fr fr (by omega))
  have Fvx21 := Lib.hid (Fvx20.out.fr fr (by omega))
  have Fvy21 := Lib.hid (Fvy20.out.fr fr (by omega))
  have Fvp21 := Lib.hid (Fvp20.out.fr fr (by omega))
  have Fvq21 := Lib.hid (Fvq20.out.fr fr (by omega))
  have hsz21 : W2.heap.size ≤ W21.heap.size := Nat.le_trans hsz20 fr.size
  clear HB20 HD20 V20 N20 Fva20 Fvb20 Fvx20 Fvy20 Fvp20 Fvq20
  have HS21 := Lib.hid (HS20.out.below hk)
  clear HS20 hk fr
  have Q21 := Lib.hid qQ
  clear qQ
  refine (same_any _ _ _ 1 _ [(true, true)] _ Fvp21.out.1 (RowN.of_blk Q21.out rfl rfl (Nat.le_refl _) (by decide))).mono ?_
  rintro e W22 ⟨rfl, hk⟩
  (try clear cV); (try clear lV)
  (try clear cN); (try clear lN)
  have fr := Fr.of_below (lo := W1.heap.size) (hi := W2.heap.size) hk
  have HB22 := Lib.hid (fr.below HB21.out (Nat.le_refl _) hlo)
  have HD22 := Lib.hid (fr.below HD21.out (Nat.le_refl _) (Nat.le_refl _))
  have V22 := Lib.hid (V21.out.fr fr (.inr (by omega)))
  have N22 := Lib.hid (N21.out.fr fr (.inr (by omega)))
  have Fva22 := Lib.hid (Fva21.out.fr fr (by omega))
  have Fvb22 := Lib.hid (Fvb21.out.fr fr (by omega))
  have Fvx22 := Lib.hid (Fvx21.out.fr fr (by omega))
  have Fvy22 := Lib.hid (Fvy21.out.fr fr (by omega))
  have Fvp22 := Lib.hid (Fvp21.out.fr fr (by omega))
  have Fvq22 := Lib.hid (Fvq21.out.fr fr (by omega))
  have hsz22 : W2.heap.size ≤ W22.heap.size := Nat.le_trans hsz21 fr.size
  clear HB21 HD21 V21 N21 Fva21 Fvb21 Fvx21 Fvy21 Fvp21 Fvq21
  have HS22 := Lib.hid (HS21.out.below hk)
  clear HS21 fr
  rw [show decide (((((newL (baseRules A rc)).map (Wt.next cs1)).map (Wt.next cs2)).map (fun x => (x.next cs3).al)) = [(true, true)]) = true from rfl]
  clear Q21
  clear hk
  have cV := V22.out.cells
  have lV := V22.out.lt
  have cN := N22.out.cells
  have lN := N22.out.lt
  go_wp2_with fail
  refine calls_world (fun W => Below W22.heap.size W22 W ∧ Blk W (W22.heap.size) 53 #[.bool false, .bool false, .bool false, .bool false, .bool true, .bool false]) ⟨(by go_grown), Blk.new _ _ _ _ (by first | rfl | simp)⟩ fun W23 ⟨hk, qQ⟩ => ?_
  (try clear cV); (try clear lV)
  (try clear cN); (try clear lN)
  have fr := Fr.of_below (lo := W1.heap.size) (hi := W2.heap.size) hk
  have HB23 := Lib.hid (fr.below HB22.out (Nat.le_refl _) hlo)
  have HD23 := Lib.hid (fr.below HD22.out (Nat.le_refl _) (Nat.le_refl _))
  have V23 := Lib.hid (V22.out.fr fr (.inr (by omega)))
  have N23 := Lib.hid (N22.out.fr fr (.inr (by omega)))
  have Fva23 := Lib.hid (Fva22.out.fr fr (by omega))
  have Fvb23 := Lib.hid (Fvb22.out.fr fr (by omega))
  have Fvx23 := Lib.hid (Fvx22.out.fr fr (by omega))
  have Fvy23 := Lib.hid (Fvy22.out.fr fr (by omega))
  have Fvp23 := Lib.hid (Fvp22.out.fr fr (by omega))
  have Fvq23 := Lib.hid (Fvq22.out.fr fr (by omega))
  have hsz23 : W2.heap.size ≤ W23.heap.size := Nat.le_trans hsz22 fr.size
  clear HB22 HD22 V22 N22 Fva22 Fvb22 Fvx22 Fvy22 Fvp22 Fvq22
  have HS23 := Lib.hid (HS22.out.below hk)
  clear HS22 hk fr
  have Q23 := Lib.hid qQ
  clear qQ
  refine (same_any _ _ _ 3 _ [(false, false), (false, false), (true, false)] _ Fvq23.out.1 (RowN.of_blk Q23.out rfl rfl (Nat.le_refl _) (by decide))).mono ?_
  rintro e W24 ⟨rfl, hk⟩
  (try clear cV); (try clear lV)
  (try clear cN); (try clear lN)
  have fr := Fr.of_below (lo := W1.heap.size) (hi := W2.heap.size) hk
  have HB24 := Lib.hid (fr.below HB23.out (Nat.le_refl _) hlo)
  have HD24 := Lib.hid (fr.below HD23.out (Nat.le_refl _) (Nat.le_refl _))
  have V24 := Lib.hid (V23.out.fr fr (.inr (by omega)))
  have N24 := Lib.hid (N23.out.fr fr (.inr (by omega)))
  have Fva24 := Lib.hid (Fva23.out.fr fr (by omega))
  have Fvb24 := Lib.hid (Fvb23.out.fr fr (by omega))
  have Fvx24 := Lib.hid (Fvx23.out.fr fr (by omega))
  have Fvy24 := Lib.hid (Fvy23.out.fr fr (by omega))
  have Fvp24 := Lib.hid (Fvp23.out.fr fr (by omega))
  have Fvq24 := Lib.hid (Fvq23.out.fr fr (by omega))
  have hsz24 : W2.heap.size ≤ W24.heap.size := Nat.le_trans hsz23 fr.size
  clear HB23 HD23 V23 N23 Fva23 Fvb23 Fvx23 Fvy23 Fvp23 Fvq23
  have HS24 := Lib.hid (HS23.out.below hk)
  clear HS23 fr
  rw [show decide (((((newM baseC).map (Wt.next cs1)).map (Wt.next cs2)).map (fun x => (x.next cs3).al)) = [(false, false), (false, false), (true, false)]) = true from rfl]
  clear Q23
  clear hk
  have cV := V24.out.cells
  have lV := V24.out.lt
  have cN := N24.out.cells
  have lN := N24.out.lt
  go_wp2_with fail
  refine (SS.ackR 0 HS24.out (by simp [newL, baseRules])).mono ?_
  rintro e W25 ⟨rfl, hs, fr⟩
  (try clear cV); (try clear lV)
  (try clear cN); (try clear lN)
  have HB25 := Lib.hid (fr.below HB24.out (Nat.le_refl _) hlo)
  have HD25 := Lib.hid (fr.below HD24.out (Nat.le_refl _) (Nat.le_refl _))
  have V25 := Lib.hid (V24.out.fr fr (.inr (by omega)))
  have N25 := Lib.hid (N24.out.fr fr (.inr (by omega)))
  have hsz25 : W2.heap.size ≤ W25.heap.size := Nat.le_trans hsz24 fr.size
  clear HB24 HD24 V24 N24
  have HS25 := Lib.hid hs
  clear HS24 fr hs
  have cV := V25.out.cells
  have lV := V25.out.lt
  have cN := N25.out.cells
  have lN := N25.out.lt
  rw [show decide (0 ≤ (0 : Int) ∧ (0 : Int) < (((((newL (baseRules A rc)).map (Wt.next cs1)).map (Wt.next cs2)).map (Wt.next cs3)).length : Int)) = true from rfl]
  go_wp2_with fail
  refine (SS.ackR 1 HS25.out (by rw [ackL_len]; simp [newL, baseRules])).mono ?_
  rintro e W26 ⟨rfl, hs, fr⟩
  (try clear cV); (try clear lV)
  (try clear cN); (try clear lN)
  have HB26 := Lib.hid (fr.below HB25.out (Nat.le_refl _) hlo)
  have HD26 := Lib.hid (fr.below HD25.out (Nat.le_refl _) (Nat.le_refl _))
  have V26 := Lib.hid (V25.out.fr fr (.inr (by omega)))
  have N26 := Lib.hid (N25.out.fr fr (.inr (by omega)))
  have hsz26 : W2.heap.size ≤ W26.heap.size := Nat.le_trans hsz25 fr.size
  clear HB25 HD25 V25 N25
  have HS26 := Lib.hid hs
  clear HS25 fr hs
  have cV := V26.out.cells
  have lV := V26.out.lt
  have cN := N26.out.cells
  have lN := N26.out.lt
  rw [show decide (0 ≤ (1 : Int) ∧ (1 : Int) < ((ackL 0 ((((newL (baseRules A rc)).map (Wt.next cs1)).map (Wt.next cs2)).map (Wt.next cs3))).length : Int)) = false from rfl]
  go_wp2_with fail
  refine (SS.ackC 2 HS26.out (by simp [newM]; decide)).mono ?_
  rintro e W27 ⟨rfl, hs, fr⟩
  (try clear cV); (try clear lV)
  (try clear cN); (try clear lN)
  have HB27 := Lib.hid (fr.below HB26.out (Nat.le_refl _) hlo)
  have HD27 := Lib.hid (fr.below HD26.out (Nat.le_refl _) (Nat.le_refl _))
  have V27 := Lib.hid (V26.out.fr fr (.inr (by omega)))
  have N27 := Lib.hid (N26.out.fr fr (.inr (by omega)))
  have hsz27 : W2.heap.size ≤ W27.heap.size := Nat.le_trans hsz26 fr.size
  clear HB26 HD26 V26 N26
  have HS27 := Lib.hid hs
  clear HS26 fr hs
  have cV := V27.out.cells
  have lV := V27.out.lt
  have cN := N27.out.cells
  have lN := N27.out.lt
  rw [show decide (0 ≤ (2 : Int) ∧ (2 : Int) < (((((newM baseC).map (Wt.next cs1)).map (Wt.next cs2)).map (Wt.next cs3)).length : Int)) = true from rfl]
  go_wp2_with fail
  refine (SS.ackC 3 HS27.out (by rw [ackL_len]; simp [newM]; decide)).mono ?_
  rintro e W28 ⟨rfl, hs, fr⟩
  have HB28 := fr.below HB27.out (Nat.le_refl _) hlo
  rw [show decide (0 ≤ (3 : Int) ∧ (3 : Int) < ((ackL 2 ((((newM baseC).map (Wt.next cs1)).map (Wt.next cs2)).map (Wt.next cs3))).length : Int)) = false from rfl]
  (try clear cV); (try clear lV)
  (try clear cN); (try clear lN)
  clear hs fr
  go_wp2
  go_ret
  exact ⟨by first | rfl | simp, HB28⟩
end Go.Proofs.Ytcdmojimdiiepaa
