/- Layer 21: a tick, and acks, of all alarms. -/
import Derived.Test.YtcdmojimdiiepaaAlarmC
import Derived.Test.YtcdmojimdiiepaaReg
import Derived.StillTailTactics
import Derived.Handy
namespace Go.Proofs.Ytcdmojimdiiepaa
open Go.ChangeShapes Go.WideShapes Go.ChangeAt Go.RowKit
set_option linter.unusedVariables false
set_option linter.unusedSimpArgs false

set_option maxRecDepth 100000 in
theorem through_any (pc : Nat) (w : World) : Calls Try.prog 39 #[.func (.func 40) #[] #[.pointer (some ⟨pc, 0, none⟩)]] w fun e w' =>
    e = .returned (.func (.func 60) #[] #[.pointer (some ⟨w.heap.size, 0, none⟩)]) ∧ w.alloc (.cells #[.func (.func 40) #[] #[.pointer (some ⟨pc, 0, none⟩)]] 92) = w' := by
  have hmf : ∀ (fn : Fn) (first cap : Array Value) (w : World), (Instr.makeFunc fn first cap).run Try.prog w = .ok (.func fn first cap) w := fun _ _ _ _ => rfl
  go_enter Try.func39, Try.ntmps39
  go_wp2
  go_returns
  exact ⟨rfl, rfl⟩
theorem bl_lt {W0 w : World} {q : List (Nat × Wt)} (h : AllW W0 w q) : ∀ b ∈ bl q, b < w.heap.size := by
  intro b hb
  obtain ⟨y, hy, rfl⟩ := List.mem_map.1 hb
  obtain ⟨j, hj⟩ := List.getElem?_of_mem hy
  exact (h j y hj).lt
theorem Inj.left {a b : List (Nat × Wt)} (h : Inj (a ++ b)) : Inj a := fun i j x y hx hy e => h i j x y (by rw [List.getElem?_append_left (List.getElem?_eq_some_iff.1 hx).1]; exact hx) (by rw [List.getElem?_append_left (List.getElem?_eq_some_iff.1 hy).1]; exact hy) e
theorem Inj.right {a b : List (Nat × Wt)} (h : Inj (a ++ b)) : Inj b := fun i j x y hx hy e => by
  have := h (a.length + i) (a.length + j) x y (by rw [List.getElem?_append_right (by omega), Nat.add_sub_cancel_left]; exact hx) (by rw [List.getElem?_append_right (by omega), Nat.add_sub_cancel_left]; exact hy) e
  omega
theorem Inj.cross {a b : List (Nat × Wt)} (h : Inj (a ++ b)) : ∀ x ∈ bl a, x ∉ bl b := by
  intro x hx hb
  obtain ⟨y, hy, rfl⟩ := List.mem_map.1 hx
  obtain ⟨z, hz, e⟩ := List.mem_map.1 hb
  obtain ⟨i, hi⟩ := List.getElem?_of_mem hy
  obtain ⟨j, hj⟩ := List.getElem?_of_mem hz
  have := h i (a.length + j) y z (by rw [List.getElem?_append_left (List.getElem?_eq_some_iff.1 hi).1]; exact hi) (by rw [List.getElem?_append_right (by omega), Nat.add_sub_cancel_left]; exact hj) e.symm
  have := (List.getElem?_eq_some_iff.1 hi).1
  omega
theorem RowF.mono {B C k n : Nat} {w : World} {v : Value} {xs : List Value} (h : RowF B k w v n xs) (hb : C ≤ B) : RowF C k w v n xs := ⟨h.1, fun ad n' c e => Nat.le_trans hb (h.2 ad n' c e)⟩
set_option maxRecDepth 100000 in
set_option maxHeartbeats 4000000 in
theorem tick_no (W0 w : World) (lo hi pb : Nat) (qr qc : List (Nat × Wt)) (CA : Option Addr) (cc : Nat) (cs : List Cl) (h : St W0 w lo hi pb qr qc) (hn : cs.length ≠ qc.length) :
    Calls Try.prog 20 #[.pointer (some ⟨pb, 0, none⟩), .slice CA cs.length cc] w fun e w' => e = .returned (.tuple #[.slice none 0 0, .slice none 0 0]) ∧ Below w.heap.size w w' := by
  obtain ⟨RA, rc, SA, sc, hblk, hrr, hrc, hRA, hSA⟩ := h.blk
  have HST := Lib.hid h
  have HB := Lib.hid hblk
  have HRR := Lib.hid hrr
  have HRC := Lib.hid hrc
  have HRA := Lib.hid hRA
  have HSA := Lib.hid hSA
  have gn : decide ((cs.length : Int) ≠ (qc.length : Int)) = true := decide_eq_true (by omega)
  have gn2 : (((cs.length : Nat) : Int) == ((qc.length : Nat) : Int)) = false := by simp; omega
  have gn3 : ((cs.length : Int) != (qc.length : Int)) = true := by simp; omega
  have gn4 : (cs.length == qc.length) = false := by simp; omega
  have gn5 : (cs.length != qc.length) = true := by simp; omega
  clear h hblk hrr hrc hRA hSA hn
  go_enter Try.func20, Try.ntmps20
  go_wp2_with fail
  refine wp_world (fun W => Below w.heap.size w W ∧ Blk W w.heap.size 35 #[.slice CA cs.length cc]) ⟨by go_grown, Blk.new _ _ _ _ rfl⟩ fun W ⟨hbW, hqc⟩ => ?_
  have HBW := Lib.hid hbW
  have HPC := Lib.hid hqc
  have HPB := Lib.hid (HB.out.below hbW)
  have dP : ∀ w', Below W.heap.size W w' → ∀ i, w'.cell? ⟨pb, i, none⟩ = (#[.slice RA qr.length rc, .slice SA qc.length sc] : Array Value)[i]? := fun w' hb => (HPB.out.below hb).cells
  have dC : ∀ w', Below W.heap.size W w' → ∀ i, w'.cell? ⟨w.heap.size, i, none⟩ = (#[.slice CA cs.length cc] : Array Value)[i]? := fun w' hb => (HPC.out.below hb).cells
  clear hbW hqc
  refine wp_region_held_drew (S := fun w' => Below W.heap.size W w') (by kernel_rfl) ((Below.refl _ _).drew) (fun hHeld => ?_)
  refine takeD 0 (some 7) (v := ?_) rfl rfl (by kernel_rfl) (by kernel_rfl) (by kernel_rfl) (fun _ _ _ h => h) (by rfl) ?_ (by assumption) ?_
  rotate_left
  · intro w hSw
    (try dsimp only at hSw)
    go_simp
    try with_reducible rfl
  try simp only [Act.put, List.setIfInBounds_toArray, List.set_cons_zero, List.set_cons_succ]
  refine takeD 1 (some 8) (v := ?_) rfl rfl (by kernel_rfl) (by kernel_rfl) (by kernel_rfl) (fun _ _ _ h => h) (by rfl) ?_ (by assumption) ?_
  rotate_left
  · intro w hSw
    (try dsimp only at hSw)
    go_simp
    try with_reducible rfl
  try simp only [Act.put, List.setIfInBounds_toArray, List.set_cons_zero, List.set_cons_succ]
  refine takeD 2 (some 9) (v := ?_) rfl rfl (by kernel_rfl) (by kernel_rfl) (by kernel_rfl) (fun _ _ _ h => h) (by rfl) ?_ (by assumption) ?_
  rotate_left
  · intro w hSw
    (try dsimp only at hSw)
    go_simp
    try with_reducible rfl
  try simp only [Act.put, List.setIfInBounds_toArray, List.set_cons_zero, List.set_cons_succ]
  refine takeD 3 (some 10) (v := ?_) rfl rfl (by kernel_rfl) (by kernel_rfl) (by kernel_rfl) (fun _ _ _ h => h) (by rfl) ?_ (by assumption) ?_
  rotate_left
  · intro w hSw
    (try dsimp only at hSw)
    go_simp
    try with_reducible rfl
  try simp only [Act.put, List.setIfInBounds_toArray, List.set_cons_zero, List.set_cons_succ]
  refine takeD 4 (some 11) (v := ?_) rfl rfl (by kernel_rfl) (by kernel_rfl) (by kernel_rfl) (fun _ _ _ h => h) (by rfl) ?_ (by assumption) ?_
  rotate_left
  · intro w hSw
    (try dsimp only at hSw)
    go_simp
    try with_reducible rfl
  try simp only [Act.put, List.setIfInBounds_toArray, List.set_cons_zero, List.set_cons_succ]
  refine takeD 5 (some 12) (v := ?_) rfl rfl (by kernel_rfl) (by kernel_rfl) (by kernel_rfl) (fun _ _ _ h => h) (by rfl) ?_ (by assumption) ?_
  rotate_left
  · intro w hSw
    (try dsimp only at hSw)
    go_simp
    try with_reducible rfl
  try simp only [Act.put, List.setIfInBounds_toArray, List.set_cons_zero, List.set_cons_succ]
  refine takeD 6 (some 13) (v := ?_) rfl rfl (by kernel_rfl) (by kernel_rfl) (by kernel_rfl) (fun _ _ _ h => h) (by rfl) ?_ (by assumption) ?_
  rotate_left
  · intro w hSw
    (try dsimp only at hSw)
    go_simp
    try with_reducible rfl
  try simp only [Act.put, List.setIfInBounds_toArray, List.set_cons_zero, List.set_cons_succ]
  refine takeD 7 (some 14) (v := ?_) rfl rfl (by kernel_rfl) (by kernel_rfl) (by kernel_rfl) (fun _ _ _ h => h) (by rfl) ?_ (by assumption) ?_
  rotate_left
  · intro w hSw
    (try dsimp only at hSw)
    go_simp
    try with_reducible rfl
  try simp only [Act.put, List.setIfInBounds_toArray, List.set_cons_zero, List.set_cons_succ]
  refine wpAnyH_done (by kernel_rfl) ?_ _
  refine nameV (fun W' => Below W.heap.size W W') hHeld fun W2 hb2 => ?_
  have hfin := HBW.out.trans (hb2.mono HBW.out.size)
  clear hHeld dP dC
  go_wp2
  go_returns
  exact ⟨by first | rfl | simp, hfin⟩
set_option maxRecDepth 100000 in
set_option maxHeartbeats 4000000 in
theorem tick_any (W0 w : World) (lo hi pb : Nat) (qr qc : List (Nat × Wt)) (CA : Option Addr) (cc : Nat) (cs : List Cl) (h : St W0 w lo hi pb qr qc) (hok : ∀ x ∈ qr ++ qc, x.2.ok cs.length) (hc : RowN 3 w (.slice CA cs.length cc) cs.length (c3c cs)) (hCA : ∀ ad, CA = some ad → ad.block < lo ∨ hi ≤ ad.block) (hn : cs.length = qc.length) (h0 : Below W0.heap.size W0 w) (hl1 : qr.length ≤ 100000) (hl2 : qc.length ≤ 100000) :
    Calls Try.prog 20 #[.pointer (some ⟨pb, 0, none⟩), .slice CA cs.length cc] w fun e w' => ∃ va vb, e = .returned (.tuple #[va, vb]) ∧ RowF w.heap.size 2 w' va qr.length (al2 (qr.map fun x => (x.2.next cs).al)) ∧ RowF w.heap.size 2 w' vb qc.length (al2 (qc.map fun x => (x.2.next cs).al)) ∧ St W0 w' lo hi pb (qr.map (nx cs)) (qc.map (nx cs)) ∧ Only (bl (qr ++ qc)) w w' := by
  obtain ⟨RA, rc, SA, sc, hblk, hrr, hrc, hRA, hSA⟩ := h.blk
  have HST := Lib.hid h
  have HB := Lib.hid hblk
  have HRR := Lib.hid hrr
  have HRC := Lib.hid hrc
  have HRA := Lib.hid hRA
  have HSA := Lib.hid hSA
  have HOK := Lib.hid hok
  have HC := Lib.hid hc
  have HW0 := Lib.hid h0
  have HCN := Lib.hid (show ∀ ad, CA = some ad → ∀ b ∈ bl (qr ++ qc), ad.block ≠ b from fun ad e b hb he => by have h1 := hCA ad e; have h2 := h.within b hb; omega)
  have HBL := Lib.hid (show ∀ b ∈ bl (qr ++ qc), b < w.heap.size from fun b hb => by have h2 := h.within b hb; have := h.top; omega)
  have HLOW := Lib.hid (show ∀ b ∈ bl (qr ++ qc), W0.heap.size ≤ b from fun b hb => by have h2 := h.within b hb; have := h.base; omega)
  have HMER := Lib.hid (show ∀ b ∈ bl qr, b ∈ bl (qr ++ qc) from fun b hb => by rw [bl_app]; exact List.mem_append.2 (.inl hb))
  have HMEC := Lib.hid (show ∀ b ∈ bl qc, b ∈ bl (qr ++ qc) from fun b hb => by rw [bl_app]; exact List.mem_append.2 (.inr hb))
  have gn : decide ((cs.length : Int) ≠ (qc.length : Int)) = false := decide_eq_false (by omega)
  have gn2 : (((cs.length : Nat) : Int) == ((qc.length : Nat) : Int)) = true := by simp; omega
  have gn3 : ((cs.length : Int) != (qc.length : Int)) = false := by simp; omega
  have gn4 : (cs.length == qc.length) = true := by simp; omega
  have gn5 : (cs.length != qc.length) = false := by simp; omega
  have hmf : ∀ (fn : Fn) (first cap : Array Value) (w : World), (Instr.makeFunc fn first cap).run Try.prog w = .ok (.func fn first cap) w := fun _ _ _ _ => rfl
  clear h hblk hrr hrc hRA hSA hn hok hc hCA h0
  go_enter Try.func20, Try.ntmps20
  go_wp2_with fail
  refine wp_world (fun W => Below w.heap.size w W ∧ Blk W w.heap.size 35 #[.slice CA cs.length cc]) ⟨by go_grown, Blk.new _ _ _ _ rfl⟩ fun W ⟨hbW, hqc⟩ => ?_
  have HBW := Lib.hid hbW
  have HPC := Lib.hid hqc
  have HPB := Lib.hid (HB.out.below hbW)
  have dP : ∀ w', Below W.heap.size W w' → ∀ i, w'.cell? ⟨pb, i, none⟩ = (#[.slice RA qr.length rc, .slice SA qc.length sc] : Array Value)[i]? := fun w' hb => (HPB.out.below hb).cells
  have dC : ∀ w', Below W.heap.size W w' → ∀ i, w'.cell? ⟨w.heap.size, i, none⟩ = (#[.slice CA cs.length cc] : Array Value)[i]? := fun w' hb => (HPC.out.below hb).cells
  clear hbW hqc
  refine wp_region_held_drew (S := fun w' => Below W.heap.size W w') (by kernel_rfl) ((Below.refl _ _).drew) (fun hHeld => ?_)
  refine takeD 0 (some 7) (v := ?_) rfl rfl (by kernel_rfl) (by kernel_rfl) (by kernel_rfl) (fun _ _ _ h => h) (by rfl) ?_ (by assumption) ?_
  rotate_left
  · intro w hSw
    (try dsimp only at hSw)
    go_simp
    try with_reducible rfl
  try simp only [Act.put, List.setIfInBounds_toArray, List.set_cons_zero, List.set_cons_succ]
  refine takeD 1 (some 8) (v := ?_) rfl rfl (by kernel_rfl) (by kernel_rfl) (by kernel_rfl) (fun _ _ _ h => h) (by rfl) ?_ (by assumption) ?_
  rotate_left
  · intro w hSw
    (try dsimp only at hSw)
    go_simp
    try with_reducible rfl
  try simp only [Act.put, List.setIfInBounds_toArray, List.set_cons_zero, List.set_cons_succ]
  refine takeD 2 (some 9) (v := ?_) rfl rfl (by kernel_rfl) (by kernel_rfl) (by kernel_rfl) (fun _ _ _ h => h) (by rfl) ?_ (by assumption) ?_
  rotate_left
  · intro w hSw
    (try dsimp only at hSw)
    go_simp
    try with_reducible rfl
  try simp only [Act.put, List.setIfInBounds_toArray, List.set_cons_zero, List.set_cons_succ]
  refine takeD 3 (some 10) (v := ?_) rfl rfl (by kernel_rfl) (by kernel_rfl) (by kernel_rfl) (fun _ _ _ h => h) (by rfl) ?_ (by assumption) ?_
  rotate_left
  · intro w hSw
    (try dsimp only at hSw)
    go_simp
    try with_reducible rfl
  try simp only [Act.put, List.setIfInBounds_toArray, List.set_cons_zero, List.set_cons_succ]
  refine takeD 4 (some 11) (v := ?_) rfl rfl (by kernel_rfl) (by kernel_rfl) (by kernel_rfl) (fun _ _ _ h => h) (by rfl) ?_ (by assumption) ?_
  rotate_left
  · intro w hSw
    (try dsimp only at hSw)
    go_simp
    try with_reducible rfl
  try simp only [Act.put, List.setIfInBounds_toArray, List.set_cons_zero, List.set_cons_succ]
  refine takeD 5 (some 12) (v := ?_) rfl rfl (by kernel_rfl) (by kernel_rfl) (by kernel_rfl) (fun _ _ _ h => h) (by rfl) ?_ (by assumption) ?_
  rotate_left
  · intro w hSw
    (try dsimp only at hSw)
    go_simp
    try with_reducible rfl
  try simp only [Act.put, List.setIfInBounds_toArray, List.set_cons_zero, List.set_cons_succ]
  refine takeD 6 (some 13) (v := ?_) rfl rfl (by kernel_rfl) (by kernel_rfl) (by kernel_rfl) (fun _ _ _ h => h) (by rfl) ?_ (by assumption) ?_
  rotate_left
  · intro w hSw
    (try dsimp only at hSw)
    go_simp
    try with_reducible rfl
  try simp only [Act.put, List.setIfInBounds_toArray, List.set_cons_zero, List.set_cons_succ]
  refine takeD 7 (some 14) (v := ?_) rfl rfl (by kernel_rfl) (by kernel_rfl) (by kernel_rfl) (fun _ _ _ h => h) (by rfl) ?_ (by assumption) ?_
  rotate_left
  · intro w hSw
    (try dsimp only at hSw)
    go_simp
    try with_reducible rfl
  try simp only [Act.put, List.setIfInBounds_toArray, List.set_cons_zero, List.set_cons_succ]
  refine wpAnyH_done (by kernel_rfl) ?_ _
  refine nameV (fun W' => Below W.heap.size W W') hHeld fun W2 hb2 => ?_
  have HB2 := Lib.hid (HBW.out.trans (hb2.mono HBW.out.size))
  have HPC2 := Lib.hid (HPC.out.below hb2)
  clear hHeld dP dC HPC HPB HBW
  go_wp2_with fail
  refine (through_any _ _).mono ?_
  rintro e W3 ⟨rfl, hw3⟩
  have hb3 : Below W2.heap.size W2 W3 := by rw [← hw3]; exact (Below.refl _ _).alloc (Nat.le_refl _) _
  have HPC3 := Lib.hid (HPC2.out.below hb3)
  have HPD3 := Lib.hid (show Blk W3 W2.heap.size _ _ from by rw [← hw3]; exact Blk.new _ _ _ _ rfl)
  have HB3 := Lib.hid (HB2.out.trans (hb3.mono HB2.out.size))
  have hpd2 : w.heap.size ≤ W2.heap.size := HB2.out.size
  clear hw3 hb2 hb3 HPC2
  generalize W2.heap.size = pd at *
  have HPB3 := Lib.hid (HB.out.below HB3.out)
  have HS3 := Lib.hid (HST.out.below HB3.out)
  have dP : ∀ w', Only (bl (qr ++ qc)) W3 w' → ∀ i, w'.cell? ⟨pb, i, none⟩ = (#[.slice RA qr.length rc, .slice SA qc.length sc] : Array Value)[i]? := fun w' hb => (HPB3.out.only hb HST.out.head.2.2).cells
  clear HB2
  go_wp2_with fail
  refine wp_region_held_drew (S := fun w' => Only (bl (qr ++ qc)) W3 w') (by kernel_rfl) ((Only.refl _ _).drew 1) (fun hHeld => ?_)
  have hc1 : Only [] W3 _ := (Only.refl [] W3).drew 1
  refine takeD 0 (some 17) (v := ?_) rfl rfl (by kernel_rfl) (by kernel_rfl) (by kernel_rfl) (fun _ _ _ h => h) (by rfl) ?_ (by assumption) ?_
  rotate_left
  · intro w hSw
    (try dsimp only at hSw)
    go_simp
    try with_reducible rfl
  try simp only [Act.put, List.setIfInBounds_toArray, List.set_cons_zero, List.set_cons_succ]
  refine takeD 1 (some 18) (v := ?_) rfl rfl (by kernel_rfl) (by kernel_rfl) (by kernel_rfl) (fun _ _ _ h => h) (by rfl) ?_ (by assumption) ?_
  rotate_left
  · intro w hSw
    (try dsimp only at hSw)
    go_simp
    try with_reducible rfl
  try simp only [Act.put, List.setIfInBounds_toArray, List.set_cons_zero, List.set_cons_succ]
  refine takeD 2 (some 19) (v := ?_) rfl rfl (by kernel_rfl) (by kernel_rfl) (by kernel_rfl) (fun _ _ _ h => h) (by rfl) ?_ (by assumption) ?_
  rotate_left
  · intro w hSw
    (try dsimp only at hSw)
    go_simp
    try with_reducible rfl
  try simp only [Act.put, List.setIfInBounds_toArray, List.set_cons_zero, List.set_cons_succ]
  refine takeD 3 (some 20) (v := ?_) rfl rfl (by kernel_rfl) (by kernel_rfl) (by kernel_rfl) (fun _ _ _ h => h) (by rfl) ?_ (by assumption) ?_
  rotate_left
  · intro w hSw
    (try dsimp only at hSw)
    go_simp
    try with_reducible rfl
  try simp only [Act.put, List.setIfInBounds_toArray, List.set_cons_zero, List.set_cons_succ]
  refine takeD 4 (some 21) (v := ?_) rfl rfl (by kernel_rfl) (by kernel_rfl) (by kernel_rfl) (fun _ _ _ h => h) (by rfl) ?_ (by assumption) ?_
  rotate_left
  · intro w hSw
    (try dsimp only at hSw)
    go_simp
    try with_reducible rfl
  try simp only [Act.put, List.setIfInBounds_toArray, List.set_cons_zero, List.set_cons_succ]
  refine takeD 6 (some 23) (v := ?_) rfl rfl (by kernel_rfl) (by kernel_rfl) (by kernel_rfl) (fun _ _ _ h => h) (by rfl) ?_ (by assumption) ?_
  rotate_left
  · intro w hSw
    (try dsimp only at hSw)
    go_simp
    try with_reducible rfl
  try simp only [Act.put, List.setIfInBounds_toArray, List.set_cons_zero, List.set_cons_succ]
  refine takeD 7 (some 24) (v := ?_) rfl rfl (by kernel_rfl) (by kernel_rfl) (by kernel_rfl) (fun _ _ _ h => h) (by rfl) ?_ (by assumption) ?_
  rotate_left
  · intro w hSw
    (try dsimp only at hSw)
    go_simp
    try with_reducible rfl
  try simp only [Act.put, List.setIfInBounds_toArray, List.set_cons_zero, List.set_cons_succ]
  refine takeD 8 (some 25) (v := ?_) rfl rfl (by kernel_rfl) (by kernel_rfl) (by kernel_rfl) (fun _ _ _ h => h) (by rfl) ?_ (by assumption) ?_
  rotate_left
  · intro w hSw
    (try dsimp only at hSw)
    go_simp
    try with_reducible rfl
  try simp only [Act.put, List.setIfInBounds_toArray, List.set_cons_zero, List.set_cons_succ]
  refine takeD 9 (some 26) (v := ?_) rfl rfl (by kernel_rfl) (by kernel_rfl) (by kernel_rfl) (fun _ _ _ h => h) (by rfl) ?_ (by assumption) ?_
  rotate_left
  · intro w hSw
    (try dsimp only at hSw)
    go_simp
    try with_reducible rfl
  try simp only [Act.put, List.setIfInBounds_toArray, List.set_cons_zero, List.set_cons_succ]
  refine takeD 10 (some 27) (v := ?_) rfl rfl (by kernel_rfl) (by kernel_rfl) (by kernel_rfl) (fun _ _ _ h => h) (by rfl) ?_ (by assumption) ?_
  rotate_left
  · intro w hSw
    (try dsimp only at hSw)
    go_simp
    try with_reducible rfl
  try simp only [Act.put, List.setIfInBounds_toArray, List.set_cons_zero, List.set_cons_succ]
  refine wpAnyH_ready (rs := [5]) (by kernel_rfl) (by simp) ?_
  refine AllReadyH.cons rfl (fun K hK => ?_) AllReadyH.nil
  rw [if_pos (by rfl)]
  go_simp
  go_at_call 60
  refine (tell_any W0 _ qr RA rc pd w.heap.size CA cc cs (HS3.out.rules.only hc1 (fun b hb => (by simp))) HST.out.inj.left (fun x hx => HOK.out x (List.mem_append.2 (.inl hx))) ((HRR.out.below HB3.out).only hc1 (fun ad n' c' e => by injection e with e; exact (by simp))) (fun ad e hm => (HRA.out ad e).2.2 (HMER.out _ hm)) ((HC.out.below HB3.out).only hc1 (fun ad n' c' e => by injection e with e; exact (by simp))) (fun ad e hm => HCN.out ad e _ (HMER.out _ hm) rfl) (HPC3.out.only hc1 (by simp)) (fun hm => by have := HBL.out _ (HMER.out _ hm); omega) (HPD3.out.only hc1 (by simp)) (fun hm => by have := HBL.out _ (HMER.out _ hm); omega) (Only.below (HW0.out.trans (HB3.out.mono HW0.out.size)) (HW0.out.trans (HB3.out.mono HW0.out.size)).size hc1 (by simp)) (fun b hb => HLOW.out b (HMER.out _ hb)) (by omega)).mono ?_
  rintro e W4 ⟨va, rfl, hva, hq4, ho4⟩
  have hc2 : Only (bl qr) W3 W4 := (hc1.mono (t := bl qr) (by simp)).trans ho4
  have HVA := Lib.hid (hva.mono (show w.heap.size ≤ _ from Nat.le_trans HB3.out.size hc1.size))
  have HQ4 := Lib.hid hq4
  clear hva hq4 ho4 hc1
  have hc1 := hc2
  clear hc2
  have hS : Only (bl (qr ++ qc)) W3 _ := hc1.mono (fun x hx => HMER.out x hx)
  go_wp2_with fail
  refine hK.out _ _ ?_ (fun hHeld2 => ?_)
  · clear hK; exact hS
  clear hK K hHeld hS
  have hHeld := hHeld2
  clear hHeld2
  try simp only [Act.put, List.setIfInBounds_toArray, List.set_cons_zero, List.set_cons_succ]
  refine wpAnyH_ready (rs := [11]) (by kernel_rfl) (by simp) ?_
  refine AllReadyH.cons rfl (fun K hK => ?_) AllReadyH.nil
  rw [if_pos (by rfl)]
  go_simp
  go_at_call 60
  refine (tell_any W0 _ qc SA sc pd w.heap.size CA cc cs (HS3.out.chans.only hc1 (fun b hb => fun hm => HST.out.inj.cross b hm hb)) HST.out.inj.right (fun x hx => HOK.out x (List.mem_append.2 (.inr hx))) ((HRC.out.below HB3.out).only hc1 (fun ad n' c' e => by injection e with e; exact fun hm => (HSA.out ad e).2.2 (by rw [bl_app]; exact List.mem_append.2 (.inl hm)))) (fun ad e hm => (HSA.out ad e).2.2 (HMEC.out _ hm)) ((HC.out.below HB3.out).only hc1 (fun ad n' c' e => by injection e with e; exact fun hm => HCN.out ad e _ (HMER.out _ hm) rfl)) (fun ad e hm => HCN.out ad e _ (HMEC.out _ hm) rfl) (HPC3.out.only hc1 (fun hm => by have := HBL.out _ (HMER.out _ hm); omega)) (fun hm => by have := HBL.out _ (HMEC.out _ hm); omega) (HPD3.out.only hc1 (fun hm => by have := HBL.out _ (HMER.out _ hm); omega)) (fun hm => by have := HBL.out _ (HMEC.out _ hm); omega) (Only.below (HW0.out.trans (HB3.out.mono HW0.out.size)) (HW0.out.trans (HB3.out.mono HW0.out.size)).size hc1 (by intro b hb; exact HLOW.out b (HMER.out _ hb))) (fun b hb => HLOW.out b (HMEC.out _ hb)) (by omega)).mono ?_
  rintro e W5 ⟨vb, rfl, hvb, hq5, ho5⟩
  have HVB := Lib.hid (hvb.mono (show w.heap.size ≤ _ from Nat.le_trans HB3.out.size hc1.size))
  have HVA5 := Lib.hid (HVA.out.only ho5 (fun b hb => HBL.out b (HMEC.out b hb)))
  have HQ5 := Lib.hid hq5
  have HQ45 := Lib.hid (HQ4.out.only ho5 (fun b hb hm => by rw [bl_nx] at hb; exact HST.out.inj.cross b hb hm))
  have hS : Only (bl (qr ++ qc)) W3 _ := (hc1.mono (fun x hx => HMER.out x hx)).trans (ho5.mono (fun x hx => HMEC.out x hx))
  clear hvb hq5 ho5 hc1
  go_wp2_with fail
  refine hK.out _ _ ?_ (fun hHeld2 => ?_)
  · clear hK; exact hS
  clear hK K hHeld hS
  have hHeld := hHeld2
  clear hHeld2
  try simp only [Act.put, List.setIfInBounds_toArray, List.set_cons_zero, List.set_cons_succ]
  refine takeD 12 (some 4) (v := ?_) rfl rfl (by kernel_rfl) (by kernel_rfl) (by kernel_rfl) (fun _ _ _ h => h) (by rfl) ?_ (by assumption) ?_
  rotate_left
  · intro w hSw
    (try dsimp only at hSw)
    go_simp
    try with_reducible rfl
  try simp only [Act.put, List.setIfInBounds_toArray, List.set_cons_zero, List.set_cons_succ]
  refine takeD 13 (some 5) (v := ?_) rfl rfl (by kernel_rfl) (by kernel_rfl) (by kernel_rfl) (fun _ _ _ h => h) (by rfl) ?_ (by assumption) ?_
  rotate_left
  · intro w hSw
    (try dsimp only at hSw)
    go_simp
    try with_reducible rfl
  try simp only [Act.put, List.setIfInBounds_toArray, List.set_cons_zero, List.set_cons_succ]
  refine wpAnyH_done (by kernel_rfl) ?_ _
  refine nameV (fun W' => Only (bl (qr ++ qc)) W3 W' ∧ RowF w.heap.size 2 W' va qr.length (al2 (qr.map fun x => (x.2.next cs).al)) ∧ RowF w.heap.size 2 W' vb qc.length (al2 (qc.map fun x => (x.2.next cs).al)) ∧ AllW W0 W' (qr.map (nx cs)) ∧ AllW W0 W' (qc.map (nx cs))) ⟨hHeld, HVA5.out, HVB.out, HQ45.out, HQ5.out⟩ fun W6 ⟨h6, a6, b6, c6, d6⟩ => ?_
  have hO6 := (Only.of_below (bl (qr ++ qc)) HB3.out).trans h6
  have hS6 := HST.out.back hO6 (bl_nx cs qr) (bl_nx cs qc) (wvals_nx cs qr) (wvals_nx cs qc) c6 d6
  clear hHeld dP
  go_wp2
  go_returns
  exact ⟨va, vb, by first | rfl | simp, a6, b6, hS6, hO6⟩
end Go.Proofs.Ytcdmojimdiiepaa
