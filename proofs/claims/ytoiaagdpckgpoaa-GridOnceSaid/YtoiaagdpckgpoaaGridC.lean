/- Layer 13: contracts of rings of samples. -/
import Derived.Test.YtoiaagdpckgpoaaGridB
import Derived.StillTailTactics
namespace Go.Proofs.Ytoiaagdpckgpoaa
open Go.ChangeShapes Go.WideShapes Go.ChangeAt Go.RowKit
set_option linter.unusedVariables false
set_option linter.unusedSimpArgs false

def putC {α : Type} (from_ k : Nat) (q : List (α × Bool)) (at_ : Int) : Int :=
  if at_ < (from_ : Int) then 6 else if at_ - (from_ : Int) ≥ (k : Int) then 7 else if (q[(at_ - (from_ : Int)).toNat]?.map (·.2)).getD false then 8 else 9
def putQ {α : Type} (from_ k : Nat) (q : List (α × Bool)) (at_ : Int) (x : α) : List (α × Bool) :=
  if putC from_ k q at_ = 9 then q.set (at_ - (from_ : Int)).toNat (x, true) else q
def atQ {α : Type} (z : α) (from_ k : Nat) (q : List (α × Bool)) (at_ : Int) : α × Bool :=
  if at_ < (from_ : Int) ∨ at_ - (from_ : Int) ≥ (k : Int) then (z, false) else q.getD (at_ - (from_ : Int)).toNat (z, false)
theorem setArr (l : List Value) (i : Nat) (v : Value) : l.toArray.setIfInBounds i v = (l.set i v).toArray := by simp

structure RingP (w : World) (rb gb from_ k : Nat) (q : List ((Int × Int) × Bool)) : Prop where
  head : Blk w rb 75 #[.int .i64 from_, .slice (some ⟨gb, 0, none⟩) k k]
  rest : ∃ cs, Blk w gb 79 (sflat cs).toArray ∧ Rel from_ k cs q
  ne : rb ≠ gb
  pos : 0 < k
  small : k ≤ 1000
  top : from_ ≤ 4611686018427387904
theorem RingP.only {w w' : World} {rb gb from_ k : Nat} {q : List ((Int × Int) × Bool)} {s : List Nat} (h : RingP w rb gb from_ k q) (hs : Only s w w') (h1 : rb ∉ s) (h2 : gb ∉ s) : RingP w' rb gb from_ k q := by
  obtain ⟨cs, hb, hr⟩ := h.rest
  exact ⟨h.head.only hs h1, ⟨cs, hb.only hs h2, hr⟩, h.ne, h.pos, h.small, h.top⟩
theorem RingP.below {w w' : World} {rb gb from_ k : Nat} {q : List ((Int × Int) × Bool)} (h : RingP w rb gb from_ k q) (hs : Below w.heap.size w w') : RingP w' rb gb from_ k q :=
  h.only (Only.of_below [] hs) (by simp) (by simp)

theorem spotP_in (rb gb from_ k n : Nat) (q : List ((Int × Int) × Bool)) (w : World) (h : RingP w rb gb from_ k q) (h1 : from_ ≤ n) (h2 : n < from_ + k) :
    Calls Try.prog 33 #[.pointer (some ⟨rb, 0, none⟩), .int .i64 n] w fun e w' => e = .returned (.slice (some ⟨gb, n % k * 3, none⟩) 1 1) ∧ w.drew = w' := by
  have hx := h.head.cells
  have hkp := h.pos
  have hks := h.small
  have ht := h.top
  have hm : n % k < k := Nat.mod_lt _ hkp
  have hwr : IntKind.i64.wrap ((n : Int) - (from_ : Int)) = (n : Int) - (from_ : Int) := IntWalk.i64_in _ (by omega)
  have hmi : (n : Int) % (k : Int) = ((n % k : Nat) : Int) := rfl
  generalize n % k = i at *
  have hk0 : (k : Int) ≠ 0 := by omega
  have hmm : ((i : Nat) : Int) < (k : Int) := by omega
  clear h
  go_enter Try.func33, Try.ntmps33
  go_wp2_with fail
  go_still_tail 19, (by kernel_rfl)
  go_wp2
  go_ret
  exact ⟨rfl, rfl⟩

theorem spotP_out (rb gb from_ k : Nat) (at_ : Int) (q : List ((Int × Int) × Bool)) (w : World) (h : RingP w rb gb from_ k q) (hb : -4611686018427387904 ≤ at_ ∧ at_ ≤ 4611686018427387904) (h1 : at_ < (from_ : Int) ∨ at_ - (from_ : Int) ≥ (k : Int)) :
    Calls Try.prog 33 #[.pointer (some ⟨rb, 0, none⟩), .int .i64 at_] w fun e w' => e = .returned (.slice none 0 0) ∧ w.drew = w' := by
  have hx := h.head.cells
  have hkp := h.pos
  have hks := h.small
  have ht := h.top
  have hlt0 := h.head.lt
  clear h
  by_cases hlt : at_ < (from_ : Int)
  · have g1 : decide (at_ < (from_ : Int)) = true := decide_eq_true hlt
    go_enter Try.func33, Try.ntmps33
    have dR : ∀ w', Below w.heap.size w w' → ∀ i, w'.cell? ⟨rb, i, none⟩ = (#[.int .i64 from_, .slice (some ⟨gb, 0, none⟩) k k] : Array Value)[i]? := fun w' hb i => by rw [hb.cell (p := ⟨rb, i, none⟩) hlt0]; exact hx i
    go_wp2_with fail
    refine wp_region_held_drew (S := fun w' => Below w.heap.size w w') (by kernel_rfl) (by go_grown) (fun hHeld => ?_)
    refine takeD 0 (some 6) (v := ?_) rfl rfl (by kernel_rfl) (by kernel_rfl) (by kernel_rfl) (fun _ _ _ h => h) (by rfl) ?_ (by assumption) ?_
    rotate_left
    · intro w hSw
      (try dsimp only at hSw)
      go_simp
      try with_reducible rfl
    try simp only [Act.put, List.setIfInBounds_toArray, List.set_cons_zero, List.set_cons_succ]
    refine takeD 1 (some 7) (v := ?_) rfl rfl (by kernel_rfl) (by kernel_rfl) (by kernel_rfl) (fun _ _ _ h => h) (by rfl) ?_ (by assumption) ?_
    rotate_left
    · intro w hSw
      (try dsimp only at hSw)
      go_simp
      try with_reducible rfl
    try simp only [Act.put, List.setIfInBounds_toArray, List.set_cons_zero, List.set_cons_succ]
    refine takeD 2 (some 8) (v := ?_) rfl rfl (by kernel_rfl) (by kernel_rfl) (by kernel_rfl) (fun _ _ _ h => h) (by rfl) ?_ (by assumption) ?_
    rotate_left
    · intro w hSw
      (try dsimp only at hSw)
      go_simp
      try with_reducible rfl
    try simp only [Act.put, List.setIfInBounds_toArray, List.set_cons_zero, List.set_cons_succ]
    refine takeD 3 (some 9) (v := ?_) rfl rfl (by kernel_rfl) (by kernel_rfl) (by kernel_rfl) (fun _ _ _ h => h) (by rfl) ?_ (by assumption) ?_
    rotate_left
    · intro w hSw
      (try dsimp only at hSw)
      go_simp
      try with_reducible rfl
    try simp only [Act.put, List.setIfInBounds_toArray, List.set_cons_zero, List.set_cons_succ]
    refine takeD 4 (some 10) (v := ?_) rfl rfl (by kernel_rfl) (by kernel_rfl) (by kernel_rfl) (fun _ _ _ h => h) (by rfl) ?_ (by assumption) ?_
    rotate_left
    · intro w hSw
      (try dsimp only at hSw)
      go_simp
      try with_reducible rfl
    try simp only [Act.put, List.setIfInBounds_toArray, List.set_cons_zero, List.set_cons_succ]
    refine takeD 5 (some 11) (v := ?_) rfl rfl (by kernel_rfl) (by kernel_rfl) (by kernel_rfl) (fun _ _ _ h => h) (by rfl) ?_ (by assumption) ?_
    rotate_left
    · intro w hSw
      (try dsimp only at hSw)
      go_simp
      try with_reducible rfl
    try simp only [Act.put, List.setIfInBounds_toArray, List.set_cons_zero, List.set_cons_succ]
    refine takeD 6 (some 12) (v := ?_) rfl rfl (by kernel_rfl) (by kernel_rfl) (by kernel_rfl) (fun _ _ _ h => h) (by rfl) ?_ (by assumption) ?_
    rotate_left
    · intro w hSw
      (try dsimp only at hSw)
      go_simp
      try with_reducible rfl
    try simp only [Act.put, List.setIfInBounds_toArray, List.set_cons_zero, List.set_cons_succ]
    refine skipD 7 (some 13) rfl rfl (by kernel_rfl) (by kernel_rfl) (by kernel_rfl) (fun _ _ _ h => h) (by rfl) (by assumption) ?_
    try simp only [Act.put, List.setIfInBounds_toArray, List.set_cons_zero, List.set_cons_succ]
    refine skipD 8 (some 14) rfl rfl (by kernel_rfl) (by kernel_rfl) (by kernel_rfl) (fun _ _ _ h => h) (by rfl) (by assumption) ?_
    try simp only [Act.put, List.setIfInBounds_toArray, List.set_cons_zero, List.set_cons_succ]
    refine skipD 9 (some 15) rfl rfl (by kernel_rfl) (by kernel_rfl) (by kernel_rfl) (fun _ _ _ h => h) (by rfl) (by assumption) ?_
    try simp only [Act.put, List.setIfInBounds_toArray, List.set_cons_zero, List.set_cons_succ]
    refine skipD 10 (some 16) rfl rfl (by kernel_rfl) (by kernel_rfl) (by kernel_rfl) (fun _ _ _ h => h) (by rfl) (by assumption) ?_
    try simp only [Act.put, List.setIfInBounds_toArray, List.set_cons_zero, List.set_cons_succ]
    refine skipD 11 (some 17) rfl rfl (by kernel_rfl) (by kernel_rfl) (by kernel_rfl) (fun _ _ _ h => h) (by rfl) (by assumption) ?_
    try simp only [Act.put, List.setIfInBounds_toArray, List.set_cons_zero, List.set_cons_succ]
    refine skipD 12 (some 18) rfl rfl (by kernel_rfl) (by kernel_rfl) (by kernel_rfl) (fun _ _ _ h => h) (by rfl) (by assumption) ?_
    try simp only [Act.put, List.setIfInBounds_toArray, List.set_cons_zero, List.set_cons_succ]
    refine skipD 13 (some 19) rfl rfl (by kernel_rfl) (by kernel_rfl) (by kernel_rfl) (fun _ _ _ h => h) (by rfl) (by assumption) ?_
    try simp only [Act.put, List.setIfInBounds_toArray, List.set_cons_zero, List.set_cons_succ]
    refine skipD 14 (some 20) rfl rfl (by kernel_rfl) (by kernel_rfl) (by kernel_rfl) (fun _ _ _ h => h) (by rfl) (by assumption) ?_
    try simp only [Act.put, List.setIfInBounds_toArray, List.set_cons_zero, List.set_cons_succ]
    refine skipD 15 (some 21) rfl rfl (by kernel_rfl) (by kernel_rfl) (by kernel_rfl) (fun _ _ _ h => h) (by rfl) (by assumption) ?_
    try simp only [Act.put, List.setIfInBounds_toArray, List.set_cons_zero, List.set_cons_succ]
    refine skipD 16 (some 22) rfl rfl (by kernel_rfl) (by kernel_rfl) (by kernel_rfl) (fun _ _ _ h => h) (by rfl) (by assumption) ?_
    try simp only [Act.put, List.setIfInBounds_toArray, List.set_cons_zero, List.set_cons_succ]
    refine skipD 17 (some 23) rfl rfl (by kernel_rfl) (by kernel_rfl) (by kernel_rfl) (fun _ _ _ h => h) (by rfl) (by assumption) ?_
    try simp only [Act.put, List.setIfInBounds_toArray, List.set_cons_zero, List.set_cons_succ]
    refine skipD 18 (some 24) rfl rfl (by kernel_rfl) (by kernel_rfl) (by kernel_rfl) (fun _ _ _ h => h) (by rfl) (by assumption) ?_
    try simp only [Act.put, List.setIfInBounds_toArray, List.set_cons_zero, List.set_cons_succ]
    refine takeD 19 (some 25) (v := ?_) rfl rfl (by kernel_rfl) (by kernel_rfl) (by kernel_rfl) (fun _ _ _ h => h) (by rfl) ?_ (by assumption) ?_
    rotate_left
    · intro w hSw
      (try dsimp only at hSw)
      go_simp
      try with_reducible rfl
    try simp only [Act.put, List.setIfInBounds_toArray, List.set_cons_zero, List.set_cons_succ]
    refine wpAnyH_done (by kernel_rfl) ?_ _
    go_wp2
    go_ret
    exact ⟨rfl, rfl⟩
  · have hwr : IntKind.i64.wrap (at_ - (from_ : Int)) = at_ - (from_ : Int) := IntWalk.i64_in _ (by omega)
    have g1 : decide (at_ < (from_ : Int)) = false := decide_eq_false hlt
    have g2 : decide (at_ - (from_ : Int) ≥ (k : Int)) = true := decide_eq_true (by omega)
    go_enter Try.func33, Try.ntmps33
    go_wp2_with fail
    go_still_tail 19, (by kernel_rfl)
    go_wp2
    go_ret
    exact ⟨rfl, rfl⟩

theorem RingP.at {w : World} {rb gb from_ k : Nat} {q : List ((Int × Int) × Bool)} (h : RingP w rb gb from_ k q) {n : Nat} (h1 : from_ ≤ n) (h2 : n < from_ + k) {a : (Int × Int) × Bool} (ha : q[n - from_]? = some a) :
    w.cell? ⟨gb, n % k * 3, none⟩ = some (.int .i64 a.1.1) ∧ w.cell? ⟨gb, n % k * 3 + 1, none⟩ = some (.int .i64 a.1.2) ∧ w.cell? ⟨gb, n % k * 3 + 2, none⟩ = some (.bool a.2) ∧ (∀ i, w.frozen? ⟨gb, i, none⟩ = false) := by
  obtain ⟨cs, hb, hr⟩ := h.rest
  have hc : cs[n % k]? = some a := (hr.get h1 h2).trans ha
  have := sflat_at cs (n % k) a hc
  refine ⟨?_, ?_, ?_, hb.froz⟩
  · rw [hb.cells]; simpa using this.1
  · rw [hb.cells]; simpa using this.2.1
  · rw [hb.cells]; simpa using this.2.2
theorem RingP.drw {w : World} {rb gb from_ k : Nat} {q : List ((Int × Int) × Bool)} (h : RingP w rb gb from_ k q) (m : Nat) : RingP (w.drewN m) rb gb from_ k q := h.only ((Only.refl [] w).drew m) (by simp) (by simp)

theorem fromP_any (rb gb from_ k : Nat) (q : List ((Int × Int) × Bool)) (w : World) (h : RingP w rb gb from_ k q) :
    Calls Try.prog 26 #[.pointer (some ⟨rb, 0, none⟩)] w fun e w' => e = .returned (.int .i64 from_) ∧ w = w' := by
  have hx := h.head.cells
  clear h
  go_enter Try.func26, Try.ntmps26
  go_wp2
  go_ret
  exact ⟨rfl, rfl⟩


set_option maxHeartbeats 1000000 in
theorem atP_any (rb gb from_ k : Nat) (at_ : Int) (q : List ((Int × Int) × Bool)) (w : World) (h : RingP w rb gb from_ k q) (hb : -4611686018427387904 ≤ at_ ∧ at_ ≤ 4611686018427387904) :
    Calls Try.prog 32 #[.pointer (some ⟨rb, 0, none⟩), .int .i64 at_] w fun e w' => e = .returned (.tuple #[.agg #[.int .i64 (atQ (0, 0) from_ k q at_).1.1, .int .i64 (atQ (0, 0) from_ k q at_).1.2], .bool (atQ (0, 0) from_ k q at_).2]) ∧ Below w.heap.size w w' := by
  have H := Lib.hid h
  have H0 := Lib.hid (h.below ((Below.refl _ _).alloc (Nat.le_refl _) (.cells #[.int .i64 0, .int .i64 0] 39)))
  by_cases hout : at_ < (from_ : Int) ∨ at_ - (from_ : Int) ≥ (k : Int)
  · have e0 : atQ (0, 0) from_ k q at_ = ((0, 0), false) := if_pos hout
    rw [e0]
    clear h e0
    go_enter Try.func32, Try.ntmps32
    go_wp2_with fail
    refine (spotP_out rb gb from_ k at_ q _ H0.out hb hout).mono ?_
    rintro e w1 ⟨rfl, rfl⟩
    clear hout
    go_wp2
    refine bodyPost_ret (v := .tuple #[.agg #[.int .i64 0, .int .i64 0], .bool false]) (by simp [results, Try.results32, go_sem]) rfl ⟨rfl, by go_grown⟩
  · obtain ⟨n, hn⟩ : ∃ n : Nat, at_ = (n : Int) := ⟨at_.toNat, by omega⟩
    subst hn
    have hql := (h.rest.elim fun cs hh => hh.2.2.1)
    obtain ⟨a, ha⟩ : ∃ a, q[n - from_]? = some a := ⟨_, List.getElem?_eq_getElem (by omega)⟩
    have hat := H0.out.at (n := n) (by omega) (by omega) ha
    have hgl : gb < w.heap.size := h.rest.elim fun cs hh => hh.1.lt
    have e0 : atQ (0, 0) from_ k q (n : Int) = a := by
      rw [atQ, if_neg hout, show ((n : Int) - (from_ : Int)).toNat = n - from_ by omega, List.getD_eq_getElem?_getD, ha]
      rfl
    have h1 : from_ ≤ n := by omega
    have h2 : n < from_ + k := by omega
    rw [e0]
    clear h e0 hout ha hql
    go_enter Try.func32, Try.ntmps32
    go_wp2_with fail
    refine (spotP_in rb gb from_ k n q _ H0.out h1 h2).mono ?_
    rintro e w1 ⟨rfl, hw⟩
    obtain ⟨c1, c2, c3, _⟩ := hat
    have HB0 := Blk.new w 39 #[.int .i64 0, .int .i64 0] w.heap.size rfl
    have hB1 : Blk w1 w.heap.size 39 #[.int .i64 0, .int .i64 0] := by rw [← hw]; exact HB0
    have hx1 := hB1.cells
    have hf1 := hB1.froz
    have hl1 := hB1.lt
    have hne : w.heap.size ≠ gb := by omega
    have c1' : w1.cell? ⟨gb, n % k * 3, none⟩ = some (.int .i64 a.1.1) := by rw [← hw]; exact c1
    have c2' : w1.cell? ⟨gb, n % k * 3 + 1, none⟩ = some (.int .i64 a.1.2) := by rw [← hw]; exact c2
    have c3' : w1.cell? ⟨gb, n % k * 3 + 2, none⟩ = some (.bool a.2) := by rw [← hw]; exact c3
    have HW := Lib.hid (show Below w.heap.size w w1 by rw [← hw]; go_grown)
    clear c1 c2 c3 hw hB1 HB0
    generalize n % k * 3 = i at *
    go_wp2_with fail
    go_region
    all_goals
      go_wp2
      refine bodyPost_ret (v := .tuple #[.agg #[.int .i64 a.1.1, .int .i64 a.1.2], .bool a.2]) (by simp [results, Try.results32, go_sem, hx1]) rfl ⟨rfl, ?_⟩
      exact Bdrew ((HW.out.setCell (p := ⟨w.heap.size, 0, none⟩) (Nat.le_refl _) _).setCell (p := ⟨w.heap.size, 1, none⟩) (Nat.le_refl _) _) 1
end Go.Proofs.Ytoiaagdpckgpoaa
