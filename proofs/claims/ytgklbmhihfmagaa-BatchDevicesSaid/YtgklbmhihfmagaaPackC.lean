/- Layer 4: Right. -/
import Derived.Test.YtgklbmhihfmagaaPackB
import Derived.Test.YtgklbmhihfmagaaReg
namespace Go.Proofs.Ytgklbmhihfmagaa
open Go.ChangeShapes Go.WideShapes Go.ChangeAt Go.RowKit
set_option linter.unusedVariables false
set_option linter.unusedSimpArgs false

def numAt (p : Pk) : Nat → Int
  | 0 => p.dev
  | 1 => p.chan
  | 2 => p.boot
  | 3 => p.seq
  | _ => p.stamp
def mostAt : Nat → Int
  | 0 => 255
  | 1 => 255
  | 2 => 255
  | 3 => 65535
  | _ => 1099511627775
def okAt (p : Pk) (k : Nat) : Prop := 0 ≤ numAt p k ∧ numAt p k ≤ mostAt k
theorem headOk_at (p : Pk) : headOk p ↔ ∀ k, k < 5 → okAt p k := by
  constructor
  · rintro ⟨h0, h1, h2, h3, h4⟩ k hk
    rcases (by omega : k = 0 ∨ k = 1 ∨ k = 2 ∨ k = 3 ∨ k = 4) with rfl | rfl | rfl | rfl | rfl
    · exact h0
    · exact h1
    · exact h2
    · exact h3
    · exact h4
  · intro h
    exact ⟨h 0 (by omega), h 1 (by omega), h 2 (by omega), h 3 (by omega), h 4 (by omega)⟩
theorem ok_step {p : Pk} {k : Nat} (h : ∀ j, j < k → okAt p j) (h1 : okAt p k) : ∀ j, j < k + 1 → okAt p j := by
  intro j hj
  rcases (by omega : j < k ∨ j = k) with h2 | rfl
  · exact h j h2
  · exact h1
theorem not_right_at {p : Pk} {k : Nat} (hk : k < 5) (h : ¬ okAt p k) : decide p.right = false := decide_eq_false fun hr => h ((headOk_at p).1 hr.1 k hk)

theorem idx0 (w : World) : (Instr.index 101 (.agg #[.int .i64 0, .int .i64 1, .int .i64 1, .int .i64 1, .int .i64 2, .int .i64 1, .int .i64 3, .int .i64 2, .int .i64 5, .int .i64 5]) (.int .i64 0)).run Try.prog w = .ok (.agg #[.int .i64 0, .int .i64 1]) w := by kernel_rfl
theorem idx1 (w : World) : (Instr.index 101 (.agg #[.int .i64 0, .int .i64 1, .int .i64 1, .int .i64 1, .int .i64 2, .int .i64 1, .int .i64 3, .int .i64 2, .int .i64 5, .int .i64 5]) (.int .i64 1)).run Try.prog w = .ok (.agg #[.int .i64 1, .int .i64 1]) w := by kernel_rfl
theorem idx2 (w : World) : (Instr.index 101 (.agg #[.int .i64 0, .int .i64 1, .int .i64 1, .int .i64 1, .int .i64 2, .int .i64 1, .int .i64 3, .int .i64 2, .int .i64 5, .int .i64 5]) (.int .i64 2)).run Try.prog w = .ok (.agg #[.int .i64 2, .int .i64 1]) w := by kernel_rfl
theorem idx3 (w : World) : (Instr.index 101 (.agg #[.int .i64 0, .int .i64 1, .int .i64 1, .int .i64 1, .int .i64 2, .int .i64 1, .int .i64 3, .int .i64 2, .int .i64 5, .int .i64 5]) (.int .i64 3)).run Try.prog w = .ok (.agg #[.int .i64 3, .int .i64 2]) w := by kernel_rfl
theorem idx4 (w : World) : (Instr.index 101 (.agg #[.int .i64 0, .int .i64 1, .int .i64 1, .int .i64 1, .int .i64 2, .int .i64 1, .int .i64 3, .int .i64 2, .int .i64 5, .int .i64 5]) (.int .i64 4)).run Try.prog w = .ok (.agg #[.int .i64 5, .int .i64 5]) w := by kernel_rfl

theorem at_k (p : Pk) (k : Nat) (hk : k < 5) : ∃ pl l n : Int, (l = 1 ∨ l = 2 ∨ l = 5) ∧ numAt p k = n ∧ mostOf l = mostAt k ∧
    (∀ w, (Instr.index 101 (.agg #[.int .i64 0, .int .i64 1, .int .i64 1, .int .i64 1, .int .i64 2, .int .i64 1, .int .i64 3, .int .i64 2, .int .i64 5, .int .i64 5]) (.int .i64 k)).run Try.prog w = .ok (.agg #[.int .i64 pl, .int .i64 l]) w) ∧
    (#[.int .i64 p.dev, .int .i64 p.chan, .int .i64 p.boot, .int .i64 p.seq, .int .i64 p.stamp] : Array Value)[k]? = some (.int .i64 n) := by
  rcases (by omega : k = 0 ∨ k = 1 ∨ k = 2 ∨ k = 3 ∨ k = 4) with rfl | rfl | rfl | rfl | rfl
  · exact ⟨0, 1, p.dev, by omega, rfl, rfl, idx0, rfl⟩
  · exact ⟨1, 1, p.chan, by omega, rfl, rfl, idx1, rfl⟩
  · exact ⟨2, 1, p.boot, by omega, rfl, rfl, idx2, rfl⟩
  · exact ⟨3, 2, p.seq, by omega, rfl, rfl, idx3, rfl⟩
  · exact ⟨5, 5, p.stamp, by omega, rfl, rfl, idx4, rfl⟩

set_option maxRecDepth 100000 in
set_option maxHeartbeats 4000000 in
theorem right_any (v : Value) (p : Pk) (w : World) (h : PkV w v p) :
    Calls Try.prog 40 #[v] w fun e w' => e = .returned (.bool (decide p.right)) ∧ Below w.heap.size w w' := by
  obtain ⟨vs, rfl, hI⟩ := h
  obtain ⟨⟨A, cp, rfl, hcp, hcm, hA⟩, hwf⟩ := hI
  rw [List.length_map] at hcp hA ⊢
  have hlz : ((p.vals.length : Nat) : Int) ≤ 9223372036854775807 := by unfold maxLen at hcm; omega
  have HC : Hid (∀ (k : Nat) (x : Int), p.vals[k]? = some x → ∃ ad, A = some ad ∧ ad.block < w.heap.size ∧ w.cell? (ad.add k) = some (.int .i64 x)) := Lib.hid (by
    intro k x hx
    have hk : k < p.vals.length := (List.getElem?_eq_some_iff.1 hx).1
    rcases hA with ⟨_, h0⟩ | ⟨ad, h1, h2, h3⟩
    · omega
    · exact ⟨ad, h1, h2 (by omega), h3 k _ (by rw [List.getElem?_map, hx]; rfl)⟩)
  clear hA hwf hcm
  go_enter Try.func40, Try.ntmps40
  go_wp2_with fail
  have HP := Lib.hid (Blk.new w 31 #[.int .i64 p.dev, .int .i64 p.chan, .int .i64 p.boot, .int .i64 p.seq, .int .i64 p.stamp, .slice A p.vals.length cp] _ rfl)
  refine (headOf_any _ _ _ _ _ _ _).mono ?_
  rintro e w1 ⟨rfl, hk⟩
  have hb1 : Below w.heap.size w w1 := (show Below w.heap.size w _ by go_grown).trans (hk.mono (by simp))
  have HP1 := Lib.hid (HP.out.below hk)
  clear hk HP
  go_wp2_with fail
  have HN := Lib.hid (Blk.new w1 97 #[.int .i64 p.dev, .int .i64 p.chan, .int .i64 p.boot, .int .i64 p.seq, .int .i64 p.stamp] _ rfl)
  refine (heads_any _).mono ?_
  rintro e w2 ⟨rfl, hk⟩
  have hb2 : Below w.heap.size w w2 := (hb1.alloc hb1.size _).trans (hk.mono (by have := hb1.size; simp; omega))
  have HP2 := Lib.hid ((HP1.out.al _).below hk)
  have HN2 := Lib.hid (HN.out.below hk)
  clear hk HP1 HN
  go_wp2_with fail
  go_loopw [11] (fun i wr => ∃ k : Nat, k ≤ 5 ∧ i = .int .i64 k ∧ (∀ j, j < k → okAt p j) ∧ Below w.heap.size w wr ∧ Blk wr w1.heap.size 97 #[.int .i64 p.dev, .int .i64 p.chan, .int .i64 p.boot, .int .i64 p.seq, .int .i64 p.stamp] ∧ Blk wr w.heap.size 31 #[.int .i64 p.dev, .int .i64 p.chan, .int .i64 p.boot, .int .i64 p.seq, .int .i64 p.stamp, .slice A p.vals.length cp]) (fun i _ => 5 - (intOf i).toNat)
  case atStart => exact ⟨0, by omega, rfl, fun j hj => absurd hj (by omega), hb2, HN2.out, HP2.out⟩
  case round =>
    obtain ⟨k, hk, rfl, hok, hb, hn, hp⟩ := hrel
    have HNr := Lib.hid hn
    have HPr := Lib.hid hp
    have HO := Lib.hid hok
    clear hok
    have ln := hn.lt
    have lp := hp.lt
    by_cases h5 : k = 5
    · subst h5
      have hxP := hp.cells
      clear hp hn
      by_cases hlen : 1 ≤ p.vals.length ∧ p.vals.length ≤ 8
      · have g1 : decide (((p.vals.length : Nat) : Int) < 1) = false := decide_eq_false (by omega)
        have g2 : decide (((p.vals.length : Nat) : Int) > 8) = false := decide_eq_false (by omega)
        go_wp2_with fail
        go_loop [41] (fun i => ∃ k : Nat, k ≤ p.vals.length ∧ i = .int .i64 k ∧ valsOk (p.vals.take k)) (fun i => p.vals.length - (intOf i).toNat)
        case atStart => exact ⟨0, by omega, rfl, by simp [valsOk]⟩
        case round =>
          obtain ⟨k, hk, rfl, hv⟩ := hrel
          have HV := Lib.hid hv
          clear hv
          by_cases hlt : k < p.vals.length
          · obtain ⟨x, hx⟩ : ∃ x, p.vals[k]? = some x := ⟨_, List.getElem?_eq_getElem hlt⟩
            obtain ⟨ad, rfl, had, hcx⟩ := HC.out k x hx
            have hcx' : wr.cell? (ad.add k) = some (.int .i64 x) := by rw [hb.cell (by rw [block_add]; exact had)]; exact hcx
            have HX := Lib.hid hx
            clear hx hcx
            by_cases hr : -32768 ≤ x ∧ x ≤ 32767
            · have g3 : decide (x < -32768) = false := decide_eq_false (by omega)
              have g4 : decide (x > 32767) = false := decide_eq_false (by omega)
              go_wp2
              go_round
              case rel => exact ⟨k + 1, by omega, by go_num, by
                intro z hz
                rw [List.take_add_one, HX.out] at hz
                rcases List.mem_append.1 hz with hz | hz
                · exact HV.out z hz
                · simp at hz; omega⟩
              case measure => simp [intOf]; omega
            · have hno : decide p.right = false := decide_eq_false fun hr' => hr (hr'.2.2 x (List.mem_of_getElem? HX.out))
              by_cases h1 : x < -32768
              · have g3 : decide (x < -32768) = true := decide_eq_true h1
                go_wp2
                go_ret
                exact ⟨by first | rfl | (rw [hno]; rfl), hb⟩
              · have g3 : decide (x < -32768) = false := decide_eq_false h1
                have g4 : decide (x > 32767) = true := decide_eq_true (by omega)
                go_wp2
                go_ret
                exact ⟨by first | rfl | (rw [hno]; rfl), hb⟩
          · have he : k = p.vals.length := by omega
            subst he
            have hyes : decide p.right = true := decide_eq_true ⟨(headOk_at p).2 HO.out, hlen, by have := HV.out; rwa [List.take_length] at this⟩
            go_wp2
            go_ret
            exact ⟨by first | rfl | (rw [hyes]; rfl), hb⟩
      · have hno : decide p.right = false := decide_eq_false fun hr' => hlen hr'.2.1
        by_cases h1 : p.vals.length < 1
        · have g1 : decide (((p.vals.length : Nat) : Int) < 1) = true := decide_eq_true (by omega)
          go_wp2
          go_ret
          exact ⟨by first | rfl | (rw [hno]; rfl), hb⟩
        · have g1 : decide (((p.vals.length : Nat) : Int) < 1) = false := decide_eq_false (by omega)
          have g2 : decide (((p.vals.length : Nat) : Int) > 8) = true := decide_eq_true (by omega)
          go_wp2
          go_ret
          exact ⟨by first | rfl | (rw [hno]; rfl), hb⟩
    obtain ⟨pl, l, n, hl, hnum, hmost, hix, hcell⟩ := at_k p k (by omega)
    have hc0 : wr.cell? ⟨w1.heap.size, k, none⟩ = some (.int .i64 n) := by rw [hn.cells]; exact hcell
    have hk5 : k < 5 := by omega
    clear hn hp hcell
    have HF := Lib.hid (Blk.new wr 100 #[.int .i64 pl, .int .i64 l] _ rfl)
    go_wp2_with fail
    refine wp_world (fun W => Below wr.heap.size wr W ∧ Blk W wr.heap.size 100 #[.int .i64 pl, .int .i64 l]) ⟨by go_grown, Blk.new _ _ _ _ rfl⟩ fun W ⟨hbW, hF⟩ => ?_
    have lf := hF.lt
    have cF := hF.cells
    have cN : W.cell? ⟨w1.heap.size, k, none⟩ = some (.int .i64 n) := by rw [hbW.cell (p := ⟨w1.heap.size, k, none⟩) ln]; exact hc0
    have dN : ∀ w', Below W.heap.size W w' → w'.cell? ⟨w1.heap.size, k, none⟩ = some (.int .i64 n) := fun w' hb => by rw [hb.cell (p := ⟨w1.heap.size, k, none⟩) (by have := hbW.size; show w1.heap.size < W.heap.size; omega)]; exact cN
    have dF : ∀ w', Below W.heap.size W w' → ∀ i, w'.cell? ⟨wr.heap.size, i, none⟩ = #[.int .i64 pl, .int .i64 l][i]? := fun w' hb i => by rw [hb.cell (p := ⟨wr.heap.size, i, none⟩) lf]; exact cF i
    have hbW2 : Below w.heap.size w W := hb.trans (hbW.mono hb.size)
    have HNW := Lib.hid (HNr.out.below hbW)
    have HPW := Lib.hid (HPr.out.below hbW)
    clear cF cN hc0 hix hF
    by_cases hneg : n < 0
    · have d1 : decide (n < 0) = true := decide_eq_true hneg
      have d2 := not_right_at (p := p) (k := k) hk5 (fun h => absurd h.1 (by rw [hnum]; omega))
      refine wp_region_held_drew (S := fun w' => Below W.heap.size W w') (by kernel_rfl) (by go_grown) (fun hHeld => ?_)
      refine takeD 0 (some 15) (v := ?_) rfl rfl (by kernel_rfl) (by kernel_rfl) (by kernel_rfl) (fun _ _ _ h => h) (by rfl) ?_ (by assumption) ?_
      rotate_left
      · intro w hSw
        (try dsimp only at hSw)
        go_simp
        try with_reducible rfl
      try simp only [Act.put, List.setIfInBounds_toArray, List.set_cons_zero, List.set_cons_succ]
      refine takeD 1 (some 16) (v := ?_) rfl rfl (by kernel_rfl) (by kernel_rfl) (by kernel_rfl) (fun _ _ _ h => h) (by rfl) ?_ (by assumption) ?_
      rotate_left
      · intro w hSw
        (try dsimp only at hSw)
        go_simp
        try with_reducible rfl
      try simp only [Act.put, List.setIfInBounds_toArray, List.set_cons_zero, List.set_cons_succ]
      refine takeD 2 (some 17) (v := ?_) rfl rfl (by kernel_rfl) (by kernel_rfl) (by kernel_rfl) (fun _ _ _ h => h) (by rfl) ?_ (by assumption) ?_
      rotate_left
      · intro w hSw
        (try dsimp only at hSw)
        go_simp
        try with_reducible rfl
      try simp only [Act.put, List.setIfInBounds_toArray, List.set_cons_zero, List.set_cons_succ]
      refine takeD 3 (some 18) (v := ?_) rfl rfl (by kernel_rfl) (by kernel_rfl) (by kernel_rfl) (fun _ _ _ h => h) (by rfl) ?_ (by assumption) ?_
      rotate_left
      · intro w hSw
        (try dsimp only at hSw)
        go_simp
        try with_reducible rfl
      try simp only [Act.put, List.setIfInBounds_toArray, List.set_cons_zero, List.set_cons_succ]
      refine takeD 4 (some 19) (v := ?_) rfl rfl (by kernel_rfl) (by kernel_rfl) (by kernel_rfl) (fun _ _ _ h => h) (by rfl) ?_ (by assumption) ?_
      rotate_left
      · intro w hSw
        (try dsimp only at hSw)
        go_simp
        try with_reducible rfl
      try simp only [Act.put, List.setIfInBounds_toArray, List.set_cons_zero, List.set_cons_succ]
      refine skipD 5 (some 20) rfl rfl (by kernel_rfl) (by kernel_rfl) (by kernel_rfl) (fun _ _ _ h => h) (by rfl) (by assumption) ?_
      try simp only [Act.put, List.setIfInBounds_toArray, List.set_cons_zero, List.set_cons_succ]
      refine skipD 6 (some 21) rfl rfl (by kernel_rfl) (by kernel_rfl) (by kernel_rfl) (fun _ _ _ h => h) (by rfl) (by assumption) ?_
      try simp only [Act.put, List.setIfInBounds_toArray, List.set_cons_zero, List.set_cons_succ]
      refine skipD 7 (some 22) rfl rfl (by kernel_rfl) (by kernel_rfl) (by kernel_rfl) (fun _ _ _ h => h) (by rfl) (by assumption) ?_
      try simp only [Act.put, List.setIfInBounds_toArray, List.set_cons_zero, List.set_cons_succ]
      refine skipD 8 (some 23) rfl rfl (by kernel_rfl) (by kernel_rfl) (by kernel_rfl) (fun _ _ _ h => h) (by rfl) (by assumption) ?_
      try simp only [Act.put, List.setIfInBounds_toArray, List.set_cons_zero, List.set_cons_succ]
      refine skipD 9 (some 24) rfl rfl (by kernel_rfl) (by kernel_rfl) (by kernel_rfl) (fun _ _ _ h => h) (by rfl) (by assumption) ?_
      try simp only [Act.put, List.setIfInBounds_toArray, List.set_cons_zero, List.set_cons_succ]
      refine skipD 10 (some 25) rfl rfl (by kernel_rfl) (by kernel_rfl) (by kernel_rfl) (fun _ _ _ h => h) (by rfl) (by assumption) ?_
      try simp only [Act.put, List.setIfInBounds_toArray, List.set_cons_zero, List.set_cons_succ]
      refine takeD 11 (some 26) (v := ?_) rfl rfl (by kernel_rfl) (by kernel_rfl) (by kernel_rfl) (fun _ _ _ h => h) (by rfl) ?_ (by assumption) ?_
      rotate_left
      · intro w hSw
        (try dsimp only at hSw)
        go_simp
        try with_reducible rfl
      try simp only [Act.put, List.setIfInBounds_toArray, List.set_cons_zero, List.set_cons_succ]
      refine wpAnyH_done (by kernel_rfl) ?_ _
      go_wp2
      go_ret
      exact ⟨by first | rfl | (rw [d2]; rfl), hbW2.trans (hHeld.mono hbW2.size)⟩
    · have d1 : decide (n < 0) = false := decide_eq_false hneg
      refine wp_region_held_drew (S := fun w' => Below W.heap.size W w') (by kernel_rfl) (by go_grown) (fun hHeld => ?_)
      refine takeD 0 (some 15) (v := ?_) rfl rfl (by kernel_rfl) (by kernel_rfl) (by kernel_rfl) (fun _ _ _ h => h) (by rfl) ?_ (by assumption) ?_
      rotate_left
      · intro w hSw
        (try dsimp only at hSw)
        go_simp
        try with_reducible rfl
      try simp only [Act.put, List.setIfInBounds_toArray, List.set_cons_zero, List.set_cons_succ]
      refine takeD 1 (some 16) (v := ?_) rfl rfl (by kernel_rfl) (by kernel_rfl) (by kernel_rfl) (fun _ _ _ h => h) (by rfl) ?_ (by assumption) ?_
      rotate_left
      · intro w hSw
        (try dsimp only at hSw)
        go_simp
        try with_reducible rfl
      try simp only [Act.put, List.setIfInBounds_toArray, List.set_cons_zero, List.set_cons_succ]
      refine takeD 2 (some 17) (v := ?_) rfl rfl (by kernel_rfl) (by kernel_rfl) (by kernel_rfl) (fun _ _ _ h => h) (by rfl) ?_ (by assumption) ?_
      rotate_left
      · intro w hSw
        (try dsimp only at hSw)
        go_simp
        try with_reducible rfl
      try simp only [Act.put, List.setIfInBounds_toArray, List.set_cons_zero, List.set_cons_succ]
      refine takeD 3 (some 18) (v := ?_) rfl rfl (by kernel_rfl) (by kernel_rfl) (by kernel_rfl) (fun _ _ _ h => h) (by rfl) ?_ (by assumption) ?_
      rotate_left
      · intro w hSw
        (try dsimp only at hSw)
        go_simp
        try with_reducible rfl
      try simp only [Act.put, List.setIfInBounds_toArray, List.set_cons_zero, List.set_cons_succ]
      refine takeD 4 (some 19) (v := ?_) rfl rfl (by kernel_rfl) (by kernel_rfl) (by kernel_rfl) (fun _ _ _ h => h) (by rfl) ?_ (by assumption) ?_
      rotate_left
      · intro w hSw
        (try dsimp only at hSw)
        go_simp
        try with_reducible rfl
      try simp only [Act.put, List.setIfInBounds_toArray, List.set_cons_zero, List.set_cons_succ]
      refine takeD 5 (some 20) (v := ?_) rfl rfl (by kernel_rfl) (by kernel_rfl) (by kernel_rfl) (fun _ _ _ h => h) (by rfl) ?_ (by assumption) ?_
      rotate_left
      · intro w hSw
        (try dsimp only at hSw)
        go_simp
        try with_reducible rfl
      try simp only [Act.put, List.setIfInBounds_toArray, List.set_cons_zero, List.set_cons_succ]
      refine takeD 6 (some 21) (v := ?_) rfl rfl (by kernel_rfl) (by kernel_rfl) (by kernel_rfl) (fun _ _ _ h => h) (by rfl) ?_ (by assumption) ?_
      rotate_left
      · intro w hSw
        (try dsimp only at hSw)
        go_simp
        try with_reducible rfl
      try simp only [Act.put, List.setIfInBounds_toArray, List.set_cons_zero, List.set_cons_succ]
      refine takeD 7 (some 22) (v := ?_) rfl rfl (by kernel_rfl) (by kernel_rfl) (by kernel_rfl) (fun _ _ _ h => h) (by rfl) ?_ (by assumption) ?_
      rotate_left
      · intro w hSw
        (try dsimp only at hSw)
        go_simp
        try with_reducible rfl
      try simp only [Act.put, List.setIfInBounds_toArray, List.set_cons_zero, List.set_cons_succ]
      refine takeD 8 (some 23) (v := ?_) rfl rfl (by kernel_rfl) (by kernel_rfl) (by kernel_rfl) (fun _ _ _ h => h) (by rfl) ?_ (by assumption) ?_
      rotate_left
      · intro w hSw
        (try dsimp only at hSw)
        go_simp
        try with_reducible rfl
      try simp only [Act.put, List.setIfInBounds_toArray, List.set_cons_zero, List.set_cons_succ]
      refine wpAnyH_ready (rs := [9]) (by kernel_rfl) (by simp) ?_
      refine AllReadyH.cons rfl (fun K hK => ?_) AllReadyH.nil
      rw [if_pos (by rfl)]
      go_simp
      go_at_call 59
      refine (most_any _ _ hl _).mono ?_
      rintro e w3 ⟨rfl, rfl⟩
      go_wp2_with fail
      refine hK.out _ _ ?_ (fun hHeld2 => ?_)
      · first | exact hHeld.trans (hk.mono hHeld.size) | (clear hK; have hz := hHeld.size; go_grown)
      clear hK K hHeld
      have hHeld := hHeld2
      clear hHeld2
      try clear hk
      try simp only [Act.put, List.setIfInBounds_toArray, List.set_cons_zero, List.set_cons_succ]
      refine takeD 10 (some 25) (v := ?_) rfl rfl (by kernel_rfl) (by kernel_rfl) (by kernel_rfl) (fun _ _ _ h => h) (by rfl) ?_ (by assumption) ?_
      rotate_left
      · intro w hSw
        (try dsimp only at hSw)
        go_simp
        try with_reducible rfl
      try simp only [Act.put, List.setIfInBounds_toArray, List.set_cons_zero, List.set_cons_succ]
      refine takeD 11 (some 26) (v := ?_) rfl rfl (by kernel_rfl) (by kernel_rfl) (by kernel_rfl) (fun _ _ _ h => h) (by rfl) ?_ (by assumption) ?_
      rotate_left
      · intro w hSw
        (try dsimp only at hSw)
        go_simp
        try with_reducible rfl
      try simp only [Act.put, List.setIfInBounds_toArray, List.set_cons_zero, List.set_cons_succ]
      refine wpAnyH_done (by kernel_rfl) ?_ _
      have hb3 := hbW2.trans (hHeld.mono hbW2.size)
      by_cases hbig : n > mostOf l
      · have d2 := not_right_at (p := p) (k := k) hk5 (fun h => absurd h.2 (by rw [hnum, ← hmost]; omega))
        have d3 : decide (n > mostOf l) = true := decide_eq_true hbig
        go_wp2
        go_ret
        exact ⟨by first | rfl | (rw [d2]; rfl), hb3⟩
      · have d3 : decide (n > mostOf l) = false := decide_eq_false hbig
        go_wp2
        go_roundw
        case rel => exact ⟨k + 1, by omega, by go_num, ok_step HO.out ⟨by rw [hnum]; omega, by rw [hnum, ← hmost]; omega⟩, hb3, HNW.out.below hHeld, HPW.out.below hHeld⟩
        case measure => simp [intOf]; omega
end Go.Proofs.Ytgklbmhihfmagaa
