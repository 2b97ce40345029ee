/- Layer 10: the law of what holds, walked. -/
import Derived.Test.YtffpgocacdnfeaaSkewX
import Derived.StillTailTactics
namespace Go.Proofs.Ytffpgocacdnfeaa
open Go.ChangeShapes Go.WideShapes Go.ChangeAt Go.RowKit Go.Deep
set_option linter.unusedVariables false
set_option linter.unusedSimpArgs false

theorem addkS (a : Addr) (k : Nat) (h : 0 < k) : a.add k = ⟨a.block, a.off + k, none⟩ := by
  unfold Addr.add
  split
  · omega
  · rfl
/-- so far: the estimate holds the last sample's difference -/
def Held (b : Int) (l : List (Int × Int × Int)) (k : Nat) (on : Bool) (a lo hi : Int) : Prop :=
  (on = true → ∃ o, 0 < k ∧ l[k - 1]? = some o ∧ a = o.1 ∧ lo ≤ b + 200 + o.2.1 ∧ b + 200 + o.2.1 ≤ hi ∧ -4503599627370496 ≤ lo ∧ hi ≤ 4503599627370496)

def NearTo (c : Cf) (l : List (Int × Int × Int)) (oi : Int × Int × Int) (j : Nat) : Prop :=
  ∀ j' o, j' < j → l[j']? = some o → oi.2.1 - o.2.1 ≤ drf c.Rho (oi.1 - o.1) ∧ o.2.1 - oi.2.1 ≤ drf c.Rho (oi.1 - o.1)

theorem near_step {c : Cf} {l : List (Int × Int × Int)} {oi oj : Int × Int × Int} {j : Nat} (h : NearTo c l oi j) (hj : l[j]? = some oj) (h1 : oi.2.1 - oj.2.1 ≤ drf c.Rho (oi.1 - oj.1)) (h2 : oj.2.1 - oi.2.1 ≤ drf c.Rho (oi.1 - oj.1)) : NearTo c l oi (j + 1) := by
  intro j' o hj' ho
  rcases (by omega : j' < j ∨ j' = j) with h3 | rfl
  · exact h j' o h3 ho
  · rw [hj] at ho
    cases ho
    exact ⟨h1, h2⟩

set_option maxRecDepth 100000 in
set_option maxHeartbeats 2000000 in
theorem walk_SkewHolds (v : Value) (c : Cf) (u : Value) (l : List (Int × Int × Int)) (b : Int) (w : World) (hc : IsConf w v c) (wc : (Lit.int .i64 c.P).wf = true ∧ (Lit.int .i64 c.H).wf = true ∧ (Lit.int .i64 c.C).wf = true ∧ (Lit.int .i64 c.Mn).wf = true ∧ (Lit.int .i64 c.Mx).wf = true ∧ (Lit.int .i64 c.Rho).wf = true ∧ (Lit.int .i64 c.Bd).wf = true ∧ (Lit.int .i64 c.Win).wf = true ∧ (Lit.int .i64 c.St).wf = true)
    (wr : ∀ r ∈ c.rows, ∀ z ∈ r, (Lit.int .i64 z).wf = true) (hl : SeenRow w u l) (w2 : (Lit.int .u16 b).wf = true) :
    Calls Try.prog 3 #[v, u, .int .u16 b] w fun z w' => z = .returned (.bool true) ∧ Below w.heap.size w w' := by
  have hc0 := hc
  obtain ⟨s, r, rfl, _⟩ := hc0
  have HC := Lib.hid hc
  obtain ⟨A, cp, rfl, hcp, hcm, hA⟩ := hl
  have HL := Lib.hid hA
  have hb16 := bounds_u16 w2
  clear wr wc hc hA w2
  go_enter Try.func3, Try.ntmps3
  go_wp2_with fail
  have HB0 := Lib.hid (Blk.new w 25 #[.int .i64 c.P, .int .i64 c.H, .int .i64 c.C, .int .i64 c.Mn, .int .i64 c.Mx, .int .i64 c.Rho, .int .i64 c.Bd, .int .i64 c.Win, .int .i64 c.St, s, r] w.heap.size rfl)
  have hb0 : Below w.heap.size w (w.alloc (.cells #[.int .i64 c.P, .int .i64 c.H, .int .i64 c.C, .int .i64 c.Mn, .int .i64 c.Mx, .int .i64 c.Rho, .int .i64 c.Bd, .int .i64 c.Win, .int .i64 c.St, s, r] 25)) := by go_grown
  refine (head_any _).mono ?_
  rintro z w1 ⟨rfl, hk⟩
  have hb1 := hb0.trans (hk.mono hb0.size)
  have HB1 := Lib.hid (HB0.out.below hk)
  clear hk hb0 HB0
  have hxB := HB1.out.cells
  go_wp2_with fail
  refine (great_any _ c _ (HC.out.below hb1)).mono ?_
  rintro z w2 ⟨rfl, hk⟩
  have hb2 := hb1.trans (hk.mono hb1.size)
  have HB2 := Lib.hid (HB1.out.below hk)
  clear hk hb1 HB1 hxB
  have hxB := HB2.out.cells
  rcases hg : greatB c.rows with _ | _
  rotate_left
  · go_wp2
    go_ret
    exact ⟨by first | rfl | simp, hb2⟩
  go_wp2_with fail
  refine (rright_any _ c _ (HC.out.below hb2)).mono ?_
  rintro z w3 ⟨rfl, hk⟩
  have hb3 := hb2.trans (hk.mono hb2.size)
  have HB3 := Lib.hid (HB2.out.below hk)
  clear hk hb2 HB2 hxB
  have hxB := HB3.out.cells
  rcases hcf : confO c with _ | _
  · go_wp2
    go_ret
    exact ⟨by first | rfl | simp, hb3⟩
  have hcp' := confP hcf
  obtain ⟨p1, p2, _, _⟩ := hcp'
  by_cases g60 : 60 < l.length
  · have g1 : decide (((l.length : Nat) : Int) > 60) = true := decide_eq_true (by omega)
    go_wp2
    go_ret
    exact ⟨by first | rfl | simp, hb3⟩
  have g1 : decide (((l.length : Nat) : Int) > 60) = false := decide_eq_false (by omega)
  by_cases gM : c.Mx > 10000
  · have g2 : decide (c.Mx > 10000) = true := decide_eq_true gM
    go_wp2
    go_ret
    exact ⟨by first | rfl | simp, hb3⟩
  have g2 : decide (c.Mx > 10000) = false := decide_eq_false gM
  by_cases gP : c.P > 10000
  · have g3 : decide (c.P > 10000) = true := decide_eq_true gP
    go_wp2
    go_ret
    exact ⟨by first | rfl | simp, hb3⟩
  have g3 : decide (c.P > 10000) = false := decide_eq_false gP
  have lB := HB3.out.lt
  go_wp2_with fail
  have HE0 := Lib.hid (Blk.new w3 31 #[.bool false, .int .i64 0, .int .i64 0, .int .i64 0] _ rfl)
  have hE0 : Hid (Blk (w3.alloc (.cells #[.bool false, .int .i64 0, .int .i64 0, .int .i64 0] 31)) w.heap.size 25 #[.int .i64 c.P, .int .i64 c.H, .int .i64 c.C, .int .i64 c.Mn, .int .i64 c.Mx, .int .i64 c.Rho, .int .i64 c.Bd, .int .i64 c.Win, .int .i64 c.St, s, r]) := Lib.hid (HB3.out.al _)
  go_loopw [9] (fun i wr => ∃ (k : Nat) (on : Bool) (a lo hi : Int), k ≤ l.length ∧ i = .int .i64 k ∧ Held b l k on a lo hi ∧ Below w.heap.size w wr ∧ Blk wr w.heap.size 25 #[.int .i64 c.P, .int .i64 c.H, .int .i64 c.C, .int .i64 c.Mn, .int .i64 c.Mx, .int .i64 c.Rho, .int .i64 c.Bd, .int .i64 c.Win, .int .i64 c.St, s, r] ∧ Blk wr w3.heap.size 31 #[.bool on, .int .i64 a, .int .i64 lo, .int .i64 hi]) (fun i _ => l.length - (intOf i).toNat)
  case atStart => exact ⟨0, false, 0, 0, 0, by omega, rfl, (fun h => by cases h), hb3.alloc hb3.size _, hE0.out, HE0.out⟩
  case round =>
    clear HE0 hE0 hxB
    obtain ⟨k, on, a, lo, hi, hk, rfl, hH, hb, hB, hE⟩ := hrel
    have HH := Lib.hid hH
    have HB := Lib.hid hB
    have HE := Lib.hid hE
    clear hH hB hE
    by_cases hlt : k < l.length
    rotate_left
    · have he : k = l.length := by omega
      subst he
      go_wp2
      go_ret
      exact ⟨by first | rfl | simp, hb⟩
    obtain ⟨oi, ho⟩ : ∃ o, l[k]? = some o := ⟨_, List.getElem?_eq_getElem hlt⟩
    obtain ⟨ad, rfl, hib, hi0, hi1, hi2, be, bo, bd⟩ := HL.out k oi ho
    have HOI := Lib.hid ho
    have cEi : Hid (∀ w', Below w.heap.size w w' → w'.cell? (ad.add (k * 3)) = some (.int .u16 oi.1)) := Lib.hid fun w' hb => by
      have h2 : w'.cell? (ad.add (k * 3)) = some (.int .u16 oi.1) := by rw [hb.cell (by rw [block_add]; exact hib)]; exact hi0
      exact h2
    have cOi : Hid (∀ w', Below w.heap.size w w' → w'.cell? ⟨(ad.add (k * 3)).block, (ad.add (k * 3)).off + 1, none⟩ = some (.int .i8 oi.2.1)) := Lib.hid fun w' hb => by
      have h2 : w'.cell? (ad.add (k * 3 + 1)) = some (.int .i8 oi.2.1) := by rw [hb.cell (by rw [block_add]; exact hib)]; exact hi1
      rwa [← Go.Deep.add_add, addkS _ 1 (by decide)] at h2
    have cDi : Hid (∀ w', Below w.heap.size w w' → w'.cell? ⟨(ad.add (k * 3)).block, (ad.add (k * 3)).off + 2, none⟩ = some (.int .u8 oi.2.2)) := Lib.hid fun w' hb => by
      have h2 : w'.cell? (ad.add (k * 3 + 2)) = some (.int .u8 oi.2.2) := by rw [hb.cell (by rw [block_add]; exact hib)]; exact hi2
      rwa [← Go.Deep.add_add, addkS _ 2 (by decide)] at h2
    clear hi0 hi1 hi2 ho
    have wOi : IntKind.i64.wrap oi.2.1 = oi.2.1 := IntWalk.i64_in _ (by omega)
    have wEi : IntKind.i64.wrap oi.1 = oi.1 := IntWalk.i64_in _ (by omega)
    have wDi : IntKind.i64.wrap oi.2.2 = oi.2.2 := IntWalk.i64_in _ (by omega)
    have hki : (k : Int) < (l.length : Int) := by omega
    go_wp2_with fail
    go_loopw [10] (fun i wr => ∃ (j : Nat), j ≤ k ∧ i = .int .i64 j ∧ NearTo c l oi j ∧ Below w.heap.size w wr ∧ Blk wr w.heap.size 25 #[.int .i64 c.P, .int .i64 c.H, .int .i64 c.C, .int .i64 c.Mn, .int .i64 c.Mx, .int .i64 c.Rho, .int .i64 c.Bd, .int .i64 c.Win, .int .i64 c.St, s, r] ∧ Blk wr w3.heap.size 31 #[.bool on, .int .i64 a, .int .i64 lo, .int .i64 hi]) (fun i _ => k - (intOf i).toNat)
    case atStart => exact ⟨0, by omega, rfl, (fun j o hj => by omega), hb, HB.out, HE.out⟩
    case round =>
      clear HB HE hb
      obtain ⟨j, hj, rfl, hN, hb, hB, hE⟩ := hrel
      have HN := Lib.hid hN
      have HB := Lib.hid hB
      have HE := Lib.hid hE
      clear hN hB hE
      by_cases hjk : j < k
      · obtain ⟨oj, hoj⟩ : ∃ o, l[j]? = some o := ⟨_, List.getElem?_eq_getElem (by omega)⟩
        obtain ⟨ad2, hbe0, hjb, hj0, hj1, hj2, bje, bjo, bjd⟩ := HL.out j oj hoj
        have hbe := Option.some.inj hbe0
        rw [← hbe] at hjb hj0 hj1 hj2
        clear hbe hbe0
        have HOJ := Lib.hid hoj
        have cEj : Hid (∀ w', Below w.heap.size w w' → w'.cell? (ad.add (j * 3)) = some (.int .u16 oj.1)) := Lib.hid fun w' hb => by
          have h2 : w'.cell? (ad.add (j * 3)) = some (.int .u16 oj.1) := by rw [hb.cell (by rw [block_add]; exact hjb)]; exact hj0
          exact h2
        have cOj : Hid (∀ w', Below w.heap.size w w' → w'.cell? ⟨(ad.add (j * 3)).block, (ad.add (j * 3)).off + 1, none⟩ = some (.int .i8 oj.2.1)) := Lib.hid fun w' hb => by
          have h2 : w'.cell? (ad.add (j * 3 + 1)) = some (.int .i8 oj.2.1) := by rw [hb.cell (by rw [block_add]; exact hjb)]; exact hj1
          rwa [← Go.Deep.add_add, addkS _ 1 (by decide)] at h2
        clear hj0 hj1 hj2 hoj
        have wOj : IntKind.i64.wrap oj.2.1 = oj.2.1 := IntWalk.i64_in _ (by omega)
        have wEj : IntKind.i64.wrap oj.1 = oj.1 := IntWalk.i64_in _ (by omega)
        have hji : (j : Int) < (l.length : Int) := by omega
        obtain ⟨dv, hdv⟩ : ∃ z, z = oi.2.1 - oj.2.1 := ⟨_, rfl⟩
        have hdb : -255 ≤ dv ∧ dv ≤ 255 := by omega
        have hsub : IntKind.i64.wrap (oi.2.1 - oj.2.1) = dv := by rw [hdv]; exact IntWalk.i64_in _ (by omega)
        have HDV := Lib.hid hdv
        have e1 := cOi.out _ hb
        have e2 := cOj.out _ hb
        clear hdv
        go_wp2_with fail
        go_still_tail 13, (by kernel_rfl)
        clear e1 e2 hsub
        obtain ⟨D, hD⟩ : ∃ D, D = drf c.Rho (oi.1 - oj.1) := ⟨_, rfl⟩
        have hD0 : 0 ≤ D := by rw [hD]; exact drf_nonneg _ _ (by omega)
        have HD := Lib.hid hD
        clear hD
        by_cases hneg : dv < 0
        · have gneg : decide (dv < 0) = true := decide_eq_true hneg
          have hng : IntKind.i64.wrap (-dv) = -dv := IntWalk.i64_in _ (by omega)
          go_wp2_with fail
          refine wp_world (fun W => Below w.heap.size w W ∧ Blk W w.heap.size 25 #[.int .i64 c.P, .int .i64 c.H, .int .i64 c.C, .int .i64 c.Mn, .int .i64 c.Mx, .int .i64 c.Rho, .int .i64 c.Bd, .int .i64 c.Win, .int .i64 c.St, s, r] ∧ Blk W w3.heap.size 31 #[.bool on, .int .i64 a, .int .i64 lo, .int .i64 hi]) ⟨hb.drew, HB.out.drw, HE.out.drw⟩ fun W ⟨hbW, hBW, hEW⟩ => ?_
          have lBW := hBW.lt
          have HBW := Lib.hid hBW
          have HEW := Lib.hid hEW
          have dB : ∀ w', Below W.heap.size W w' → ∀ i, w'.cell? ⟨w.heap.size, i, none⟩ = (#[.int .i64 c.P, .int .i64 c.H, .int .i64 c.C, .int .i64 c.Mn, .int .i64 c.Mx, .int .i64 c.Rho, .int .i64 c.Bd, .int .i64 c.Win, .int .i64 c.St, s, r] : Array Value)[i]? := fun w' hh i => by rw [hh.cell (p := ⟨w.heap.size, i, none⟩) lBW]; exact HBW.out.cells i
          have dEi : ∀ w', Below W.heap.size W w' → w'.cell? (ad.add (k * 3)) = some (.int .u16 oi.1) := fun w' hh => cEi.out w' (hbW.trans (hh.mono hbW.size))
          have dEj : ∀ w', Below W.heap.size W w' → w'.cell? (ad.add (j * 3)) = some (.int .u16 oj.1) := fun w' hh => cEj.out w' (hbW.trans (hh.mono hbW.size))
          have hsE : IntKind.i64.wrap (oi.1 - oj.1) = oi.1 - oj.1 := IntWalk.i64_in _ (by omega)
          clear hBW hEW
          by_cases hgt : -dv > D
          · have gq : decide (-dv > D) = true := decide_eq_true hgt
            refine wp_region_held_drew (S := fun w' => Below W.heap.size W w') (by kernel_rfl) (by go_grown) (fun hHeld => ?_)
            refine takeD 0 (some 75) (v := ?_) rfl rfl (by kernel_rfl) (by kernel_rfl) (by kernel_rfl) (fun _ _ _ h => h) (by rfl) ?_ (by assumption) ?_
            rotate_left
            · intro w hSw
              (try dsimp only at hSw)
              go_simp
              try with_reducible rfl
            try simp only [Act.put, List.setIfInBounds_toArray, List.set_cons_zero, List.set_cons_succ]
            refine takeD 1 (some 76) (v := ?_) rfl rfl (by kernel_rfl) (by kernel_rfl) (by kernel_rfl) (fun _ _ _ h => h) (by rfl) ?_ (by assumption) ?_
            rotate_left
            · intro w hSw
              (try dsimp only at hSw)
              go_simp
              try with_reducible rfl
            try simp only [Act.put, List.setIfInBounds_toArray, List.set_cons_zero, List.set_cons_succ]
            refine takeD 2 (some 77) (v := ?_) rfl rfl (by kernel_rfl) (by kernel_rfl) (by kernel_rfl) (fun _ _ _ h => h) (by rfl) ?_ (by assumption) ?_
            rotate_left
            · intro w hSw
              (try dsimp only at hSw)
              go_simp
              try with_reducible rfl
            try simp only [Act.put, List.setIfInBounds_toArray, List.set_cons_zero, List.set_cons_succ]
            refine takeD 3 (some 78) (v := ?_) rfl rfl (by kernel_rfl) (by kernel_rfl) (by kernel_rfl) (fun _ _ _ h => h) (by rfl) ?_ (by assumption) ?_
            rotate_left
            · intro w hSw
              (try dsimp only at hSw)
              go_simp
              try with_reducible rfl
            try simp only [Act.put, List.setIfInBounds_toArray, List.set_cons_zero, List.set_cons_succ]
            refine takeD 4 (some 79) (v := ?_) rfl rfl (by kernel_rfl) (by kernel_rfl) (by kernel_rfl) (fun _ _ _ h => h) (by rfl) ?_ (by assumption) ?_
            rotate_left
            · intro w hSw
              (try dsimp only at hSw)
              go_simp
              try with_reducible rfl
            try simp only [Act.put, List.setIfInBounds_toArray, List.set_cons_zero, List.set_cons_succ]
            refine takeD 5 (some 80) (v := ?_) rfl rfl (by kernel_rfl) (by kernel_rfl) (by kernel_rfl) (fun _ _ _ h => h) (by rfl) ?_ (by assumption) ?_
            rotate_left
            · intro w hSw
              (try dsimp only at hSw)
              go_simp
              try with_reducible rfl
            try simp only [Act.put, List.setIfInBounds_toArray, List.set_cons_zero, List.set_cons_succ]
            refine takeD 6 (some 81) (v := ?_) rfl rfl (by kernel_rfl) (by kernel_rfl) (by kernel_rfl) (fun _ _ _ h => h) (by rfl) ?_ (by assumption) ?_
            rotate_left
            · intro w hSw
              (try dsimp only at hSw)
              go_simp
              try with_reducible rfl
            try simp only [Act.put, List.setIfInBounds_toArray, List.set_cons_zero, List.set_cons_succ]
            refine takeD 7 (some 82) (v := ?_) rfl rfl (by kernel_rfl) (by kernel_rfl) (by kernel_rfl) (fun _ _ _ h => h) (by rfl) ?_ (by assumption) ?_
            rotate_left
            · intro w hSw
              (try dsimp only at hSw)
              go_simp
              try with_reducible rfl
            try simp only [Act.put, List.setIfInBounds_toArray, List.set_cons_zero, List.set_cons_succ]
            refine takeD 8 (some 83) (v := ?_) rfl rfl (by kernel_rfl) (by kernel_rfl) (by kernel_rfl) (fun _ _ _ h => h) (by rfl) ?_ (by assumption) ?_
            rotate_left
            · intro w hSw
              (try dsimp only at hSw)
              go_simp
              try with_reducible rfl
            try simp only [Act.put, List.setIfInBounds_toArray, List.set_cons_zero, List.set_cons_succ]
            refine takeD 9 (some 84) (v := ?_) rfl rfl (by kernel_rfl) (by kernel_rfl) (by kernel_rfl) (fun _ _ _ h => h) (by rfl) ?_ (by assumption) ?_
            rotate_left
            · intro w hSw
              (try dsimp only at hSw)
              go_simp
              try with_reducible rfl
            try simp only [Act.put, List.setIfInBounds_toArray, List.set_cons_zero, List.set_cons_succ]
            refine takeD 10 (some 85) (v := ?_) rfl rfl (by kernel_rfl) (by kernel_rfl) (by kernel_rfl) (fun _ _ _ h => h) (by rfl) ?_ (by assumption) ?_
            rotate_left
            · intro w hSw
              (try dsimp only at hSw)
              go_simp
              try with_reducible rfl
            try simp only [Act.put, List.setIfInBounds_toArray, List.set_cons_zero, List.set_cons_succ]
            refine takeD 11 (some 86) (v := ?_) rfl rfl (by kernel_rfl) (by kernel_rfl) (by kernel_rfl) (fun _ _ _ h => h) (by rfl) ?_ (by assumption) ?_
            rotate_left
            · intro w hSw
              (try dsimp only at hSw)
              go_simp
              try with_reducible rfl
            try simp only [Act.put, List.setIfInBounds_toArray, List.set_cons_zero, List.set_cons_succ]
            refine takeD 12 (some 87) (v := ?_) rfl rfl (by kernel_rfl) (by kernel_rfl) (by kernel_rfl) (fun _ _ _ h => h) (by rfl) ?_ (by assumption) ?_
            rotate_left
            · intro w hSw
              (try dsimp only at hSw)
              go_simp
              try with_reducible rfl
            try simp only [Act.put, List.setIfInBounds_toArray, List.set_cons_zero, List.set_cons_succ]
            refine takeD 13 (some 88) (v := ?_) rfl rfl (by kernel_rfl) (by kernel_rfl) (by kernel_rfl) (fun _ _ _ h => h) (by rfl) ?_ (by assumption) ?_
            rotate_left
            · intro w hSw
              (try dsimp only at hSw)
              go_simp
              try with_reducible rfl
            try simp only [Act.put, List.setIfInBounds_toArray, List.set_cons_zero, List.set_cons_succ]
            refine takeD 14 (some 89) (v := ?_) rfl rfl (by kernel_rfl) (by kernel_rfl) (by kernel_rfl) (fun _ _ _ h => h) (by rfl) ?_ (by assumption) ?_
            rotate_left
            · intro w hSw
              (try dsimp only at hSw)
              go_simp
              try with_reducible rfl
            try simp only [Act.put, List.setIfInBounds_toArray, List.set_cons_zero, List.set_cons_succ]
            refine takeD 15 (some 90) (v := ?_) rfl rfl (by kernel_rfl) (by kernel_rfl) (by kernel_rfl) (fun _ _ _ h => h) (by rfl) ?_ (by assumption) ?_
            rotate_left
            · intro w hSw
              (try dsimp only at hSw)
              go_simp
              try with_reducible rfl
            try simp only [Act.put, List.setIfInBounds_toArray, List.set_cons_zero, List.set_cons_succ]
            refine wpAnyH_ready (rs := [16]) (by kernel_rfl) (by simp) ?_
            refine AllReadyH.cons rfl (fun K hK => ?_) AllReadyH.nil
            rw [if_pos (by rfl)]
            go_simp
            go_at_call 11
            refine (rdrift_any c.Rho (oi.1 - oj.1) _ (by omega) (by omega) (by omega) (by omega)).mono ?_
            rintro e w1 ⟨rfl, rfl⟩
            rw [← HD.out]
            go_wp2_with fail
            refine hK.out _ _ ?_ (fun hHeld2 => ?_)
            · first | exact hHeld.trans (hk.mono hHeld.size) | (clear hK; have hz := hHeld.size; go_grown)
            clear hK K hHeld
            have hHeld := hHeld2
            clear hHeld2
            try clear hk
            try simp only [Act.put, List.setIfInBounds_toArray, List.set_cons_zero, List.set_cons_succ]
            refine takeD 17 (some 92) (v := ?_) rfl rfl (by kernel_rfl) (by kernel_rfl) (by kernel_rfl) (fun _ _ _ h => h) (by rfl) ?_ (by assumption) ?_
            rotate_left
            · intro w hSw
              (try dsimp only at hSw)
              go_simp
              try with_reducible rfl
            try simp only [Act.put, List.setIfInBounds_toArray, List.set_cons_zero, List.set_cons_succ]
            refine wpAnyH_done (by kernel_rfl) ?_ _
            go_wp2
            go_ret
            exact ⟨by first | rfl | simp, hbW.trans (hHeld.mono hbW.size)⟩
          · have gq : decide (-dv > D) = false := decide_eq_false hgt
            refine wp_region_held_drew (S := fun w' => Below W.heap.size W w') (by kernel_rfl) (by go_grown) (fun hHeld => ?_)
            refine takeD 0 (some 75) (v := ?_) rfl rfl (by kernel_rfl) (by kernel_rfl) (by kernel_rfl) (fun _ _ _ h => h) (by rfl) ?_ (by assumption) ?_
            rotate_left
            · intro w hSw
              (try dsimp only at hSw)
              go_simp
              try with_reducible rfl
            try simp only [Act.put, List.setIfInBounds_toArray, List.set_cons_zero, List.set_cons_succ]
            refine takeD 1 (some 76) (v := ?_) rfl rfl (by kernel_rfl) (by kernel_rfl) (by kernel_rfl) (fun _ _ _ h => h) (by rfl) ?_ (by assumption) ?_
            rotate_left
            · intro w hSw
              (try dsimp only at hSw)
              go_simp
              try with_reducible rfl
            try simp only [Act.put, List.setIfInBounds_toArray, List.set_cons_zero, List.set_cons_succ]
            refine takeD 2 (some 77) (v := ?_) rfl rfl (by kernel_rfl) (by kernel_rfl) (by kernel_rfl) (fun _ _ _ h => h) (by rfl) ?_ (by assumption) ?_
            rotate_left
            · intro w hSw
              (try dsimp only at hSw)
              go_simp
              try with_reducible rfl
            try simp only [Act.put, List.setIfInBounds_toArray, List.set_cons_zero, List.set_cons_succ]
            refine takeD 3 (some 78) (v := ?_) rfl rfl (by kernel_rfl) (by kernel_rfl) (by kernel_rfl) (fun _ _ _ h => h) (by rfl) ?_ (by assumption) ?_
            rotate_left
            · intro w hSw
              (try dsimp only at hSw)
              go_simp
              try with_reducible rfl
            try simp only [Act.put, List.setIfInBounds_toArray, List.set_cons_zero, List.set_cons_succ]
            refine takeD 4 (some 79) (v := ?_) rfl rfl (by kernel_rfl) (by kernel_rfl) (by kernel_rfl) (fun _ _ _ h => h) (by rfl) ?_ (by assumption) ?_
            rotate_left
            · intro w hSw
              (try dsimp only at hSw)
              go_simp
              try with_reducible rfl
            try simp only [Act.put, List.setIfInBounds_toArray, List.set_cons_zero, List.set_cons_succ]
            refine takeD 5 (some 80) (v := ?_) rfl rfl (by kernel_rfl) (by kernel_rfl) (by kernel_rfl) (fun _ _ _ h => h) (by rfl) ?_ (by assumption) ?_
            rotate_left
            · intro w hSw
              (try dsimp only at hSw)
              go_simp
              try with_reducible rfl
            try simp only [Act.put, List.setIfInBounds_toArray, List.set_cons_zero, List.set_cons_succ]
            refine takeD 6 (some 81) (v := ?_) rfl rfl (by kernel_rfl) (by kernel_rfl) (by kernel_rfl) (fun _ _ _ h => h) (by rfl) ?_ (by assumption) ?_
            rotate_left
            · intro w hSw
              (try dsimp only at hSw)
              go_simp
              try with_reducible rfl
            try simp only [Act.put, List.setIfInBounds_toArray, List.set_cons_zero, List.set_cons_succ]
            refine takeD 7 (some 82) (v := ?_) rfl rfl (by kernel_rfl) (by kernel_rfl) (by kernel_rfl) (fun _ _ _ h => h) (by rfl) ?_ (by assumption) ?_
            rotate_left
            · intro w hSw
              (try dsimp only at hSw)
              go_simp
              try with_reducible rfl
            try simp only [Act.put, List.setIfInBounds_toArray, List.set_cons_zero, List.set_cons_succ]
            refine takeD 8 (some 83) (v := ?_) rfl rfl (by kernel_rfl) (by kernel_rfl) (by kernel_rfl) (fun _ _ _ h => h) (by rfl) ?_ (by assumption) ?_
            rotate_left
            · intro w hSw
              (try dsimp only at hSw)
              go_simp
              try with_reducible rfl
            try simp only [Act.put, List.setIfInBounds_toArray, List.set_cons_zero, List.set_cons_succ]
            refine takeD 9 (some 84) (v := ?_) rfl rfl (by kernel_rfl) (by kernel_rfl) (by kernel_rfl) (fun _ _ _ h => h) (by rfl) ?_ (by assumption) ?_
            rotate_left
            · intro w hSw
              (try dsimp only at hSw)
              go_simp
              try with_reducible rfl
            try simp only [Act.put, List.setIfInBounds_toArray, List.set_cons_zero, List.set_cons_succ]
            refine takeD 10 (some 85) (v := ?_) rfl rfl (by kernel_rfl) (by kernel_rfl) (by kernel_rfl) (fun _ _ _ h => h) (by rfl) ?_ (by assumption) ?_
            rotate_left
            · intro w hSw
              (try dsimp only at hSw)
              go_simp
              try with_reducible rfl
            try simp only [Act.put, List.setIfInBounds_toArray, List.set_cons_zero, List.set_cons_succ]
            refine takeD 11 (some 86) (v := ?_) rfl rfl (by kernel_rfl) (by kernel_rfl) (by kernel_rfl) (fun _ _ _ h => h) (by rfl) ?_ (by assumption) ?_
            rotate_left
            · intro w hSw
              (try dsimp only at hSw)
              go_simp
              try with_reducible rfl
            try simp only [Act.put, List.setIfInBounds_toArray, List.set_cons_zero, List.set_cons_succ]
            refine takeD 12 (some 87) (v := ?_) rfl rfl (by kernel_rfl) (by kernel_rfl) (by kernel_rfl) (fun _ _ _ h => h) (by rfl) ?_ (by assumption) ?_
            rotate_left
            · intro w hSw
              (try dsimp only at hSw)
              go_simp
              try with_reducible rfl
            try simp only [Act.put, List.setIfInBounds_toArray, List.set_cons_zero, List.set_cons_succ]
            refine takeD 13 (some 88) (v := ?_) rfl rfl (by kernel_rfl) (by kernel_rfl) (by kernel_rfl) (fun _ _ _ h => h) (by rfl) ?_ (by assumption) ?_
            rotate_left
            · intro w hSw
              (try dsimp only at hSw)
              go_simp
              try with_reducible rfl
            try simp only [Act.put, List.setIfInBounds_toArray, List.set_cons_zero, List.set_cons_succ]
            refine takeD 14 (some 89) (v := ?_) rfl rfl (by kernel_rfl) (by kernel_rfl) (by kernel_rfl) (fun _ _ _ h => h) (by rfl) ?_ (by assumption) ?_
            rotate_left
            · intro w hSw
              (try dsimp only at hSw)
              go_simp
              try with_reducible rfl
            try simp only [Act.put, List.setIfInBounds_toArray, List.set_cons_zero, List.set_cons_succ]
            refine takeD 15 (some 90) (v := ?_) rfl rfl (by kernel_rfl) (by kernel_rfl) (by kernel_rfl) (fun _ _ _ h => h) (by rfl) ?_ (by assumption) ?_
            rotate_left
            · intro w hSw
              (try dsimp only at hSw)
              go_simp
              try with_reducible rfl
            try simp only [Act.put, List.setIfInBounds_toArray, List.set_cons_zero, List.set_cons_succ]
            refine wpAnyH_ready (rs := [16]) (by kernel_rfl) (by simp) ?_
            refine AllReadyH.cons rfl (fun K hK => ?_) AllReadyH.nil
            rw [if_pos (by rfl)]
            go_simp
            go_at_call 11
            refine (rdrift_any c.Rho (oi.1 - oj.1) _ (by omega) (by omega) (by omega) (by omega)).mono ?_
            rintro e w1 ⟨rfl, rfl⟩
            rw [← HD.out]
            go_wp2_with fail
            refine hK.out _ _ ?_ (fun hHeld2 => ?_)
            · first | exact hHeld.trans (hk.mono hHeld.size) | (clear hK; have hz := hHeld.size; go_grown)
            clear hK K hHeld
            have hHeld := hHeld2
            clear hHeld2
            try clear hk
            try simp only [Act.put, List.setIfInBounds_toArray, List.set_cons_zero, List.set_cons_succ]
            refine takeD 17 (some 92) (v := ?_) rfl rfl (by kernel_rfl) (by kernel_rfl) (by kernel_rfl) (fun _ _ _ h => h) (by rfl) ?_ (by assumption) ?_
            rotate_left
            · intro w hSw
              (try dsimp only at hSw)
              go_simp
              try with_reducible rfl
            try simp only [Act.put, List.setIfInBounds_toArray, List.set_cons_zero, List.set_cons_succ]
            refine wpAnyH_done (by kernel_rfl) ?_ _
            have hbN := hbW.trans (hHeld.mono hbW.size)
            go_wp2
            go_roundw
            case rel => exact ⟨j + 1, by omega, by go_num, near_step HN.out HOJ.out (by have := HDV.out; have := HD.out; omega) (by have := HDV.out; have := HD.out; omega), hbN, HBW.out.below hHeld, HEW.out.below hHeld⟩
            case measure => simp [intOf]; omega
        · have gneg : decide (dv < 0) = false := decide_eq_false hneg
          go_wp2_with fail
          refine wp_world (fun W => Below w.heap.size w W ∧ Blk W w.heap.size 25 #[.int .i64 c.P, .int .i64 c.H, .int .i64 c.C, .int .i64 c.Mn, .int .i64 c.Mx, .int .i64 c.Rho, .int .i64 c.Bd, .int .i64 c.Win, .int .i64 c.St, s, r] ∧ Blk W w3.heap.size 31 #[.bool on, .int .i64 a, .int .i64 lo, .int .i64 hi]) ⟨hb.drew, HB.out.drw, HE.out.drw⟩ fun W ⟨hbW, hBW, hEW⟩ => ?_
          have lBW := hBW.lt
          have HBW := Lib.hid hBW
          have HEW := Lib.hid hEW
          have dB : ∀ w', Below W.heap.size W w' → ∀ i, w'.cell? ⟨w.heap.size, i, none⟩ = (#[.int .i64 c.P, .int .i64 c.H, .int .i64 c.C, .int .i64 c.Mn, .int .i64 c.Mx, .int .i64 c.Rho, .int .i64 c.Bd, .int .i64 c.Win, .int .i64 c.St, s, r] : Array Value)[i]? := fun w' hh i => by rw [hh.cell (p := ⟨w.heap.size, i, none⟩) lBW]; exact HBW.out.cells i
          have dEi : ∀ w', Below W.heap.size W w' → w'.cell? (ad.add (k * 3)) = some (.int .u16 oi.1) := fun w' hh => cEi.out w' (hbW.trans (hh.mono hbW.size))
          have dEj : ∀ w', Below W.heap.size W w' → w'.cell? (ad.add (j * 3)) = some (.int .u16 oj.1) := fun w' hh => cEj.out w' (hbW.trans (hh.mono hbW.size))
          have hsE : IntKind.i64.wrap (oi.1 - oj.1) = oi.1 - oj.1 := IntWalk.i64_in _ (by omega)
          clear hBW hEW
          by_cases hgt : dv > D
          · have gq : decide (dv > D) = true := decide_eq_true hgt
            refine wp_region_held_drew (S := fun w' => Below W.heap.size W w') (by kernel_rfl) (by go_grown) (fun hHeld => ?_)
            refine takeD 0 (some 75) (v := ?_) rfl rfl (by kernel_rfl) (by kernel_rfl) (by kernel_rfl) (fun _ _ _ h => h) (by rfl) ?_ (by assumption) ?_
            rotate_left
            · intro w hSw
              (try dsimp only at hSw)
              go_simp
              try with_reducible rfl
            try simp only [Act.put, List.setIfInBounds_toArray, List.set_cons_zero, List.set_cons_succ]
            refine takeD 1 (some 76) (v := ?_) rfl rfl (by kernel_rfl) (by kernel_rfl) (by kernel_rfl) (fun _ _ _ h => h) (by rfl) ?_ (by assumption) ?_
            rotate_left
            · intro w hSw
              (try dsimp only at hSw)
              go_simp
              try with_reducible rfl
            try simp only [Act.put, List.setIfInBounds_toArray, List.set_cons_zero, List.set_cons_succ]
            refine takeD 2 (some 77) (v := ?_) rfl rfl (by kernel_rfl) (by kernel_rfl) (by kernel_rfl) (fun _ _ _ h => h) (by rfl) ?_ (by assumption) ?_
            rotate_left
            · intro w hSw
              (try dsimp only at hSw)
              go_simp
              try with_reducible rfl
            try simp only [Act.put, List.setIfInBounds_toArray, List.set_cons_zero, List.set_cons_succ]
            refine takeD 3 (some 78) (v := ?_) rfl rfl (by kernel_rfl) (by kernel_rfl) (by kernel_rfl) (fun _ _ _ h => h) (by rfl) ?_ (by assumption) ?_
            rotate_left
            · intro w hSw
              (try dsimp only at hSw)
              go_simp
              try with_reducible rfl
            try simp only [Act.put, List.setIfInBounds_toArray, List.set_cons_zero, List.set_cons_succ]
            refine takeD 4 (some 79) (v := ?_) rfl rfl (by kernel_rfl) (by kernel_rfl) (by kernel_rfl) (fun _ _ _ h => h) (by rfl) ?_ (by assumption) ?_
            rotate_left
            · intro w hSw
              (try dsimp only at hSw)
              go_simp
              try with_reducible rfl
            try simp only [Act.put, List.setIfInBounds_toArray, List.set_cons_zero, List.set_cons_succ]
            refine takeD 5 (some 80) (v := ?_) rfl rfl (by kernel_rfl) (by kernel_rfl) (by kernel_rfl) (fun _ _ _ h => h) (by rfl) ?_ (by assumption) ?_
            rotate_left
            · intro w hSw
              (try dsimp only at hSw)
              go_simp
              try with_reducible rfl
            try simp only [Act.put, List.setIfInBounds_toArray, List.set_cons_zero, List.set_cons_succ]
            refine takeD 6 (some 81) (v := ?_) rfl rfl (by kernel_rfl) (by kernel_rfl) (by kernel_rfl) (fun _ _ _ h => h) (by rfl) ?_ (by assumption) ?_
            rotate_left
            · intro w hSw
              (try dsimp only at hSw)
              go_simp
              try with_reducible rfl
            try simp only [Act.put, List.setIfInBounds_toArray, List.set_cons_zero, List.set_cons_succ]
            refine takeD 7 (some 82) (v := ?_) rfl rfl (by kernel_rfl) (by kernel_rfl) (by kernel_rfl) (fun _ _ _ h => h) (by rfl) ?_ (by assumption) ?_
            rotate_left
            · intro w hSw
              (try dsimp only at hSw)
              go_simp
              try with_reducible rfl
            try simp only [Act.put, List.setIfInBounds_toArray, List.set_cons_zero, List.set_cons_succ]
            refine takeD 8 (some 83) (v := ?_) rfl rfl (by kernel_rfl) (by kernel_rfl) (by kernel_rfl) (fun _ _ _ h => h) (by rfl) ?_ (by assumption) ?_
            rotate_left
            · intro w hSw
              (try dsimp only at hSw)
              go_simp
              try with_reducible rfl
            try simp only [Act.put, List.setIfInBounds_toArray, List.set_cons_zero, List.set_cons_succ]
            refine takeD 9 (some 84) (v := ?_) rfl rfl (by kernel_rfl) (by kernel_rfl) (by kernel_rfl) (fun _ _ _ h => h) (by rfl) ?_ (by assumption) ?_
            rotate_left
            · intro w hSw
              (try dsimp only at hSw)
              go_simp
              try with_reducible rfl
            try simp only [Act.put, List.setIfInBounds_toArray, List.set_cons_zero, List.set_cons_succ]
            refine takeD 10 (some 85) (v := ?_) rfl rfl (by kernel_rfl) (by kernel_rfl) (by kernel_rfl) (fun _ _ _ h => h) (by rfl) ?_ (by assumption) ?_
            rotate_left
            · intro w hSw
              (try dsimp only at hSw)
              go_simp
              try with_reducible rfl
            try simp only [Act.put, List.setIfInBounds_toArray, List.set_cons_zero, List.set_cons_succ]
            refine takeD 11 (some 86) (v := ?_) rfl rfl (by kernel_rfl) (by kernel_rfl) (by kernel_rfl) (fun _ _ _ h => h) (by rfl) ?_ (by assumption) ?_
            rotate_left
            · intro w hSw
              (try dsimp only at hSw)
              go_simp
              try with_reducible rfl
            try simp only [Act.put, List.setIfInBounds_toArray, List.set_cons_zero, List.set_cons_succ]
            refine takeD 12 (some 87) (v := ?_) rfl rfl (by kernel_rfl) (by kernel_rfl) (by kernel_rfl) (fun _ _ _ h => h) (by rfl) ?_ (by assumption) ?_
            rotate_left
            · intro w hSw
              (try dsimp only at hSw)
              go_simp
              try with_reducible rfl
            try simp only [Act.put, List.setIfInBounds_toArray, List.set_cons_zero, List.set_cons_succ]
            refine takeD 13 (some 88) (v := ?_) rfl rfl (by kernel_rfl) (by kernel_rfl) (by kernel_rfl) (fun _ _ _ h => h) (by rfl) ?_ (by assumption) ?_
            rotate_left
            · intro w hSw
              (try dsimp only at hSw)
              go_simp
              try with_reducible rfl
            try simp only [Act.put, List.setIfInBounds_toArray, List.set_cons_zero, List.set_cons_succ]
            refine takeD 14 (some 89) (v := ?_) rfl rfl (by kernel_rfl) (by kernel_rfl) (by kernel_rfl) (fun _ _ _ h => h) (by rfl) ?_ (by assumption) ?_
            rotate_left
            · intro w hSw
              (try dsimp only at hSw)
              go_simp
              try with_reducible rfl
            try simp only [Act.put, List.setIfInBounds_toArray, List.set_cons_zero, List.set_cons_succ]
            refine takeD 15 (some 90) (v := ?_) rfl rfl (by kernel_rfl) (by kernel_rfl) (by kernel_rfl) (fun _ _ _ h => h) (by rfl) ?_ (by assumption) ?_
            rotate_left
            · intro w hSw
              (try dsimp only at hSw)
              go_simp
              try with_reducible rfl
            try simp only [Act.put, List.setIfInBounds_toArray, List.set_cons_zero, List.set_cons_succ]
            refine wpAnyH_ready (rs := [16]) (by kernel_rfl) (by simp) ?_
            refine AllReadyH.cons rfl (fun K hK => ?_) AllReadyH.nil
            rw [if_pos (by rfl)]
            go_simp
            go_at_call 11
            refine (rdrift_any c.Rho (oi.1 - oj.1) _ (by omega) (by omega) (by omega) (by omega)).mono ?_
            rintro e w1 ⟨rfl, rfl⟩
            rw [← HD.out]
            go_wp2_with fail
            refine hK.out _ _ ?_ (fun hHeld2 => ?_)
            · first | exact hHeld.trans (hk.mono hHeld.size) | (clear hK; have hz := hHeld.size; go_grown)
            clear hK K hHeld
            have hHeld := hHeld2
            clear hHeld2
            try clear hk
            try simp only [Act.put, List.setIfInBounds_toArray, List.set_cons_zero, List.set_cons_succ]
            refine takeD 17 (some 92) (v := ?_) rfl rfl (by kernel_rfl) (by kernel_rfl) (by kernel_rfl) (fun _ _ _ h => h) (by rfl) ?_ (by assumption) ?_
            rotate_left
            · intro w hSw
              (try dsimp only at hSw)
              go_simp
              try with_reducible rfl
            try simp only [Act.put, List.setIfInBounds_toArray, List.set_cons_zero, List.set_cons_succ]
            refine wpAnyH_done (by kernel_rfl) ?_ _
            go_wp2
            go_ret
            exact ⟨by first | rfl | simp, hbW.trans (hHeld.mono hbW.size)⟩
          · have gq : decide (dv > D) = false := decide_eq_false hgt
            refine wp_region_held_drew (S := fun w' => Below W.heap.size W w') (by kernel_rfl) (by go_grown) (fun hHeld => ?_)
            refine takeD 0 (some 75) (v := ?_) rfl rfl (by kernel_rfl) (by kernel_rfl) (by kernel_rfl) (fun _ _ _ h => h) (by rfl) ?_ (by assumption) ?_
            rotate_left
            · intro w hSw
              (try dsimp only at hSw)
              go_simp
              try with_reducible rfl
            try simp only [Act.put, List.setIfInBounds_toArray, List.set_cons_zero, List.set_cons_succ]
            refine takeD 1 (some 76) (v := ?_) rfl rfl (by kernel_rfl) (by kernel_rfl) (by kernel_rfl) (fun _ _ _ h => h) (by rfl) ?_ (by assumption) ?_
            rotate_left
            · intro w hSw
              (try dsimp only at hSw)
              go_simp
              try with_reducible rfl
            try simp only [Act.put, List.setIfInBounds_toArray, List.set_cons_zero, List.set_cons_succ]
            refine takeD 2 (some 77) (v := ?_) rfl rfl (by kernel_rfl) (by kernel_rfl) (by kernel_rfl) (fun _ _ _ h => h) (by rfl) ?_ (by assumption) ?_
            rotate_left
            · intro w hSw
              (try dsimp only at hSw)
              go_simp
              try with_reducible rfl
            try simp only [Act.put, List.setIfInBounds_toArray, List.set_cons_zero, List.set_cons_succ]
            refine takeD 3 (some 78) (v := ?_) rfl rfl (by kernel_rfl) (by kernel_rfl) (by kernel_rfl) (fun _ _ _ h => h) (by rfl) ?_ (by assumption) ?_
            rotate_left
            · intro w hSw
              (try dsimp only at hSw)
              go_simp
              try with_reducible rfl
            try simp only [Act.put, List.setIfInBounds_toArray, List.set_cons_zero, List.set_cons_succ]
            refine takeD 4 (some 79) (v := ?_) rfl rfl (by kernel_rfl) (by kernel_rfl) (by kernel_rfl) (fun _ _ _ h => h) (by rfl) ?_ (by assumption) ?_
            rotate_left
            · intro w hSw
              (try dsimp only at hSw)
              go_simp
              try with_reducible rfl
            try simp only [Act.put, List.setIfInBounds_toArray, List.set_cons_zero, List.set_cons_succ]
            refine takeD 5 (some 80) (v := ?_) rfl rfl (by kernel_rfl) (by kernel_rfl) (by kernel_rfl) (fun _ _ _ h => h) (by rfl) ?_ (by assumption) ?_
            rotate_left
            · intro w hSw
              (try dsimp only at hSw)
              go_simp
              try with_reducible rfl
            try simp only [Act.put, List.setIfInBounds_toArray, List.set_cons_zero, List.set_cons_succ]
            refine takeD 6 (some 81) (v := ?_) rfl rfl (by kernel_rfl) (by kernel_rfl) (by kernel_rfl) (fun _ _ _ h => h) (by rfl) ?_ (by assumption) ?_
            rotate_left
            · intro w hSw
              (try dsimp only at hSw)
              go_simp
              try with_reducible rfl
            try simp only [Act.put, List.setIfInBounds_toArray, List.set_cons_zero, List.set_cons_succ]
            refine takeD 7 (some 82) (v := ?_) rfl rfl (by kernel_rfl) (by kernel_rfl) (by kernel_rfl) (fun _ _ _ h => h) (by rfl) ?_ (by assumption) ?_
            rotate_left
            · intro w hSw
              (try dsimp only at hSw)
              go_simp
              try with_reducible rfl
            try simp only [Act.put, List.setIfInBounds_toArray, List.set_cons_zero, List.set_cons_succ]
            refine takeD 8 (some 83) (v := ?_) rfl rfl (by kernel_rfl) (by kernel_rfl) (by kernel_rfl) (fun _ _ _ h => h) (by rfl) ?_ (by assumption) ?_
            rotate_left
            · intro w hSw
              (try dsimp only at hSw)
              go_simp
              try with_reducible rfl
            try simp only [Act.put, List.setIfInBounds_toArray, List.set_cons_zero, List.set_cons_succ]
            refine takeD 9 (some 84) (v := ?_) rfl rfl (by kernel_rfl) (by kernel_rfl) (by kernel_rfl) (fun _ _ _ h => h) (by rfl) ?_ (by assumption) ?_
            rotate_left
            · intro w hSw
              (try dsimp only at hSw)
              go_simp
              try with_reducible rfl
            try simp only [Act.put, List.setIfInBounds_toArray, List.set_cons_zero, List.set_cons_succ]
            refine takeD 10 (some 85) (v := ?_) rfl rfl (by kernel_rfl) (by kernel_rfl) (by kernel_rfl) (fun _ _ _ h => h) (by rfl) ?_ (by assumption) ?_
            rotate_left
            · intro w hSw
              (try dsimp only at hSw)
              go_simp
              try with_reducible rfl
            try simp only [Act.put, List.setIfInBounds_toArray, List.set_cons_zero, List.set_cons_succ]
            refine takeD 11 (some 86) (v := ?_) rfl rfl (by kernel_rfl) (by kernel_rfl) (by kernel_rfl) (fun _ _ _ h => h) (by rfl) ?_ (by assumption) ?_
            rotate_left
            · intro w hSw
              (try dsimp only at hSw)
              go_simp
              try with_reducible rfl
            try simp only [Act.put, List.setIfInBounds_toArray, List.set_cons_zero, List.set_cons_succ]
            refine takeD 12 (some 87) (v := ?_) rfl rfl (by kernel_rfl) (by kernel_rfl) (by kernel_rfl) (fun _ _ _ h => h) (by rfl) ?_ (by assumption) ?_
            rotate_left
            · intro w hSw
              (try dsimp only at hSw)
              go_simp
              try with_reducible rfl
            try simp only [Act.put, List.setIfInBounds_toArray, List.set_cons_zero, List.set_cons_succ]
            refine takeD 13 (some 88) (v := ?_) rfl rfl (by kernel_rfl) (by kernel_rfl) (by kernel_rfl) (fun _ _ _ h => h) (by rfl) ?_ (by assumption) ?_
            rotate_left
            · intro w hSw
              (try dsimp only at hSw)
              go_simp
              try with_reducible rfl
            try simp only [Act.put, List.setIfInBounds_toArray, List.set_cons_zero, List.set_cons_succ]
            refine takeD 14 (some 89) (v := ?_) rfl rfl (by kernel_rfl) (by kernel_rfl) (by kernel_rfl) (fun _ _ _ h => h) (by rfl) ?_ (by assumption) ?_
            rotate_left
            · intro w hSw
              (try dsimp only at hSw)
              go_simp
              try with_reducible rfl
            try simp only [Act.put, List.setIfInBounds_toArray, List.set_cons_zero, List.set_cons_succ]
            refine takeD 15 (some 90) (v := ?_) rfl rfl (by kernel_rfl) (by kernel_rfl) (by kernel_rfl) (fun _ _ _ h => h) (by rfl) ?_ (by assumption) ?_
            rotate_left
            · intro w hSw
              (try dsimp only at hSw)
              go_simp
              try with_reducible rfl
            try simp only [Act.put, List.setIfInBounds_toArray, List.set_cons_zero, List.set_cons_succ]
            refine wpAnyH_ready (rs := [16]) (by kernel_rfl) (by simp) ?_
            refine AllReadyH.cons rfl (fun K hK => ?_) AllReadyH.nil
            rw [if_pos (by rfl)]
            go_simp
            go_at_call 11
            refine (rdrift_any c.Rho (oi.1 - oj.1) _ (by omega) (by omega) (by omega) (by omega)).mono ?_
            rintro e w1 ⟨rfl, rfl⟩
            rw [← HD.out]
            go_wp2_with fail
            refine hK.out _ _ ?_ (fun hHeld2 => ?_)
            · first | exact hHeld.trans (hk.mono hHeld.size) | (clear hK; have hz := hHeld.size; go_grown)
            clear hK K hHeld
            have hHeld := hHeld2
            clear hHeld2
            try clear hk
            try simp only [Act.put, List.setIfInBounds_toArray, List.set_cons_zero, List.set_cons_succ]
            refine takeD 17 (some 92) (v := ?_) rfl rfl (by kernel_rfl) (by kernel_rfl) (by kernel_rfl) (fun _ _ _ h => h) (by rfl) ?_ (by assumption) ?_
            rotate_left
            · intro w hSw
              (try dsimp only at hSw)
              go_simp
              try with_reducible rfl
            try simp only [Act.put, List.setIfInBounds_toArray, List.set_cons_zero, List.set_cons_succ]
            refine wpAnyH_done (by kernel_rfl) ?_ _
            have hbN := hbW.trans (hHeld.mono hbW.size)
            go_wp2
            go_roundw
            case rel => exact ⟨j + 1, by omega, by go_num, near_step HN.out HOJ.out (by have := HDV.out; have := HD.out; omega) (by have := HDV.out; have := HD.out; omega), hbN, HBW.out.below hHeld, HEW.out.below hHeld⟩
            case measure => simp [intOf]; omega
      · have he : k = j := by omega
        subst he
        have eE := cEi.out _ hb
        have eO := cOi.out _ hb
        have eD := cDi.out _ hb
        have cB := HB.out.cells
        have lB2 := HB.out.lt
        obtain ⟨d, hd⟩ : ∃ d, d = oi.2.2 % (c.Mx - c.Mn + 1) := ⟨_, rfl⟩
        have hdb : 0 ≤ d ∧ d ≤ c.Mx - c.Mn := by
          have h1 := Int.emod_nonneg oi.2.2 (show c.Mx - c.Mn + 1 ≠ 0 by omega)
          have h2 := Int.emod_lt_of_pos oi.2.2 (show 0 < c.Mx - c.Mn + 1 by omega)
          omega
        have hrem : oi.2.2.tmod (c.Mx - c.Mn + 1) = d := by rw [hd]; exact Int.tmod_eq_emod_of_nonneg bd.1
        have hrem2 : oi.2.2 % (c.Mx - c.Mn + 1) = d := hd.symm
        have v0 : IntKind.i64.wrap d = d := IntWalk.i64_in _ (by omega)
        have v1 : IntKind.i64.wrap (oi.1 + (b + 200 + oi.2.1)) = oi.1 + (b + 200 + oi.2.1) := IntWalk.i64_in _ (by omega)
        have v2 : IntKind.i64.wrap (oi.1 + (b + 200 + oi.2.1) + c.Mn) = oi.1 + (b + 200 + oi.2.1) + c.Mn := IntWalk.i64_in _ (by omega)
        have v3 : IntKind.i64.wrap (c.Mx - c.Mn) = c.Mx - c.Mn := IntWalk.i64_in _ (by omega)
        have v4 : IntKind.i64.wrap (c.Mx - c.Mn + 1) = c.Mx - c.Mn + 1 := IntWalk.i64_in _ (by omega)
        have v5 : IntKind.i64.wrap (oi.1 + (b + 200 + oi.2.1) + c.Mn + d) = oi.1 + (b + 200 + oi.2.1) + c.Mn + d := IntWalk.i64_in _ (by omega)
        have q0 : ¬ (c.Mx - c.Mn + 1 = 0) := by omega
        clear hd
        go_wp2_with fail
        go_still_tail 20, (by kernel_rfl)
        go_wp2_with fail
        refine (rceil_any _ _ _ (by omega) (by omega) (by omega) (by omega)).mono ?_
        rintro e w1 ⟨rfl, rfl⟩
        have ht := ce_small (oi.1 + (b + 200 + oi.2.1) + c.Mn + d) c.P (by omega) (by omega) (by omega)
        have hto := hold_told c oi.1 (b + 200 + oi.2.1) d (by omega) hdb
        obtain ⟨t, ht0⟩ : ∃ t, t = ce (oi.1 + (b + 200 + oi.2.1) + c.Mn + d) c.P := ⟨_, rfl⟩
        rw [← ht0] at ht hto
        rw [← ht0]
        have HT0 := Lib.hid ht0
        clear ht0
        have cE := HE.out.cells
        clear eE eO eD v0 v1 v2 v3 v4 v5 q0 hrem hrem2
        go_wp2_with fail
        clear cE cB
        have hE0 : on = true → ∃ o, 0 < k ∧ l[k - 1]? = some o ∧ a = o.1 ∧ lo ≤ b + 200 + o.2.1 ∧ b + 200 + o.2.1 ≤ hi ∧ -4503599627370496 ≤ lo ∧ hi ≤ 4503599627370496 ∧ 0 ≤ o.1 ∧ o.1 ≤ 65535 ∧ -128 ≤ o.2.1 ∧ o.2.1 ≤ 127 := fun hon => by
          obtain ⟨o, x1, x2, x3, x4, x5, x6, x7⟩ := HH.out hon
          obtain ⟨ad2, _, _, _, _, _, y1, y2, _⟩ := HL.out (k - 1) o x2
          exact ⟨o, x1, x2, x3, x4, x5, x6, x7, y1.1, y1.2, y2.1, y2.2⟩
        have ha : on = true → 0 ≤ a ∧ a ≤ 2199023255552 := fun hon => by
          obtain ⟨o, x1, x2, x3, x4, x5, x6, x7, y1, y2, y3, y4⟩ := hE0 hon
          omega
        have hlo : on = true → -4503599627370496 ≤ lo ∧ lo ≤ 4503599627370496 := fun hon => by
          obtain ⟨o, x1, x2, x3, x4, x5, x6, x7, y1, y2, y3, y4⟩ := hE0 hon
          omega
        have hhi : on = true → -4503599627370496 ≤ hi ∧ hi ≤ 4503599627370496 := fun hon => by
          obtain ⟨o, x1, x2, x3, x4, x5, x6, x7, y1, y2, y3, y4⟩ := hE0 hon
          omega
        refine (look_any _ c on a lo hi oi.1 t _ (HC.out.below hb.drew) ⟨p1.1, p1.2.1⟩ (by omega) (by omega) (by omega) (by omega) ht ha hlo hhi).mono ?_
        rintro z w4 ⟨rfl, hk4⟩
        have hb4 := hb.drew.trans (hk4.mono hb.drew.size)
        have HB4 := Lib.hid (HB.out.drw.below hk4)
        have HE4 := Lib.hid (HE.out.drw.below hk4)
        clear hk4 HB HE hb
        have hLK := hold_look c on a lo hi oi.1 t (b + 200 + oi.2.1) (match l[k - 1]? with | some o => b + 200 + o.2.1 | none => 0) hto (fun hon => by
          obtain ⟨o, x1, x2, x3, x4, x5, _⟩ := hE0 hon
          have hn := HN.out (k - 1) o (by omega) x2
          rw [x2, x3]
          simp only
          omega)
        have hbd := told_bd c oi.1 t (by omega) (by omega) (by omega) (by omega) ht
        obtain ⟨hio, hl1, hl2, hl3, hl4⟩ := hLK
        obtain ⟨nlo, hnlo⟩ : ∃ x, x = lookLo c on a lo hi oi.1 t := ⟨_, rfl⟩
        obtain ⟨nhi, hnhi⟩ : ∃ x, x = lookHi c on a lo hi oi.1 t := ⟨_, rfl⟩
        rw [hio, ← hnlo, ← hnhi]
        rw [← hnlo] at hl1 hl3
        rw [← hnhi] at hl2 hl4
        clear hio hnlo hnhi hE0 ha hlo hhi HH
        have lB4 := HB4.out.lt
        have lE4 := HE4.out.lt
        go_wp2_with fail
        have HN4 := Lib.hid (Blk.new w4 31 #[.bool true, .int .i64 oi.1, .int .i64 nlo, .int .i64 nhi] w4.heap.size rfl)
        have HB5 := Lib.hid (HB4.out.al (.cells #[.bool true, .int .i64 oi.1, .int .i64 nlo, .int .i64 nhi] 31))
        have HE5 := Lib.hid (HE4.out.al (.cells #[.bool true, .int .i64 oi.1, .int .i64 nlo, .int .i64 nhi] 31))
        have hsz4 := hb4.size
        go_loopw [18] (fun i wr => ∃ (j : Nat), j ≤ k + 1 ∧ i = .int .i64 j ∧ Below w.heap.size w wr ∧ Blk wr w.heap.size 25 #[.int .i64 c.P, .int .i64 c.H, .int .i64 c.C, .int .i64 c.Mn, .int .i64 c.Mx, .int .i64 c.Rho, .int .i64 c.Bd, .int .i64 c.Win, .int .i64 c.St, s, r] ∧ Blk wr w3.heap.size 31 #[.bool on, .int .i64 a, .int .i64 lo, .int .i64 hi] ∧ Blk wr w4.heap.size 31 #[.bool true, .int .i64 oi.1, .int .i64 nlo, .int .i64 nhi]) (fun i _ => k + 1 - (intOf i).toNat)
        case atStart => exact ⟨0, by omega, rfl, hb4.alloc hsz4 _, HB5.out, HE5.out, HN4.out⟩
        case round =>
          clear HN4 HB5 HE5 HB4 HE4
          obtain ⟨j, hj3, rfl, hb, hB, hE, hN3⟩ := hrel
          have HB := Lib.hid hB
          have HE := Lib.hid hE
          have HN3 := Lib.hid hN3
          clear hB hE hN3
          by_cases hjk3 : j ≤ k
          · obtain ⟨oj, hoj⟩ : ∃ o, l[j]? = some o := ⟨_, List.getElem?_eq_getElem (by omega)⟩
            obtain ⟨ad2, hbe0, hjb, hj0, hj1, hj2, bje, bjo, bjd⟩ := HL.out j oj hoj
            have hbe := Option.some.inj hbe0
            rw [← hbe] at hjb hj0 hj1 hj2
            clear hbe hbe0
            have HOJ := Lib.hid hoj
            have cEj : Hid (∀ w', Below w.heap.size w w' → w'.cell? (ad.add (j * 3)) = some (.int .u16 oj.1)) := Lib.hid fun w' hb => by
              have h2 : w'.cell? (ad.add (j * 3)) = some (.int .u16 oj.1) := by rw [hb.cell (by rw [block_add]; exact hjb)]; exact hj0
              exact h2
            have cOj : Hid (∀ w', Below w.heap.size w w' → w'.cell? ⟨(ad.add (j * 3)).block, (ad.add (j * 3)).off + 1, none⟩ = some (.int .i8 oj.2.1)) := Lib.hid fun w' hb => by
              have h2 : w'.cell? (ad.add (j * 3 + 1)) = some (.int .i8 oj.2.1) := by rw [hb.cell (by rw [block_add]; exact hjb)]; exact hj1
              rwa [← Go.Deep.add_add, addkS _ 1 (by decide)] at h2
            clear hj0 hj1 hj2 hoj
            have wOj : IntKind.i64.wrap oj.2.1 = oj.2.1 := IntWalk.i64_in _ (by omega)
            have wEj : IntKind.i64.wrap oj.1 = oj.1 := IntWalk.i64_in _ (by omega)
            have hji : (j : Int) < (l.length : Int) := by omega
            have hjk4 : (j : Int) ≤ (k : Int) := by omega
            go_wp2_with fail
            refine wp_world (fun X => Below w.heap.size w X ∧ Blk X w.heap.size 25 #[.int .i64 c.P, .int .i64 c.H, .int .i64 c.C, .int .i64 c.Mn, .int .i64 c.Mx, .int .i64 c.Rho, .int .i64 c.Bd, .int .i64 c.Win, .int .i64 c.St, s, r] ∧ Blk X w3.heap.size 31 #[.bool on, .int .i64 a, .int .i64 lo, .int .i64 hi] ∧ Blk X w4.heap.size 31 #[.bool true, .int .i64 oi.1, .int .i64 nlo, .int .i64 nhi]) ⟨hb, HB.out, HE.out, HN3.out⟩ fun X ⟨hbX, hBX, hEX, hNX⟩ => ?_
            have lBX := hBX.lt
            have lNX := hNX.lt
            have HBX := Lib.hid hBX
            have HEX := Lib.hid hEX
            have HNX := Lib.hid hNX
            have dB : ∀ w', Below X.heap.size X w' → ∀ i, w'.cell? ⟨w.heap.size, i, none⟩ = (#[.int .i64 c.P, .int .i64 c.H, .int .i64 c.C, .int .i64 c.Mn, .int .i64 c.Mx, .int .i64 c.Rho, .int .i64 c.Bd, .int .i64 c.Win, .int .i64 c.St, s, r] : Array Value)[i]? := fun w' hh i => by rw [hh.cell (p := ⟨w.heap.size, i, none⟩) lBX]; exact HBX.out.cells i
            have dN : ∀ w', Below X.heap.size X w' → ∀ i, w'.cell? ⟨w4.heap.size, i, none⟩ = (#[.bool true, .int .i64 oi.1, .int .i64 nlo, .int .i64 nhi] : Array Value)[i]? := fun w' hh i => by rw [hh.cell (p := ⟨w4.heap.size, i, none⟩) lNX]; exact HNX.out.cells i
            have dEj : ∀ w', Below X.heap.size X w' → w'.cell? (ad.add (j * 3)) = some (.int .u16 oj.1) := fun w' hh => cEj.out w' (hbX.trans (hh.mono hbX.size))
            clear hBX hEX hNX HB HE HN3 hb
            refine wp_region_held_drew (S := fun w' => Below X.heap.size X w') (by kernel_rfl) (by go_grown) (fun hHeld => ?_)
            refine takeD 0 (some 173) (v := ?_) rfl rfl (by kernel_rfl) (by kernel_rfl) (by kernel_rfl) (fun _ _ _ h => h) (by rfl) ?_ (by assumption) ?_
            rotate_left
            · intro w hSw
              (try dsimp only at hSw)
              go_simp
              try with_reducible rfl
            try simp only [Act.put, List.setIfInBounds_toArray, List.set_cons_zero, List.set_cons_succ]
            refine takeD 1 (some 174) (v := ?_) rfl rfl (by kernel_rfl) (by kernel_rfl) (by kernel_rfl) (fun _ _ _ h => h) (by rfl) ?_ (by assumption) ?_
            rotate_left
            · intro w hSw
              (try dsimp only at hSw)
              go_simp
              try with_reducible rfl
            try simp only [Act.put, List.setIfInBounds_toArray, List.set_cons_zero, List.set_cons_succ]
            refine takeD 2 (some 175) (v := ?_) rfl rfl (by kernel_rfl) (by kernel_rfl) (by kernel_rfl) (fun _ _ _ h => h) (by rfl) ?_ (by assumption) ?_
            rotate_left
            · intro w hSw
              (try dsimp only at hSw)
              go_simp
              try with_reducible rfl
            try simp only [Act.put, List.setIfInBounds_toArray, List.set_cons_zero, List.set_cons_succ]
            refine takeD 3 (some 176) (v := ?_) rfl rfl (by kernel_rfl) (by kernel_rfl) (by kernel_rfl) (fun _ _ _ h => h) (by rfl) ?_ (by assumption) ?_
            rotate_left
            · intro w hSw
              (try dsimp only at hSw)
              go_simp
              try with_reducible rfl
            try simp only [Act.put, List.setIfInBounds_toArray, List.set_cons_zero, List.set_cons_succ]
            refine takeD 4 (some 177) (v := ?_) rfl rfl (by kernel_rfl) (by kernel_rfl) (by kernel_rfl) (fun _ _ _ h => h) (by rfl) ?_ (by assumption) ?_
            rotate_left
            · intro w hSw
              (try dsimp only at hSw)
              go_simp
              try with_reducible rfl
            try simp only [Act.put, List.setIfInBounds_toArray, List.set_cons_zero, List.set_cons_succ]
            refine takeD 5 (some 178) (v := ?_) rfl rfl (by kernel_rfl) (by kernel_rfl) (by kernel_rfl) (fun _ _ _ h => h) (by rfl) ?_ (by assumption) ?_
            rotate_left
            · intro w hSw
              (try dsimp only at hSw)
              go_simp
              try with_reducible rfl
            try simp only [Act.put, List.setIfInBounds_toArray, List.set_cons_zero, List.set_cons_succ]
            refine takeD 6 (some 179) (v := ?_) rfl rfl (by kernel_rfl) (by kernel_rfl) (by kernel_rfl) (fun _ _ _ h => h) (by rfl) ?_ (by assumption) ?_
            rotate_left
            · intro w hSw
              (try dsimp only at hSw)
              go_simp
              try with_reducible rfl
            try simp only [Act.put, List.setIfInBounds_toArray, List.set_cons_zero, List.set_cons_succ]
            refine takeD 7 (some 180) (v := ?_) rfl rfl (by kernel_rfl) (by kernel_rfl) (by kernel_rfl) (fun _ _ _ h => h) (by rfl) ?_ (by assumption) ?_
            rotate_left
            · intro w hSw
              (try dsimp only at hSw)
              go_simp
              try with_reducible rfl
            try simp only [Act.put, List.setIfInBounds_toArray, List.set_cons_zero, List.set_cons_succ]
            refine wpAnyH_ready (rs := [8]) (by kernel_rfl) (by simp) ?_
            refine AllReadyH.cons rfl (fun K hK => ?_) AllReadyH.nil
            rw [if_pos (by rfl)]
            go_simp
            go_at_call 14
            refine (atf_on _ c oi.1 nlo nhi oj.1 _ (HC.out.below (hbX.trans (hHeld.mono hbX.size))) (by omega) (by omega) (by omega) (by omega) (by omega)).mono ?_
            rintro e w1 ⟨rfl, hk⟩
            go_wp2_with fail
            refine hK.out _ _ ?_ (fun hHeld2 => ?_)
            · first | exact hHeld.trans (hk.mono hHeld.size) | (clear hK; have hz := hHeld.size; go_grown)
            clear hK K hHeld
            have hHeld := hHeld2
            clear hHeld2
            try clear hk
            try simp only [Act.put, List.setIfInBounds_toArray, List.set_cons_zero, List.set_cons_succ]
            refine takeD 9 (some 172) (v := ?_) rfl rfl (by kernel_rfl) (by kernel_rfl) (by kernel_rfl) (fun _ _ _ h => h) (by rfl) ?_ (by assumption) ?_
            rotate_left
            · intro w hSw
              (try dsimp only at hSw)
              go_simp
              try with_reducible rfl
            try simp only [Act.put, List.setIfInBounds_toArray, List.set_cons_zero, List.set_cons_succ]
            refine takeD 10 (some 182) (v := ?_) rfl rfl (by kernel_rfl) (by kernel_rfl) (by kernel_rfl) (fun _ _ _ h => h) (by rfl) ?_ (by assumption) ?_
            rotate_left
            · intro w hSw
              (try dsimp only at hSw)
              go_simp
              try with_reducible rfl
            try simp only [Act.put, List.setIfInBounds_toArray, List.set_cons_zero, List.set_cons_succ]
            refine takeD 11 (some 183) (v := ?_) rfl rfl (by kernel_rfl) (by kernel_rfl) (by kernel_rfl) (fun _ _ _ h => h) (by rfl) ?_ (by assumption) ?_
            rotate_left
            · intro w hSw
              (try dsimp only at hSw)
              go_simp
              try with_reducible rfl
            try simp only [Act.put, List.setIfInBounds_toArray, List.set_cons_zero, List.set_cons_succ]
            refine takeD 12 (some 184) (v := ?_) rfl rfl (by kernel_rfl) (by kernel_rfl) (by kernel_rfl) (fun _ _ _ h => h) (by rfl) ?_ (by assumption) ?_
            rotate_left
            · intro w hSw
              (try dsimp only at hSw)
              go_simp
              try with_reducible rfl
            try simp only [Act.put, List.setIfInBounds_toArray, List.set_cons_zero, List.set_cons_succ]
            refine takeD 13 (some 19) (v := ?_) rfl rfl (by kernel_rfl) (by kernel_rfl) (by kernel_rfl) (fun _ _ _ h => h) (by rfl) ?_ (by assumption) ?_
            rotate_left
            · intro w hSw
              (try dsimp only at hSw)
              go_simp
              try with_reducible rfl
            try simp only [Act.put, List.setIfInBounds_toArray, List.set_cons_zero, List.set_cons_succ]
            refine takeD 14 (some 20) (v := ?_) rfl rfl (by kernel_rfl) (by kernel_rfl) (by kernel_rfl) (fun _ _ _ h => h) (by rfl) ?_ (by assumption) ?_
            rotate_left
            · intro w hSw
              (try dsimp only at hSw)
              go_simp
              try with_reducible rfl
            try simp only [Act.put, List.setIfInBounds_toArray, List.set_cons_zero, List.set_cons_succ]
            refine takeD 15 (some 21) (v := ?_) rfl rfl (by kernel_rfl) (by kernel_rfl) (by kernel_rfl) (fun _ _ _ h => h) (by rfl) ?_ (by assumption) ?_
            rotate_left
            · intro w hSw
              (try dsimp only at hSw)
              go_simp
              try with_reducible rfl
            try simp only [Act.put, List.setIfInBounds_toArray, List.set_cons_zero, List.set_cons_succ]
            refine wpAnyH_done (by kernel_rfl) ?_ _
            have hb5 := hbX.trans (hHeld.mono hbX.size)
            have HB5 := Lib.hid (HBX.out.below hHeld)
            have HE5 := Lib.hid (HEX.out.below hHeld)
            have HN5 := Lib.hid (HNX.out.below hHeld)
            clear HBX HEX HNX dB dN dEj lBX lNX hbX hHeld
            have eE := cEj.out _ hb5
            have eO := cOj.out _ hb5
            have hD : nlo - drf c.Rho (oj.1 - oi.1) ≤ b + 200 + oj.2.1 ∧ b + 200 + oj.2.1 ≤ nhi + drf c.Rho (oj.1 - oi.1) := by
              have e0 : drf c.Rho (oj.1 - oi.1) = drf c.Rho (oi.1 - oj.1) := by rw [← drf_neg, Int.neg_sub]
              have e1 := drf_nonneg c.Rho (oj.1 - oi.1) (by omega)
              rcases (by omega : j < k ∨ j = k) with h3 | h3
              · have hn := HN.out j oj h3 HOJ.out
                omega
              · have h4 := HOJ.out
                rw [h3, HOI.out] at h4
                cases h4
                omega
            have hDs := drf_size c.Rho (oj.1 - oi.1) (by omega) (by omega) (by omega) (by omega)
            have hDn := drf_nonneg c.Rho (oj.1 - oi.1) (by omega)
            generalize drf c.Rho (oj.1 - oi.1) = D at *
            have v1 : IntKind.i64.wrap (oj.1 + b) = oj.1 + b := IntWalk.i64_in _ (by omega)
            have v2 : IntKind.i64.wrap (oj.1 + b + 200) = oj.1 + b + 200 := IntWalk.i64_in _ (by omega)
            have v3 : IntKind.i64.wrap (oj.1 + b + 200 + oj.2.1) = oj.1 + b + 200 + oj.2.1 := IntWalk.i64_in _ (by omega)
            go_wp2_with fail
            go_still_tail 17, (by kernel_rfl)
            clear v1 v2 v3 eE eO
            have d1 : decide (oj.1 + (nlo - D) > oj.1 + b + 200 + oj.2.1) = false := decide_eq_false (by omega)
            have d2 : decide (oj.1 + (nhi + D) < oj.1 + b + 200 + oj.2.1) = false := decide_eq_false (by omega)
            go_wp2
            go_roundw
            case rel => exact ⟨j + 1, by omega, by go_num, hb5.drew, HB5.out.drw, HE5.out.drw, HN5.out.drw⟩
            case measure => simp [intOf]; omega
          · have he3 : j = k + 1 := by omega
            subst he3
            have lE5 := HE.out.lt
            have lN5 := HN3.out.lt
            have cN := HN3.out.cells
            have hcE := HE.out.cells
            have hfE := HE.out.froz
            have hcmp : ¬ ((k + 1 : Nat) : Int) ≤ (k : Int) := by omega
            go_wp2_with fail
            have hne : w.heap.size ≠ w3.heap.size := by omega
            have hsz := hb.size
            refine ⟨⟨k + 1, true, oi.1, nlo, nhi, by omega, by go_num, ?_, ?_, ?_, ?_⟩, by simp [intOf]; omega⟩
            · intro _
              exact ⟨oi, by omega, by simpa using HOI.out, rfl, by omega, by omega, by omega, by omega⟩
            · go_grown
            · exact (((HB.out.setO hne 0 _).setO hne 1 _).setO hne 2 _).setO hne 3 _
            · have h := (((HE.out.set 0 (.bool true)).set 1 (.int .i64 oi.1)).set 2 (.int .i64 nlo)).set 3 (.int .i64 nhi)
              simpa using h

end Go.Proofs.Ytffpgocacdnfeaa
