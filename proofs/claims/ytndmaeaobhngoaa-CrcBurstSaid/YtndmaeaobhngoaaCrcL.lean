/- Layer 2: the law of three rows put together. -/
import Derived.Test.YtndmaeaobhngoaaCrcZ
import Derived.StillTailTactics
import Derived.Test.YtndmaeaobhngoaaReg
import Derived.WalkLawsBesides
namespace Go.Proofs.Ytndmaeaobhngoaa
open Go.ChangeShapes Go.WideShapes Go.ChangeAt Go.RowKit
set_option linter.unusedVariables false
set_option linter.unusedSimpArgs false

theorem NB.take {w : World} {A : Option Addr} {n c k : Nat} {l : List Nat} (h : NB w (.slice A n c) l) (hk : k ≤ n) : NB w (.slice A k c) (l.take k) := by
  obtain ⟨⟨A', c', h1, h2, h3, h4⟩, h5⟩ := h
  injection h1 with e1 e2 e3
  subst e1 e3
  rw [List.length_map] at e2 h2
  refine ⟨⟨A, c, ?_, ?_, h3, ?_⟩, fun x hx => h5 x (List.mem_of_mem_take hx)⟩
  · rw [List.length_map, List.length_take]; congr 1; omega
  · rw [List.length_map, List.length_take]; omega
  · rcases h4 with h4 | ⟨ad, e, hl, hc⟩
    · exact .inl h4
    · refine .inr ⟨ad, e, fun hh => hl ?_, fun i x hi => hc i x ?_⟩
      · rw [List.length_map] at hh ⊢; rw [List.length_take] at hh; omega
      · rw [List.map_take] at hi
        rw [List.getElem?_take] at hi
        split at hi
        · exact hi
        · cases hi
theorem NB.at1 {w : World} {A : Option Addr} {n c : Nat} {l : List Nat} (h : NB w (.slice A n c) l) (k x : Nat) (hx : l[k]? = some x) : ∃ ad, A = some ad ∧ w.cell? (ad.add k) = some (.int .u8 (x : Int)) ∧ x < 256 := by
  obtain ⟨⟨A', c', h1, h2, h3, h4⟩, h5⟩ := h
  injection h1 with e1 e2 e3
  subst e1 e3
  have hk : k < l.length := (List.getElem?_eq_some_iff.1 hx).1
  rw [List.length_map] at h2
  rcases h4 with ⟨_, h0⟩ | ⟨ad, e, hl, hc⟩
  · omega
  · exact ⟨ad, e, hc k _ (by rw [List.getElem?_map, hx]; rfl), h5 x (List.mem_of_getElem? hx)⟩

theorem run_min_int4 {P : Program} (w : World) (ts : Array TypeId) (t : TypeId) (k k' k'' k3 : IntKind) (x y z u : Int) :
    (Builtin.min_ ts t #[.int k x, .int k' y, .int k'' z, .int k3 u]).run P w = .ok (.int k (min (min (min x y) z) u)) w := by
  have h2 : ∀ (a b : Int), (if b < a then b else a) = min a b := fun a b => by split <;> omega
  have h : ∀ (a b : Int) (kb : IntKind) (w : World), (Builtin.min2 (.int k a) (.int kb b)).run P w = .ok (.int k (min a b)) w := fun a b kb w => by
    have := run_min_int2 (P := P) w ts t k kb a b
    simp only [Builtin.min_, List.foldlM] at this
    simpa [h2] using this
  simp [Builtin.min_, h]

def zip3 (x y z : List Nat) : List Nat := List.zipWith (· ^^^ ·) (List.zipWith (· ^^^ ·) x y) z
theorem zip3_at (x y z : List Nat) (k p q r : Nat) (hx : x[k]? = some p) (hy : y[k]? = some q) (hz : z[k]? = some r) : (zip3 x y z)[k]? = some (p ^^^ q ^^^ r) := by
  simp [zip3, List.getElem?_zipWith, hx, hy, hz]
theorem zip3_lt (x y z : List Nat) (hx : ∀ a ∈ x, a < 256) (hy : ∀ a ∈ y, a < 256) (hz : ∀ a ∈ z, a < 256) : ∀ a ∈ zip3 x y z, a < 256 := by
  intro a ha
  obtain ⟨k, hk⟩ := List.getElem?_of_mem ha
  unfold zip3 at hk
  rw [List.getElem?_zipWith_eq_some] at hk
  obtain ⟨p, r, hp, hr, rfl⟩ := hk
  rw [List.getElem?_zipWith_eq_some] at hp
  obtain ⟨p1, q1, hp1, hq1, rfl⟩ := hp
  have h1 := hx _ (List.mem_of_getElem? hp1)
  have h2 := hy _ (List.mem_of_getElem? hq1)
  have h3 := hz _ (List.mem_of_getElem? hr)
  exact Nat.xor_lt_two_pow (n := 8) (Nat.xor_lt_two_pow (n := 8) h1 h2) h3

set_option maxRecDepth 100000 in
set_option maxHeartbeats 4000000 in
theorem walk_CrcLinear (va : Value) (za : List Int) (vb : Value) (zb : List Int) (vc : Value) (zc : List Int) (w : World) (h0 : Ints .u8 w va za) (h1 : Ints .u8 w vb zb) (h2 : Ints .u8 w vc zc) :
    Calls Try.prog 6 #[va, vb, vc] w fun e w' => e = .returned (.bool true) ∧ Below w.heap.size w w' := by
  have hX := NB.of_ints h0
  have hY := NB.of_ints h1
  have hZ := NB.of_ints h2
  obtain ⟨A, a, rfl, ha, ham, _⟩ := h0.1
  obtain ⟨B, b, rfl, hb, hbm, _⟩ := h1.1
  obtain ⟨C, c, rfl, hc, hcm, _⟩ := h2.1
  rw [List.length_map] at ha hb hc hX hY hZ ⊢
  rw [List.length_map, List.length_map]
  unfold maxLen at ham hbm hcm
  have lx := toN_len za
  have ly := toN_len zb
  have lz := toN_len zc
  clear h0 h1 h2
  generalize za.map Int.toNat = x at *
  generalize zb.map Int.toNat = y at *
  generalize zc.map Int.toNat = z at *
  have HX := Lib.hid hX
  have HY := Lib.hid hY
  have HZ := Lib.hid hZ
  have LX := Lib.hid lx
  have LY := Lib.hid ly
  have LZ := Lib.hid lz
  clear hX hY hZ lx ly lz
  have hmin := fun w => run_min_int4 (P := Try.prog) w #[3, 3, 3, 3] 3 .i64 .i64 .i64 .i64 (za.length : Int) (zb.length : Int) (zc.length : Int) 1000
  obtain ⟨n, hn⟩ : ∃ n : Nat, (n : Int) = min (min (min (za.length : Int) (zb.length : Int)) (zc.length : Int)) 1000 := ⟨(min (min (min (za.length : Int) (zb.length : Int)) (zc.length : Int)) 1000).toNat, by omega⟩
  have n1 : n ≤ za.length := by omega
  have n2 : n ≤ zb.length := by omega
  have n3 : n ≤ zc.length := by omega
  have n4 : n ≤ 1000 := by omega
  rw [← hn] at hmin
  clear hn
  go_enter Try.func6, Try.ntmps6
  go_wp2_with fail
  refine (head_any _).mono ?_
  rintro e w1 ⟨rfl, hb1⟩
  go_wp2_with fail
  clear hmin
  have X1 := Lib.hid ((HX.out.take n1).below hb1)
  have Y1 := Lib.hid ((HY.out.take n2).below hb1)
  have Z1 := Lib.hid ((HZ.out.take n3).below hb1)
  have TL := Lib.hid (show (x.take n).length = n ∧ (y.take n).length = n ∧ (z.take n).length = n by
    rw [List.length_take, List.length_take, List.length_take, LX.out, LY.out, LZ.out]; omega)
  clear HX HY HZ LX LY LZ
  generalize x.take n = x at *
  generalize y.take n = y at *
  generalize z.take n = z at *
  go_loopw [12, 13] (fun v i wr => ∃ k : Nat, k ≤ n ∧ i = .int .i64 k ∧ Below w1.heap.size w1 wr ∧ wr.ownsRow w1.heap.size 5 1 v k (((zip3 x y z).take k).map fun x : Nat => .int .u8 (x : Int))) (fun _ i _ => n - (intOf i).toNat)
  case atStart => exact ⟨0, Nat.zero_le _, rfl, Below.refl _ _, own_nil _ _⟩
  case round =>
    obtain ⟨k, hk, rfl, hb, ho⟩ := hrel
    by_cases hlt : k < n
    · obtain ⟨p, hp⟩ : ∃ p, x[k]? = some p := ⟨_, List.getElem?_eq_getElem (by rw [TL.out.1]; exact hlt)⟩
      obtain ⟨q, hq⟩ : ∃ q, y[k]? = some q := ⟨_, List.getElem?_eq_getElem (by rw [TL.out.2.1]; exact hlt)⟩
      obtain ⟨r, hr⟩ : ∃ r, z[k]? = some r := ⟨_, List.getElem?_eq_getElem (by rw [TL.out.2.2]; exact hlt)⟩
      obtain ⟨xa, rfl, cx, px⟩ := (X1.out.below hb).at1 k p hp
      have dx : ∀ w', Below w1.heap.size w1 w' → w'.cell? (xa.add k) = some (.int .u8 (p : Int)) := fun w' h => by
        obtain ⟨ad, e, hc, _⟩ := (X1.out.below h).at1 k p hp
        cases e
        exact hc
      obtain ⟨ya, rfl, cy, py⟩ := (Y1.out.below hb).at1 k q hq
      have dy : ∀ w', Below w1.heap.size w1 w' → w'.cell? (ya.add k) = some (.int .u8 (q : Int)) := fun w' h => by
        obtain ⟨ad, e, hc, _⟩ := (Y1.out.below h).at1 k q hq
        cases e
        exact hc
      obtain ⟨za', rfl, cz, pz⟩ := (Z1.out.below hb).at1 k r hr
      have dz : ∀ w', Below w1.heap.size w1 w' → w'.cell? (za'.add k) = some (.int .u8 (r : Int)) := fun w' h => by
        obtain ⟨ad, e, hc, _⟩ := (Z1.out.below h).at1 k r hr
        cases e
        exact hc
      have x1 := u8_xor_nat p q px py
      have h8 : p ^^^ q < 256 := Nat.xor_lt_two_pow (n := 8) px py
      have x2 := u8_xor_nat (p ^^^ q) r h8 pz
      have HE := Lib.hid (show (zip3 x y z).take (k + 1) = (zip3 x y z).take k ++ [p ^^^ q ^^^ r] by rw [List.take_add_one, zip3_at x y z k p q r hp hq hr]; rfl)
      have HO := Lib.hid ho
      clear hp hq hr ho cx cy cz
      generalize p ^^^ q = pq at *
      generalize pq ^^^ r = s at *
      have hltx : (k : Int) < (n : Int) := by omega
      go_wp2_with fail
      refine wp_region_held_drew (S := fun w' => Below w1.heap.size w1 w') (by kernel_rfl) (by first | exact hb3 | (have hzb := hb.size; go_grown)) (fun hHeld => ?_)
      refine takeD 0 (some 36) (v := ?_) rfl rfl (by kernel_rfl) (by kernel_rfl) (by kernel_rfl) (fun _ _ _ h => h) (by rfl) ?_ (by assumption) ?_
      rotate_left
      · intro w hSw
        (try dsimp only at hSw)
        go_simp
        try with_reducible rfl
      try simp only [Act.put, List.setIfInBounds_toArray, List.set_cons_zero, List.set_cons_succ]
      refine takeD 1 (some 37) (v := ?_) rfl rfl (by kernel_rfl) (by kernel_rfl) (by kernel_rfl) (fun _ _ _ h => h) (by rfl) ?_ (by assumption) ?_
      rotate_left
      · intro w hSw
        (try dsimp only at hSw)
        go_simp
        try with_reducible rfl
      try simp only [Act.put, List.setIfInBounds_toArray, List.set_cons_zero, List.set_cons_succ]
      refine takeD 2 (some 38) (v := ?_) rfl rfl (by kernel_rfl) (by kernel_rfl) (by kernel_rfl) (fun _ _ _ h => h) (by rfl) ?_ (by assumption) ?_
      rotate_left
      · intro w hSw
        (try dsimp only at hSw)
        go_simp
        try with_reducible rfl
      try simp only [Act.put, List.setIfInBounds_toArray, List.set_cons_zero, List.set_cons_succ]
      refine takeD 3 (some 39) (v := ?_) rfl rfl (by kernel_rfl) (by kernel_rfl) (by kernel_rfl) (fun _ _ _ h => h) (by rfl) ?_ (by assumption) ?_
      rotate_left
      · intro w hSw
        (try dsimp only at hSw)
        go_simp
        try with_reducible rfl
      try simp only [Act.put, List.setIfInBounds_toArray, List.set_cons_zero, List.set_cons_succ]
      refine takeD 4 (some 40) (v := ?_) rfl rfl (by kernel_rfl) (by kernel_rfl) (by kernel_rfl) (fun _ _ _ h => h) (by rfl) ?_ (by assumption) ?_
      rotate_left
      · intro w hSw
        (try dsimp only at hSw)
        go_simp
        try with_reducible rfl
      try simp only [Act.put, List.setIfInBounds_toArray, List.set_cons_zero, List.set_cons_succ]
      refine takeD 5 (some 41) (v := ?_) rfl rfl (by kernel_rfl) (by kernel_rfl) (by kernel_rfl) (fun _ _ _ h => h) (by rfl) ?_ (by assumption) ?_
      rotate_left
      · intro w hSw
        (try dsimp only at hSw)
        go_simp
        try with_reducible rfl
      try simp only [Act.put, List.setIfInBounds_toArray, List.set_cons_zero, List.set_cons_succ]
      refine takeD 6 (some 42) (v := ?_) rfl rfl (by kernel_rfl) (by kernel_rfl) (by kernel_rfl) (fun _ _ _ h => h) (by rfl) ?_ (by assumption) ?_
      rotate_left
      · intro w hSw
        (try dsimp only at hSw)
        go_simp
        try with_reducible rfl
      try simp only [Act.put, List.setIfInBounds_toArray, List.set_cons_zero, List.set_cons_succ]
      refine takeD 7 (some 43) (v := ?_) rfl rfl (by kernel_rfl) (by kernel_rfl) (by kernel_rfl) (fun _ _ _ h => h) (by rfl) ?_ (by assumption) ?_
      rotate_left
      · intro w hSw
        (try dsimp only at hSw)
        go_simp
        try with_reducible rfl
      try simp only [Act.put, List.setIfInBounds_toArray, List.set_cons_zero, List.set_cons_succ]
      refine takeD 8 (some 44) (v := ?_) rfl rfl (by kernel_rfl) (by kernel_rfl) (by kernel_rfl) (fun _ _ _ h => h) (by rfl) ?_ (by assumption) ?_
      rotate_left
      · intro w hSw
        (try dsimp only at hSw)
        go_simp
        try with_reducible rfl
      try simp only [Act.put, List.setIfInBounds_toArray, List.set_cons_zero, List.set_cons_succ]
      refine takeD 9 (some 45) (v := ?_) rfl rfl (by kernel_rfl) (by kernel_rfl) (by kernel_rfl) (fun _ _ _ h => h) (by rfl) ?_ (by assumption) ?_
      rotate_left
      · intro w hSw
        (try dsimp only at hSw)
        go_simp
        try with_reducible rfl
      try simp only [Act.put, List.setIfInBounds_toArray, List.set_cons_zero, List.set_cons_succ]
      refine takeD 10 (some 46) (v := ?_) rfl rfl (by kernel_rfl) (by kernel_rfl) (by kernel_rfl) (fun _ _ _ h => h) (by rfl) ?_ (by assumption) ?_
      rotate_left
      · intro w hSw
        (try dsimp only at hSw)
        go_simp
        try with_reducible rfl
      try simp only [Act.put, List.setIfInBounds_toArray, List.set_cons_zero, List.set_cons_succ]
      refine takeD 11 (some 47) (v := ?_) rfl rfl (by kernel_rfl) (by kernel_rfl) (by kernel_rfl) (fun _ _ _ h => h) (by rfl) ?_ (by assumption) ?_
      rotate_left
      · intro w hSw
        (try dsimp only at hSw)
        go_simp
        try with_reducible rfl
      try simp only [Act.put, List.setIfInBounds_toArray, List.set_cons_zero, List.set_cons_succ]
      refine takeD 12 (some 48) (v := ?_) rfl rfl (by kernel_rfl) (by kernel_rfl) (by kernel_rfl) (fun _ _ _ h => h) (by rfl) ?_ (by assumption) ?_
      rotate_left
      · intro w hSw
        (try dsimp only at hSw)
        go_simp
        try with_reducible rfl
      try simp only [Act.put, List.setIfInBounds_toArray, List.set_cons_zero, List.set_cons_succ]
      refine takeD 13 (some 49) (v := ?_) rfl rfl (by kernel_rfl) (by kernel_rfl) (by kernel_rfl) (fun _ _ _ h => h) (by rfl) ?_ (by assumption) ?_
      rotate_left
      · intro w hSw
        (try dsimp only at hSw)
        go_simp
        try with_reducible rfl
      try simp only [Act.put, List.setIfInBounds_toArray, List.set_cons_zero, List.set_cons_succ]
      refine takeD 14 (some 50) (v := ?_) rfl rfl (by kernel_rfl) (by kernel_rfl) (by kernel_rfl) (fun _ _ _ h => h) (by rfl) ?_ (by assumption) ?_
      rotate_left
      · intro w hSw
        (try dsimp only at hSw)
        go_simp
        try with_reducible rfl
      try simp only [Act.put, List.setIfInBounds_toArray, List.set_cons_zero, List.set_cons_succ]
      refine wpAnyH_ready (rs := [15]) (by kernel_rfl) (by simp) ?_
      refine AllReadyH.cons rfl (fun K hK => ?_) AllReadyH.nil
      rw [if_pos (by rfl)]
      go_simp
      refine hK.out _ _ ?_ (fun hHeld2 => ?_)
      · first | exact hHeld.trans (hk.mono hHeld.size) | (clear hK; have hz := hHeld.size; first | exact hb3 | (have hzb := hb.size; go_grown))
      clear hK K hHeld
      have hHeld := hHeld2
      clear hHeld2
      try clear hk
      try simp only [Act.put, List.setIfInBounds_toArray, List.set_cons_zero, List.set_cons_succ]
      refine wpAnyH_ready (rs := [16]) (by kernel_rfl) (by simp) ?_
      refine AllReadyH.cons rfl (fun K hK => ?_) AllReadyH.nil
      rw [if_pos (by rfl)]
      refine wp_app el8 (.tmp 36) (.tmp 51) rfl w1.heap.size _ k _ rfl (HO.out.drew.alloc _) _ [.int .u8 (s : Int)] rfl ?_ ?_ ?_ ?_ ?_ ?_
      case refine_1 => exact Row.of_block (heap_at _ _ _ rfl) rfl rfl (Nat.le_refl _) (by decide)
      case refine_2 => simp [Value.oneCell']
      case refine_3 => unfold maxLen; simp; omega
      case refine_4 => simp; omega
      case refine_5 => have := hb.size; simp; omega
      intro v2 w3 own2 hg2 hat2
      have hb3 : Below w1.heap.size w1 w3 := below_app (hb.drew.alloc hb.size _) (by have := hb.size; simp; omega) (HO.out.drew.alloc _) hg2 (Nat.le_refl _)
      have HO2 := Lib.hid own2
      clear own2 hg2 hat2
      refine hK.out _ _ ?_ (fun hHeld2 => ?_)
      · first | exact hHeld.trans (hk.mono hHeld.size) | (clear hK; have hz := hHeld.size; first | exact hb3 | (have hzb := hb.size; go_grown))
      clear hK K hHeld
      have hHeld := hHeld2
      clear hHeld2
      try clear hk
      try simp only [Act.put, List.setIfInBounds_toArray, List.set_cons_zero, List.set_cons_succ]
      refine takeD 17 (some 12) (v := ?_) rfl rfl (by kernel_rfl) (by kernel_rfl) (by kernel_rfl) (fun _ _ _ h => h) (by rfl) ?_ (by assumption) ?_
      rotate_left
      · intro w hSw
        (try dsimp only at hSw)
        go_simp
        try with_reducible rfl
      try simp only [Act.put, List.setIfInBounds_toArray, List.set_cons_zero, List.set_cons_succ]
      refine wpAnyH_done (by kernel_rfl) ?_ _
      clear hHeld hb HO dx dy dz x1 x2
      go_wp2
      go_roundw
      case rel => exact ⟨k + 1, by omega, by go_num, hb3, by rw [HE.out]; simpa using HO2.out⟩
      case measure => simp [intOf]; omega
    · have : k = n := by omega
      subst this
      have hzl : (zip3 x y z).length = k := by simp [zip3, TL.out.1, TL.out.2.1, TL.out.2.2]
      rw [← hzl, List.take_length] at ho
      rw [hzl] at ho
      have HS := Lib.hid (show NB wr _ (zip3 x y z) from ⟨Row.of_own ho, zip3_lt x y z X1.out.2 Y1.out.2 Z1.out.2⟩)
      have HL := Lib.hid (sum_linear x y z (by rw [TL.out.1, TL.out.2.1]) (by rw [TL.out.2.1, TL.out.2.2]) X1.out.2 Y1.out.2 Z1.out.2)
      have sx := sum_lt x X1.out.2
      have sy := sum_lt y Y1.out.2
      have sz := sum_lt z Z1.out.2
      have X2 := Lib.hid (X1.out.below hb)
      have Y2 := Lib.hid (Y1.out.below hb)
      have Z2 := Lib.hid (Z1.out.below hb)
      have hb2 := hb1.trans (hb.mono hb1.size)
      have i1 := i64_xor_nat (sumN 0 x) (sumN 0 y) (by omega) (by omega)
      have i2 := i64_xor_nat (sumN 0 x ^^^ sumN 0 y) (sumN 0 z) (Nat.lt_of_lt_of_le (xor_lt32 _ _ sx sy) (by decide)) (by omega)
      clear ho hb hb1 X1 Y1 Z1 hzl sx sy sz
      go_wp2_with fail
      refine (sum_any _ (zip3 x y z) _ HS.out).mono ?_
      rintro e w4 ⟨rfl, hk⟩
      rw [show sumN 0 (zip3 x y z) = _ from HL.out]
      have hb4 := hb2.trans (hk.mono hb2.size)
      have X4 := Lib.hid (X2.out.below hk)
      have Y4 := Lib.hid (Y2.out.below hk)
      have Z4 := Lib.hid (Z2.out.below hk)
      clear hk hb2 X2 Y2 Z2 HS HL
      go_wp2_with fail
      refine (sum_any _ x _ X4.out).mono ?_
      rintro e w5 ⟨rfl, hk⟩
      have hb5 := hb4.trans (hk.mono hb4.size)
      have Y5 := Lib.hid (Y4.out.below hk)
      have Z5 := Lib.hid (Z4.out.below hk)
      clear hk hb4 X4 Y4 Z4
      go_wp2_with fail
      refine (sum_any _ y _ Y5.out).mono ?_
      rintro e w6 ⟨rfl, hk⟩
      have hb6 := hb5.trans (hk.mono hb5.size)
      have Z6 := Lib.hid (Z5.out.below hk)
      clear hk hb5 Y5 Z5
      go_wp2_with fail
      refine (sum_any _ z _ Z6.out).mono ?_
      rintro e w7 ⟨rfl, hk⟩
      have hb7 := hb6.trans (hk.mono hb6.size)
      clear hk hb6 Z6
      go_wp2
      go_ret
      exact ⟨by simp, hb7⟩
end Go.Proofs.Ytndmaeaobhngoaa
