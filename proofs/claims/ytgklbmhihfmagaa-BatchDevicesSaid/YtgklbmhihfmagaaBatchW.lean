/- Layer 14: rows alike; is one in a row. -/
import Derived.Test.YtgklbmhihfmagaaBatchU
import Derived.Test.YtgklbmhihfmagaaBatchT
import Derived.Handy
import Derived.IntWalk
namespace Go.Proofs.Ytgklbmhihfmagaa
open Go.ChangeShapes Go.WideShapes Go.ChangeAt Go.RowKit Go.Deep
set_option linter.unusedVariables false
set_option linter.unusedSimpArgs false

/-- the cells of element i, whatever is laid behind -/
def SixAt (w : World) (B : Nat) (ad : Addr) (i : Nat) (x : PV) : Prop := ∀ W, Below B w W → W.cell? (ad.add (i * 6)) = some (.int .i64 x.p.dev) ∧ W.cell? ⟨(ad.add (i * 6)).block, (ad.add (i * 6)).off + 1, none⟩ = some (.int .i64 x.p.chan) ∧ W.cell? ⟨(ad.add (i * 6)).block, (ad.add (i * 6)).off + 2, none⟩ = some (.int .i64 x.p.boot) ∧
    W.cell? ⟨(ad.add (i * 6)).block, (ad.add (i * 6)).off + 3, none⟩ = some (.int .i64 x.p.seq) ∧ W.cell? ⟨(ad.add (i * 6)).block, (ad.add (i * 6)).off + 4, none⟩ = some (.int .i64 x.p.stamp) ∧ W.cell? ⟨(ad.add (i * 6)).block, (ad.add (i * 6)).off + 5, none⟩ = some (.slice x.A x.p.vals.length x.c)
theorem PRow.six {w : World} {l : List PV} {A : Option Addr} {n c : Nat} (h : PRow w (.slice A n c) l) {i : Nat} {x : PV} (hi : l[i]? = some x) : ∃ ad, A = some ad ∧ n = l.length ∧ SixAt w w.heap.size ad i x := by
  obtain ⟨ad, e1, e2, hb, c0, c1, c2, c3, c4, c5⟩ := h.atw hi
  exact ⟨ad, e1, e2, fun W hW => ⟨(hW.cell hb).trans c0, (hW.cell (p := ⟨(ad.add (i * 6)).block, (ad.add (i * 6)).off + 1, none⟩) hb).trans c1, (hW.cell (p := ⟨(ad.add (i * 6)).block, (ad.add (i * 6)).off + 2, none⟩) hb).trans c2, (hW.cell (p := ⟨(ad.add (i * 6)).block, (ad.add (i * 6)).off + 3, none⟩) hb).trans c3, (hW.cell (p := ⟨(ad.add (i * 6)).block, (ad.add (i * 6)).off + 4, none⟩) hb).trans c4, (hW.cell (p := ⟨(ad.add (i * 6)).block, (ad.add (i * 6)).off + 5, none⟩) hb).trans c5⟩⟩
theorem SixAt.at {w W : World} {B : Nat} {ad : Addr} {i : Nat} {x : PV} (h : SixAt w B ad i x) (hW : Below B w W) (hB : B ≤ W.heap.size) : ∀ V, Below W.heap.size W V → V.cell? (ad.add (i * 6)) = some (.int .i64 x.p.dev) ∧ V.cell? ⟨(ad.add (i * 6)).block, (ad.add (i * 6)).off + 1, none⟩ = some (.int .i64 x.p.chan) ∧ V.cell? ⟨(ad.add (i * 6)).block, (ad.add (i * 6)).off + 2, none⟩ = some (.int .i64 x.p.boot) ∧
    V.cell? ⟨(ad.add (i * 6)).block, (ad.add (i * 6)).off + 3, none⟩ = some (.int .i64 x.p.seq) ∧ V.cell? ⟨(ad.add (i * 6)).block, (ad.add (i * 6)).off + 4, none⟩ = some (.int .i64 x.p.stamp) ∧ V.cell? ⟨(ad.add (i * 6)).block, (ad.add (i * 6)).off + 5, none⟩ = some (.slice x.A x.p.vals.length x.c) := fun V hV => h V (hW.trans (hV.mono hB))
set_option maxRecDepth 100000 in
set_option maxHeartbeats 8000000 in
theorem sameAll_any (va vb : Value) (l m : List PV) (w : World) (h0 : PRow w va l) (h1 : PRow w vb m) :
    Calls Try.prog 11 #[va, vb] w fun e w' => e = .returned (.bool (decide (l.map PV.p = m.map PV.p))) ∧ Below w.heap.size w w' := by
  obtain ⟨A, c, rfl⟩ := h0.1
  obtain ⟨B, d, rfl⟩ := h1.1
  have hc := h0.2.1.caps
  have hd := h1.2.1.caps
  unfold maxLen at hc hd
  have HL := Lib.hid h0
  have HM := Lib.hid h1
  clear h0 h1
  obtain ⟨r, hr⟩ : ∃ r, r = decide (l.map PV.p = m.map PV.p) := ⟨_, rfl⟩
  rw [← hr]
  have HR := Lib.hid hr
  clear hr
  by_cases hlm : l.length = m.length
  · have g1 : ((l.length : Int) != (m.length : Int)) = false := by simp; omega
    have g2 : (l.length != m.length) = false := by simp; omega
    have HLM := Lib.hid hlm
    have hle : l.length ≤ m.length ∧ m.length ≤ l.length := by omega
    clear hlm
    go_enter Try.func11, Try.ntmps11
    go_wp2_with fail
    go_loopw [5] (fun i wr => ∃ k : Nat, k ≤ l.length ∧ i = .int .i64 k ∧ Below w.heap.size w wr ∧ (l.map PV.p).take k = (m.map PV.p).take k) (fun i _ => l.length - (intOf i).toNat)
    case atStart => exact ⟨0, by omega, rfl, Below.refl _ _, by simp⟩
    case round =>
      obtain ⟨k, hk, rfl, hb, ht⟩ := hrel
      have HB := Lib.hid hb
      have HTk := Lib.hid ht
      have hbs := hb.size
      clear hb ht
      by_cases hlt : k < l.length
      · obtain ⟨x, hx⟩ : ∃ x, l[k]? = some x := ⟨_, List.getElem?_eq_getElem hlt⟩
        obtain ⟨y, hy⟩ : ∃ y, m[k]? = some y := ⟨_, List.getElem?_eq_getElem (by omega)⟩
        have HX := Lib.hid hx
        have HY := Lib.hid hy
        obtain ⟨ad, rfl, _, hsx⟩ := HL.out.six hx
        obtain ⟨be, rfl, _, hsy⟩ := HM.out.six hy
        have hkl : (k : Int) < (l.length : Int) := by omega
        have hkm : (k : Int) < (m.length : Int) := by omega
        have HSX := Lib.hid hsx
        have HSY := Lib.hid hsy
        clear hx hy hsx hsy
        go_wp2_with fail
        have Sp := HSX.out.at HB.out hbs
        have p0 := fun V hV => (Sp V hV).1
        have p1 := fun V hV => (Sp V hV).2.1
        have p2 := fun V hV => (Sp V hV).2.2.1
        have p3 := fun V hV => (Sp V hV).2.2.2.1
        have p4 := fun V hV => (Sp V hV).2.2.2.2.1
        have p5 := fun V hV => (Sp V hV).2.2.2.2.2
        clear Sp
        have Sq := HSY.out.at HB.out hbs
        have q0 := fun V hV => (Sq V hV).1
        have q1 := fun V hV => (Sq V hV).2.1
        have q2 := fun V hV => (Sq V hV).2.2.1
        have q3 := fun V hV => (Sq V hV).2.2.2.1
        have q4 := fun V hV => (Sq V hV).2.2.2.2.1
        have q5 := fun V hV => (Sq V hV).2.2.2.2.2
        clear Sq
        refine wp_region_held_drew (S := fun w' => Below wr.heap.size wr w') (by kernel_rfl) (by exact (Below.refl _ _).drew) (fun hHeld => ?_)
        refine takeD 0 (some 17) (v := ?_) rfl rfl (by kernel_rfl) (by kernel_rfl) (by kernel_rfl) (fun _ _ _ h => h) (by rfl) ?_ (by assumption) ?_
        rotate_left
        · intro w hSw
          (try dsimp only at hSw)
          go_simp
          try with_reducible rfl
        try simp only [Act.put, List.setIfInBounds_toArray, List.set_cons_zero, List.set_cons_succ]
        refine takeD 1 (some 18) (v := ?_) rfl rfl (by kernel_rfl) (by kernel_rfl) (by kernel_rfl) (fun _ _ _ h => h) (by rfl) ?_ (by assumption) ?_
        rotate_left
        · intro w hSw
          (try dsimp only at hSw)
          go_simp
          try with_reducible rfl
        try simp only [Act.put, List.setIfInBounds_toArray, List.set_cons_zero, List.set_cons_succ]
        refine takeD 2 (some 19) (v := ?_) rfl rfl (by kernel_rfl) (by kernel_rfl) (by kernel_rfl) (fun _ _ _ h => h) (by rfl) ?_ (by assumption) ?_
        rotate_left
        · intro w hSw
          (try dsimp only at hSw)
          go_simp
          try with_reducible rfl
        try simp only [Act.put, List.setIfInBounds_toArray, List.set_cons_zero, List.set_cons_succ]
        refine takeD 3 (some 20) (v := ?_) rfl rfl (by kernel_rfl) (by kernel_rfl) (by kernel_rfl) (fun _ _ _ h => h) (by rfl) ?_ (by assumption) ?_
        rotate_left
        · intro w hSw
          (try dsimp only at hSw)
          go_simp
          try with_reducible rfl
        try simp only [Act.put, List.setIfInBounds_toArray, List.set_cons_zero, List.set_cons_succ]
        refine takeD 4 (some 21) (v := ?_) rfl rfl (by kernel_rfl) (by kernel_rfl) (by kernel_rfl) (fun _ _ _ h => h) (by rfl) ?_ (by assumption) ?_
        rotate_left
        · intro w hSw
          (try dsimp only at hSw)
          go_simp
          try with_reducible rfl
        try simp only [Act.put, List.setIfInBounds_toArray, List.set_cons_zero, List.set_cons_succ]
        refine takeD 5 (some 22) (v := ?_) rfl rfl (by kernel_rfl) (by kernel_rfl) (by kernel_rfl) (fun _ _ _ h => h) (by rfl) ?_ (by assumption) ?_
        rotate_left
        · intro w hSw
          (try dsimp only at hSw)
          go_simp
          try with_reducible rfl
        try simp only [Act.put, List.setIfInBounds_toArray, List.set_cons_zero, List.set_cons_succ]
        refine takeD 6 (some 23) (v := ?_) rfl rfl (by kernel_rfl) (by kernel_rfl) (by kernel_rfl) (fun _ _ _ h => h) (by rfl) ?_ (by assumption) ?_
        rotate_left
        · intro w hSw
          (try dsimp only at hSw)
          go_simp
          try with_reducible rfl
        try simp only [Act.put, List.setIfInBounds_toArray, List.set_cons_zero, List.set_cons_succ]
        refine takeD 7 (some 24) (v := ?_) rfl rfl (by kernel_rfl) (by kernel_rfl) (by kernel_rfl) (fun _ _ _ h => h) (by rfl) ?_ (by assumption) ?_
        rotate_left
        · intro w hSw
          (try dsimp only at hSw)
          go_simp
          try with_reducible rfl
        try simp only [Act.put, List.setIfInBounds_toArray, List.set_cons_zero, List.set_cons_succ]
        refine wpAnyH_ready (rs := [8]) (by kernel_rfl) (by simp) ?_
        refine AllReadyH.cons rfl (fun K hK => ?_) AllReadyH.nil
        rw [if_pos (by rfl)]
        go_simp
        go_at_call 16
        refine (same_pk (.agg #[.int .i64 x.p.dev, .int .i64 x.p.chan, .int .i64 x.p.boot, .int .i64 x.p.seq, .int .i64 x.p.stamp, .slice x.A x.p.vals.length x.c]) (.agg #[.int .i64 y.p.dev, .int .i64 y.p.chan, .int .i64 y.p.boot, .int .i64 y.p.seq, .int .i64 y.p.stamp, .slice y.A y.p.vals.length y.c]) x.p y.p _ ⟨x.vs, rfl, (HL.out.2.2 x (List.mem_of_getElem? HX.out)).below (HB.out.trans (hHeld.mono hbs))⟩ ⟨y.vs, rfl, (HM.out.2.2 y (List.mem_of_getElem? HY.out)).below (HB.out.trans (hHeld.mono hbs))⟩).mono ?_
        rintro e V1 ⟨rfl, hk⟩
        go_wp2_with fail
        refine hK.out _ _ ?_ (fun hHeld2 => ?_)
        · first | exact hHeld.trans (hk.mono hHeld.size) | (clear hK; have hz := hHeld.size; exact (Below.refl _ _).drew)
        clear hK K hHeld
        have hHeld := hHeld2
        clear hHeld2
        try clear hk
        try simp only [Act.put, List.setIfInBounds_toArray, List.set_cons_zero, List.set_cons_succ]
        refine takeD 9 (some 26) (v := ?_) rfl rfl (by kernel_rfl) (by kernel_rfl) (by kernel_rfl) (fun _ _ _ h => h) (by rfl) ?_ (by assumption) ?_
        rotate_left
        · intro w hSw
          (try dsimp only at hSw)
          go_simp
          try with_reducible rfl
        try simp only [Act.put, List.setIfInBounds_toArray, List.set_cons_zero, List.set_cons_succ]
        refine wpAnyH_done (by kernel_rfl) ?_ _
        have HF := Lib.hid hHeld
        clear hHeld p0 p1 p2 p3 p4 p5 q0 q1 q2 q3 q4 q5
        by_cases he : x.p = y.p
        · rw [decide_eq_true he]
          have HE := Lib.hid he
          clear he
          go_wp2
          go_roundw
          case rel => exact ⟨k + 1, by omega, by go_num, Btrans HB.out HF.out, by rw [List.take_add_one, List.take_add_one, HTk.out, List.getElem?_map, List.getElem?_map, HX.out, HY.out]; simp [HE.out]⟩
          case measure => simp [intOf]; omega
        · rw [decide_eq_false he]
          have HE := Lib.hid he
          clear he
          have hrf : r = false := by
            rw [HR.out]
            refine decide_eq_false fun h => HE.out ?_
            have h1 : (l.map PV.p)[k]? = (m.map PV.p)[k]? := by rw [h]
            rw [List.getElem?_map, List.getElem?_map, HX.out, HY.out] at h1
            simpa using h1
          have HRF := Lib.hid hrf
          clear hrf
          go_wp2
          go_ret
          exact ⟨by simp [HRF.out], Btrans HB.out HF.out⟩
      · obtain rfl : k = l.length := by omega
        have hrt : r = true := by
          rw [HR.out]
          refine decide_eq_true ?_
          have := HTk.out
          rwa [List.take_of_length_le (by simp), List.take_of_length_le (by simp [HLM.out])] at this
        have HRF := Lib.hid hrt
        clear hrt
        go_wp2
        go_ret
        exact ⟨by simp [HRF.out], HB.out⟩
  · have g1 : ((l.length : Int) != (m.length : Int)) = true := by simp; omega
    have g2 : (l.length != m.length) = true := by simp; omega
    have hrf : r = false := by
      rw [HR.out]
      refine decide_eq_false fun h => hlm ?_
      have := congrArg List.length h
      simpa using this
    have HRF := Lib.hid hrf
    clear hrf hlm
    go_enter Try.func11, Try.ntmps11
    go_wp2
    go_ret
    exact ⟨by simp [HRF.out], Below.refl _ _⟩
set_option maxRecDepth 100000 in
set_option maxHeartbeats 8000000 in
theorem has_any (va vp : Value) (l : List PV) (p : Pk) (w : World) (h0 : PRow w va l) (h1 : PkV w vp p) :
    Calls Try.prog 14 #[va, vp] w fun e w' => e = .returned (.bool (decide (p ∈ l.map PV.p))) ∧ Below w.heap.size w w' := by
  obtain ⟨A, c, rfl⟩ := h0.1
  have hc := h0.2.1.caps
  unfold maxLen at hc
  have HL := Lib.hid h0
  have HP := Lib.hid h1
  obtain ⟨vs, rfl, hI⟩ := h1
  obtain ⟨VA, vc, rfl⟩ := hI.shapeI
  clear h0 hI
  obtain ⟨r, hr⟩ : ∃ r, r = decide (p ∈ l.map PV.p) := ⟨_, rfl⟩
  rw [← hr]
  have HR := Lib.hid hr
  clear hr
  go_enter Try.func14, Try.ntmps14
  go_wp2_with fail
  go_loopw [5] (fun i wr => ∃ k : Nat, k ≤ l.length ∧ i = .int .i64 k ∧ Below w.heap.size w wr ∧ Blk wr w.heap.size 31 #[.int .i64 p.dev, .int .i64 p.chan, .int .i64 p.boot, .int .i64 p.seq, .int .i64 p.stamp, .slice VA p.vals.length vc] ∧ p ∉ (l.map PV.p).take k) (fun i _ => l.length - (intOf i).toNat)
  case atStart => exact ⟨0, by omega, rfl, by go_grown, Blk.new _ _ _ _ rfl, by simp⟩
  case round =>
    obtain ⟨k, hk, rfl, hb, hq, ht⟩ := hrel
    have HB := Lib.hid hb
    have HQ := Lib.hid hq
    have HTk := Lib.hid ht
    have hbs := hb.size
    have lq := hq.lt
    clear hb hq ht
    by_cases hlt : k < l.length
    · obtain ⟨x, hx⟩ : ∃ x, l[k]? = some x := ⟨_, List.getElem?_eq_getElem hlt⟩
      have HX := Lib.hid hx
      obtain ⟨ad, rfl, _, hsx⟩ := HL.out.six hx
      have hkl : (k : Int) < (l.length : Int) := by omega
      have HSX := Lib.hid hsx
      clear hx hsx
      go_wp2_with fail
      have e1 : ∀ W, Below wr.heap.size wr W → ∀ i, W.cell? ⟨w.heap.size, i, none⟩ = (#[.int .i64 p.dev, .int .i64 p.chan, .int .i64 p.boot, .int .i64 p.seq, .int .i64 p.stamp, .slice VA p.vals.length vc] : Array Value)[i]? := fun W h => (HQ.out.below h).cells
      have Sp := HSX.out.at HB.out hbs
      have p0 := fun V hV => (Sp V hV).1
      have p1 := fun V hV => (Sp V hV).2.1
      have p2 := fun V hV => (Sp V hV).2.2.1
      have p3 := fun V hV => (Sp V hV).2.2.2.1
      have p4 := fun V hV => (Sp V hV).2.2.2.2.1
      have p5 := fun V hV => (Sp V hV).2.2.2.2.2
      clear Sp
      refine wp_region_held_drew (S := fun w' => Below wr.heap.size wr w') (by kernel_rfl) (by exact (Below.refl _ _).drew) (fun hHeld => ?_)
      refine takeD 0 (some 12) (v := ?_) rfl rfl (by kernel_rfl) (by kernel_rfl) (by kernel_rfl) (fun _ _ _ h => h) (by rfl) ?_ (by assumption) ?_
      rotate_left
      · intro w hSw
        (try dsimp only at hSw)
        go_simp
        try with_reducible rfl
      try simp only [Act.put, List.setIfInBounds_toArray, List.set_cons_zero, List.set_cons_succ]
      refine takeD 1 (some 13) (v := ?_) rfl rfl (by kernel_rfl) (by kernel_rfl) (by kernel_rfl) (fun _ _ _ h => h) (by rfl) ?_ (by assumption) ?_
      rotate_left
      · intro w hSw
        (try dsimp only at hSw)
        go_simp
        try with_reducible rfl
      try simp only [Act.put, List.setIfInBounds_toArray, List.set_cons_zero, List.set_cons_succ]
      refine takeD 2 (some 14) (v := ?_) rfl rfl (by kernel_rfl) (by kernel_rfl) (by kernel_rfl) (fun _ _ _ h => h) (by rfl) ?_ (by assumption) ?_
      rotate_left
      · intro w hSw
        (try dsimp only at hSw)
        go_simp
        try with_reducible rfl
      try simp only [Act.put, List.setIfInBounds_toArray, List.set_cons_zero, List.set_cons_succ]
      refine takeD 3 (some 15) (v := ?_) rfl rfl (by kernel_rfl) (by kernel_rfl) (by kernel_rfl) (fun _ _ _ h => h) (by rfl) ?_ (by assumption) ?_
      rotate_left
      · intro w hSw
        (try dsimp only at hSw)
        go_simp
        try with_reducible rfl
      try simp only [Act.put, List.setIfInBounds_toArray, List.set_cons_zero, List.set_cons_succ]
      refine takeD 4 (some 16) (v := ?_) rfl rfl (by kernel_rfl) (by kernel_rfl) (by kernel_rfl) (fun _ _ _ h => h) (by rfl) ?_ (by assumption) ?_
      rotate_left
      · intro w hSw
        (try dsimp only at hSw)
        go_simp
        try with_reducible rfl
      try simp only [Act.put, List.setIfInBounds_toArray, List.set_cons_zero, List.set_cons_succ]
      refine wpAnyH_ready (rs := [5]) (by kernel_rfl) (by simp) ?_
      refine AllReadyH.cons rfl (fun K hK => ?_) AllReadyH.nil
      rw [if_pos (by rfl)]
      go_simp
      go_at_call 16
      refine (same_pk (.agg #[.int .i64 x.p.dev, .int .i64 x.p.chan, .int .i64 x.p.boot, .int .i64 x.p.seq, .int .i64 x.p.stamp, .slice x.A x.p.vals.length x.c]) _ x.p p _ ⟨x.vs, rfl, (HL.out.2.2 x (List.mem_of_getElem? HX.out)).below (HB.out.trans (hHeld.mono hbs))⟩ (HP.out.below (HB.out.trans (hHeld.mono hbs)))).mono ?_
      rintro e V1 ⟨rfl, hk⟩
      go_wp2_with fail
      refine hK.out _ _ ?_ (fun hHeld2 => ?_)
      · first | exact hHeld.trans (hk.mono hHeld.size) | (clear hK; have hz := hHeld.size; exact (Below.refl _ _).drew)
      clear hK K hHeld
      have hHeld := hHeld2
      clear hHeld2
      try clear hk
      try simp only [Act.put, List.setIfInBounds_toArray, List.set_cons_zero, List.set_cons_succ]
      refine wpAnyH_done (by kernel_rfl) ?_ _
      have HF := Lib.hid hHeld
      clear hHeld p0 p1 p2 p3 p4 p5 e1
      by_cases he : x.p = p
      · rw [decide_eq_true he]
        have HE := Lib.hid he
        clear he
        have hrt : r = true := by
          rw [HR.out]
          refine decide_eq_true ?_
          rw [← HE.out]
          exact List.mem_map.2 ⟨x, List.mem_of_getElem? HX.out, rfl⟩
        have HRF := Lib.hid hrt
        clear hrt
        go_wp2
        go_ret
        exact ⟨by simp [HRF.out], Btrans HB.out HF.out⟩
      · rw [decide_eq_false he]
        have HE := Lib.hid he
        clear he
        go_wp2
        go_roundw
        case rel => exact ⟨k + 1, by omega, by go_num, Btrans HB.out HF.out, HQ.out.below HF.out, by
          rw [List.take_add_one, List.getElem?_map, HX.out]
          intro hm
          rcases List.mem_append.1 hm with h | h
          · exact HTk.out h
          · simp at h
            exact HE.out h.symm⟩
        case measure => simp [intOf]; omega
    · obtain rfl : k = l.length := by omega
      have hrf : r = false := by
        rw [HR.out]
        refine decide_eq_false ?_
        have := HTk.out
        rwa [List.take_of_length_le (by simp)] at this
      have HRF := Lib.hid hrf
      clear hrf
      go_wp2
      go_ret
      exact ⟨by simp [HRF.out], HB.out⟩
end Go.Proofs.Ytgklbmhihfmagaa
