/- Layer 4: the text's packet of bytes. -/
import Derived.Test.YtnimialdccbdfaaPackR
namespace Go.Proofs.Ytnimialdccbdfaa
open Go.ChangeShapes Go.WideShapes Go.ChangeAt Go.RowKit
set_option linter.unusedVariables false
set_option linter.unusedSimpArgs false

theorem addk (a : Addr) (k : Nat) (h : 0 < k) : a.add k = ⟨a.block, a.off + k, none⟩ := by
  unfold Addr.add
  split
  · omega
  · rfl
theorem add0 (a : Addr) : a.add 0 = a := by
  unfold Addr.add
  split <;> simp_all
set_option maxRecDepth 100000 in
set_option maxHeartbeats 1000000 in
theorem runpack_ok (v : Value) (bs : List Int) (w : World) (h : Bytes w v bs) (h1 : 12 ≤ bs.length) (h2 : bs.length ≤ 26) (h3 : bs.length % 2 = 0) :
    Calls Try.prog 13 #[v] w fun e w' => ∃ u, e = .returned (.tuple #[u, .int .i64 0]) ∧ PkV w' u (ofB bs) ∧ Below w.heap.size w w' := by
  have H := Lib.hid h
  obtain ⟨⟨A, c, rfl, hc, hcm, hA⟩, hr⟩ := h
  rw [List.length_map] at hc H hA ⊢
  obtain ⟨ad, rfl, had, hcell⟩ : ∃ ad, A = some ad ∧ ad.block < w.heap.size ∧ ∀ i x, (List.map (Value.int .u8) bs)[i]? = some x → w.cell? (ad.add i) = some x := by
    rcases hA with ⟨_, h0⟩ | ⟨ad, e1, e2, e3⟩
    · omega
    · exact ⟨ad, e1, e2 (by omega), e3⟩
  have hget : ∀ i, i < bs.length → w.cell? (ad.add i) = some (.int .u8 (bs.getD i 0)) := fun i hi => hcell i _ (by rw [List.getElem?_map, List.getD_eq_getElem?_getD, List.getElem?_eq_getElem hi]; rfl)
  have hr0 : ∀ i, i < bs.length → 0 ≤ bs.getD i 0 ∧ bs.getD i 0 ≤ 255 := fun i hi => hr _ (by rw [List.getD_eq_getElem?_getD, List.getElem?_eq_getElem hi]; exact List.getElem_mem hi)
  have g0 := hget 0 (by omega)
  have g1 := hget 1 (by omega)
  have g2 := hget 2 (by omega)
  have r0 := hr0 0 (by omega)
  have r1 := hr0 1 (by omega)
  have r2 := hr0 2 (by omega)
  rw [Go.Proofs.Ytnimialdccbdfaa.add0] at g0
  obtain ⟨y0, hy0⟩ : ∃ y, y = bs.getD 0 0 := ⟨_, rfl⟩
  obtain ⟨y1, hy1⟩ : ∃ y, y = bs.getD 1 0 := ⟨_, rfl⟩
  obtain ⟨y2, hy2⟩ : ∃ y, y = bs.getD 2 0 := ⟨_, rfl⟩
  rw [← hy0] at g0 r0
  rw [← hy1] at g1 r1
  rw [← hy2] at g2 r2
  have HY0 := Lib.hid hy0
  have HY1 := Lib.hid hy1
  have HY2 := Lib.hid hy2
  have wr0 : IntKind.i64.wrap y0 = y0 := IntWalk.i64_in _ (by omega)
  have wr1 : IntKind.i64.wrap y1 = y1 := IntWalk.i64_in _ (by omega)
  have wr2 : IntKind.i64.wrap y2 = y2 := IntWalk.i64_in _ (by omega)
  clear hget hr0 hcell hA hy0 hy1 hy2
  unfold maxLen at hcm
  obtain ⟨N, hN⟩ : ∃ N : Nat, bs.length = 10 + 2 * N := ⟨(bs.length - 10) / 2, by omega⟩
  have HN := Lib.hid hN
  clear hN
  have hrem : ((bs.length : Nat) : Int) % 2 = 0 := by omega
  have k1 : decide (((bs.length : Nat) : Int) < 12) = false := decide_eq_false (by omega)
  have k2 : decide (((bs.length : Nat) : Int) > 26) = false := decide_eq_false (by omega)
  go_enter Try.func13, Try.ntmps13
  go_wp2_with fail
  refine wp_world (fun W => Below w.heap.size w W ∧ Blk W w.heap.size 24 #[.int .i64 0, .int .i64 0, .int .i64 0, .int .i64 0, .int .i64 0, .slice none 0 0]) ⟨by go_grown, Blk.new _ _ _ _ rfl⟩ fun W ⟨hbW, hRW⟩ => ?_
  have HRW := Lib.hid hRW
  have lRW := hRW.lt
  clear hRW
  have dB0 : ∀ w', Below W.heap.size W w' → w'.cell? ad = some (.int .u8 y0) := fun w' hb => by rw [(hbW.trans (hb.mono hbW.size)).cell had]; exact g0
  have dB1 : ∀ w', Below W.heap.size W w' → w'.cell? ⟨ad.block, ad.off + 1, none⟩ = some (.int .u8 y1) := fun w' hb => by rw [← addk ad 1 (by decide)]; rw [(hbW.trans (hb.mono hbW.size)).cell (by rw [block_add]; exact had)]; exact g1
  have dB2 : ∀ w', Below W.heap.size W w' → w'.cell? ⟨ad.block, ad.off + 2, none⟩ = some (.int .u8 y2) := fun w' hb => by rw [← addk ad 2 (by decide)]; rw [(hbW.trans (hb.mono hbW.size)).cell (by rw [block_add]; exact had)]; exact g2
  have q0 : 0 < bs.length := by omega
  have q1 : (1 : Int) < (bs.length : Int) := by omega
  have q2 : (2 : Int) < (bs.length : Int) := by omega
  go_wp2_with fail
  refine wp_region_held_drew (S := fun w' => Below W.heap.size W w') (by kernel_rfl) (by go_grown) (fun hHeld => ?_)
  refine takeD 0 (some 21) (v := ?_) rfl rfl (by kernel_rfl) (by kernel_rfl) (by kernel_rfl) (fun _ _ _ h => h) (by rfl) ?_ (by assumption) ?_
  rotate_left
  · intro w hSw
    (try dsimp only at hSw)
    go_simp
    try with_reducible rfl
  try simp only [Act.put, List.setIfInBounds_toArray, List.set_cons_zero, List.set_cons_succ]
  refine takeD 1 (some 22) (v := ?_) rfl rfl (by kernel_rfl) (by kernel_rfl) (by kernel_rfl) (fun _ _ _ h => h) (by rfl) ?_ (by assumption) ?_
  rotate_left
  · intro w hSw
    (try dsimp only at hSw)
    go_simp
    try with_reducible rfl
  try simp only [Act.put, List.setIfInBounds_toArray, List.set_cons_zero, List.set_cons_succ]
  refine takeD 2 (some 23) (v := ?_) rfl rfl (by kernel_rfl) (by kernel_rfl) (by kernel_rfl) (fun _ _ _ h => h) (by rfl) ?_ (by assumption) ?_
  rotate_left
  · intro w hSw
    (try dsimp only at hSw)
    go_simp
    try with_reducible rfl
  try simp only [Act.put, List.setIfInBounds_toArray, List.set_cons_zero, List.set_cons_succ]
  refine takeD 3 (some 24) (v := ?_) rfl rfl (by kernel_rfl) (by kernel_rfl) (by kernel_rfl) (fun _ _ _ h => h) (by rfl) ?_ (by assumption) ?_
  rotate_left
  · intro w hSw
    (try dsimp only at hSw)
    go_simp
    try with_reducible rfl
  try simp only [Act.put, List.setIfInBounds_toArray, List.set_cons_zero, List.set_cons_succ]
  refine takeD 4 (some 25) (v := ?_) rfl rfl (by kernel_rfl) (by kernel_rfl) (by kernel_rfl) (fun _ _ _ h => h) (by rfl) ?_ (by assumption) ?_
  rotate_left
  · intro w hSw
    (try dsimp only at hSw)
    go_simp
    try with_reducible rfl
  try simp only [Act.put, List.setIfInBounds_toArray, List.set_cons_zero, List.set_cons_succ]
  refine takeD 5 (some 26) (v := ?_) rfl rfl (by kernel_rfl) (by kernel_rfl) (by kernel_rfl) (fun _ _ _ h => h) (by rfl) ?_ (by assumption) ?_
  rotate_left
  · intro w hSw
    (try dsimp only at hSw)
    go_simp
    try with_reducible rfl
  try simp only [Act.put, List.setIfInBounds_toArray, List.set_cons_zero, List.set_cons_succ]
  refine takeD 6 (some 27) (v := ?_) rfl rfl (by kernel_rfl) (by kernel_rfl) (by kernel_rfl) (fun _ _ _ h => h) (by rfl) ?_ (by assumption) ?_
  rotate_left
  · intro w hSw
    (try dsimp only at hSw)
    go_simp
    try with_reducible rfl
  try simp only [Act.put, List.setIfInBounds_toArray, List.set_cons_zero, List.set_cons_succ]
  refine takeD 7 (some 28) (v := ?_) rfl rfl (by kernel_rfl) (by kernel_rfl) (by kernel_rfl) (fun _ _ _ h => h) (by rfl) ?_ (by assumption) ?_
  rotate_left
  · intro w hSw
    (try dsimp only at hSw)
    go_simp
    try with_reducible rfl
  try simp only [Act.put, List.setIfInBounds_toArray, List.set_cons_zero, List.set_cons_succ]
  refine takeD 8 (some 29) (v := ?_) rfl rfl (by kernel_rfl) (by kernel_rfl) (by kernel_rfl) (fun _ _ _ h => h) (by rfl) ?_ (by assumption) ?_
  rotate_left
  · intro w hSw
    (try dsimp only at hSw)
    go_simp
    try with_reducible rfl
  try simp only [Act.put, List.setIfInBounds_toArray, List.set_cons_zero, List.set_cons_succ]
  refine takeD 9 (some 30) (v := ?_) rfl rfl (by kernel_rfl) (by kernel_rfl) (by kernel_rfl) (fun _ _ _ h => h) (by rfl) ?_ (by assumption) ?_
  rotate_left
  · intro w hSw
    (try dsimp only at hSw)
    go_simp
    try with_reducible rfl
  try simp only [Act.put, List.setIfInBounds_toArray, List.set_cons_zero, List.set_cons_succ]
  refine takeD 10 (some 31) (v := ?_) rfl rfl (by kernel_rfl) (by kernel_rfl) (by kernel_rfl) (fun _ _ _ h => h) (by rfl) ?_ (by assumption) ?_
  rotate_left
  · intro w hSw
    (try dsimp only at hSw)
    go_simp
    try with_reducible rfl
  try simp only [Act.put, List.setIfInBounds_toArray, List.set_cons_zero, List.set_cons_succ]
  refine takeD 11 (some 32) (v := ?_) rfl rfl (by kernel_rfl) (by kernel_rfl) (by kernel_rfl) (fun _ _ _ h => h) (by rfl) ?_ (by assumption) ?_
  rotate_left
  · intro w hSw
    (try dsimp only at hSw)
    go_simp
    try with_reducible rfl
  try simp only [Act.put, List.setIfInBounds_toArray, List.set_cons_zero, List.set_cons_succ]
  refine takeD 12 (some 33) (v := ?_) rfl rfl (by kernel_rfl) (by kernel_rfl) (by kernel_rfl) (fun _ _ _ h => h) (by rfl) ?_ (by assumption) ?_
  rotate_left
  · intro w hSw
    (try dsimp only at hSw)
    go_simp
    try with_reducible rfl
  try simp only [Act.put, List.setIfInBounds_toArray, List.set_cons_zero, List.set_cons_succ]
  refine wpAnyH_ready (rs := [13]) (by kernel_rfl) (by simp) ?_
  refine AllReadyH.cons rfl (fun K hK => ?_) AllReadyH.nil
  rw [if_pos (by rfl)]
  go_simp
  refine hK.out _ _ ?_ (fun hHeld2 => ?_)
  · first | exact hHeld.trans (hk.mono hHeld.size) | (clear hK; have hz := hHeld.size; go_grown)
  clear hK K hHeld
  have hHeld := hHeld2
  clear hHeld2
  try clear hk
  try simp only [Act.put, List.setIfInBounds_toArray, List.set_cons_zero, List.set_cons_succ]
  refine wpAnyH_ready (rs := [14]) (by kernel_rfl) (by simp) ?_
  refine AllReadyH.cons rfl (fun K hK => ?_) AllReadyH.nil
  rw [if_pos (by rfl)]
  go_simp
  refine hK.out _ _ ?_ (fun hHeld2 => ?_)
  · first | exact hHeld.trans (hk.mono hHeld.size) | (clear hK; have hz := hHeld.size; go_grown)
  clear hK K hHeld
  have hHeld := hHeld2
  clear hHeld2
  try clear hk
  try simp only [Act.put, List.setIfInBounds_toArray, List.set_cons_zero, List.set_cons_succ]
  refine wpAnyH_done (by kernel_rfl) ?_ _
  go_wp2_with fail
  have lad := had
  refine calls_world (fun W2 => Below w.heap.size w W2 ∧ Blk W2 w.heap.size 24 #[.int .i64 0, .int .i64 0, .int .i64 0, .int .i64 0, .int .i64 0, .slice none 0 0] ∧ Blk W2 W.heap.size 24 #[.int .i64 y0, .int .i64 y1, .int .i64 y2, .int .i64 0, .int .i64 0, .slice none 0 0]) ⟨hbW.trans (hHeld.mono hbW.size), (HRW.out.al _).drw, (Blk.new W _ _ _ rfl).drw⟩ fun W2 ⟨hb2, hR2, hT2⟩ => ?_
  have HR2 := Lib.hid hR2
  have HT2 := Lib.hid hT2
  have e8 := Bytes.sub (H.out.below hb2) 3 2 (c - 3) (by omega) (by omega) (by unfold maxLen; omega)
  rw [addk _ _ (by decide)] at e8
  clear dB0 dB1 dB2 g0 g1 g2 wr0 wr1 wr2 hR2 hT2 hHeld
  refine (rget_yes _ _ _ e8 (by simp; omega) (by simp; omega)).mono ?_
  rintro e w1 ⟨rfl, rfl⟩
  obtain ⟨z3, hz3⟩ : ∃ z, z = num ((bs.drop 3).take 2) := ⟨_, rfl⟩
  rw [← hz3]
  have HZ3 := Lib.hid hz3
  have cT := HT2.out.cells
  have fT := HT2.out.froz
  clear e8 hz3
  go_wp2_with fail
  have hb3 := hb2.setCell (p := ⟨W.heap.size, 3, none⟩) (by show w.heap.size ≤ W.heap.size; omega) (.int .i64 z3)
  have HR3 := Lib.hid (HR2.out.setO (c := W.heap.size) (by omega) 3 (.int .i64 z3))
  have HT3 := Lib.hid (HT2.out.set 3 (.int .i64 z3))
  clear cT fT
  refine calls_world (fun W3 => Below w.heap.size w W3 ∧ Blk W3 w.heap.size 24 #[.int .i64 0, .int .i64 0, .int .i64 0, .int .i64 0, .int .i64 0, .slice none 0 0] ∧ Blk W3 W.heap.size 24 #[.int .i64 y0, .int .i64 y1, .int .i64 y2, .int .i64 z3, .int .i64 0, .slice none 0 0]) ⟨hb3, HR3.out, HT3.out⟩ fun W3 ⟨hb4, hR4, hT4⟩ => ?_
  have HR4 := Lib.hid hR4
  have HT4 := Lib.hid hT4
  have e8 := Bytes.sub (H.out.below hb4) 5 5 (c - 5) (by omega) (by omega) (by unfold maxLen; omega)
  rw [addk _ _ (by decide)] at e8
  clear hR4 hT4 hb3 HR3 HT3 HR2 HT2
  refine (rget_yes _ _ _ e8 (by simp; omega) (by simp; omega)).mono ?_
  rintro e w1 ⟨rfl, rfl⟩
  obtain ⟨z4, hz4⟩ : ∃ z, z = num ((bs.drop 5).take 5) := ⟨_, rfl⟩
  rw [← hz4]
  have HZ4 := Lib.hid hz4
  have cT := HT4.out.cells
  have fT := HT4.out.froz
  clear e8 hz4
  go_wp2_with fail
  have hb5 := Lib.hid (hb4.setCell (p := ⟨W.heap.size, 4, none⟩) (by show w.heap.size ≤ W.heap.size; omega) (.int .i64 z4))
  have HR5 := Lib.hid (HR4.out.setO (c := W.heap.size) (by omega) 4 (.int .i64 z4))
  have HT5 := Lib.hid (show Blk (W3.setCell ⟨W.heap.size, 4, none⟩ (.int .i64 z4)) W.heap.size 24 #[.int .i64 y0, .int .i64 y1, .int .i64 y2, .int .i64 z3, .int .i64 z4, .slice none 0 0] from HT4.out.set 4 (.int .i64 z4))
  clear cT fT HR4 HT4
  go_loopw [5] (fun i wr => ∃ k : Nat, k ≤ N ∧ i = .int .i64 (10 + 2 * (k : Int)) ∧ Below w.heap.size w wr ∧ Blk wr w.heap.size 24 #[.int .i64 0, .int .i64 0, .int .i64 0, .int .i64 0, .int .i64 0, .slice none 0 0] ∧ ∃ VA vc, Blk wr W.heap.size 24 #[.int .i64 y0, .int .i64 y1, .int .i64 y2, .int .i64 z3, .int .i64 z4, .slice VA k vc] ∧ wr.ownsRow (W.heap.size + 1) 3 1 (.slice VA k vc) k ((valsOf ((bs.drop 10).take (2 * k))).map (.int .i64))) (fun i _ => bs.length - (intOf i).toNat)
  case atStart => exact ⟨0, by omega, rfl, hb5.out, HR5.out, none, 0, HT5.out, own_nil _ _⟩
  case round =>
    obtain ⟨k, hk, rfl, hb, hR, VA, vc, hT, hV⟩ := hrel
    have HRr := Lib.hid hR
    have HTr := Lib.hid hT
    have HVr := Lib.hid hV
    have lT := hT.lt
    have lR := hR.lt
    have cT := hT.cells
    have fT := hT.froz
    have cR := hR.cells
    have fR := hR.froz
    clear hb5 HR5 HT5 hT hV hR
    by_cases hlt : k < N
    · have hN2 := HN.out
      have g3 : (10 + 2 * (k : Int)) < (bs.length : Int) := by omega
      have g4 : (10 + 2 * (k : Int) + 2) ≤ (bs.length : Int) := by omega
      have hkl : (k : Int) ≤ 8 := by omega
      clear hN2 cR fR
      go_wp2_with fail
      have e8 := Bytes.sub (H.out.below hb) (10 + 2 * k) 2 (c - (10 + 2 * k)) (by omega) (by omega) (by unfold maxLen; omega)
      refine (rget_yes _ _ _ e8 (by simp; omega) (by simp; omega)).mono ?_
      rintro e w1 ⟨rfl, rfl⟩
      obtain ⟨x, hx⟩ : ∃ x, x = sgn (num ((bs.drop (10 + 2 * k)).take 2)) := ⟨_, rfl⟩
      have HX := Lib.hid (show valsOf ((bs.drop 10).take (2 * (k + 1))) = valsOf ((bs.drop 10).take (2 * k)) ++ [x] by
        rw [valsOf_step k (bs.drop 10) (by rw [List.length_drop]; have := HN.out; omega), List.drop_drop, hx])
      have hsg : sgn (num ((bs.drop (10 + 2 * k)).take 2)) = x := hx.symm
      clear e8 hx
      go_wp2_with fail
      refine wp_region_held_drew (S := fun w' => Below w.heap.size w w') (by kernel_rfl) (hb.drew) (fun hHeld => ?_)
      refine takeD 0 (some 63) (v := ?_) rfl rfl (by kernel_rfl) (by kernel_rfl) (by kernel_rfl) (fun _ _ _ h => h) (by rfl) ?_ (by assumption) ?_
      rotate_left
      · intro w hSw
        (try dsimp only at hSw)
        go_simp
        try with_reducible rfl
      try simp only [Act.put, List.setIfInBounds_toArray, List.set_cons_zero, List.set_cons_succ]
      refine takeD 2 (some 65) (v := ?_) rfl rfl (by kernel_rfl) (by kernel_rfl) (by kernel_rfl) (fun _ _ _ h => h) (by rfl) ?_ (by assumption) ?_
      rotate_left
      · intro w hSw
        (try dsimp only at hSw)
        go_simp
        try with_reducible rfl
      try simp only [Act.put, List.setIfInBounds_toArray, List.set_cons_zero, List.set_cons_succ]
      refine wpAnyH_ready (rs := [1, 3]) (by kernel_rfl) (by simp) ?_
      refine AllReadyH.cons rfl (fun K hK => ?_) (AllReadyH.cons rfl (fun K hK => ?_) AllReadyH.nil)
      · rw [if_pos (by rfl)]
        go_simp
        refine hK.out _ _ ?_ (fun hHeld2 => ?_)
        · first | exact hHeld | (clear hK; exact hHeld)
        clear hK K hHeld
        have hHeld := hHeld2
        clear hHeld2
        try simp only [Act.put, List.setIfInBounds_toArray, List.set_cons_zero, List.set_cons_succ]
        refine wpAnyH_ready (rs := [3]) (by kernel_rfl) (by simp) ?_
        refine AllReadyH.cons rfl (fun K hK => ?_) AllReadyH.nil
        rw [if_pos (by rfl)]
        go_simp
        go_at_call 27
        refine (rsign_any _ _).mono ?_
        rintro e w1 ⟨rfl, rfl⟩
        rw [hsg]
        go_wp2_with fail
        refine hK.out _ _ ?_ (fun hHeld2 => ?_)
        · first | exact hHeld | (clear hK; exact hHeld)
        clear hK K hHeld
        have hHeld := hHeld2
        clear hHeld2
        try simp only [Act.put, List.setIfInBounds_toArray, List.set_cons_zero, List.set_cons_succ]
        refine wpAnyH_ready (rs := [4]) (by kernel_rfl) (by simp) ?_
        refine AllReadyH.cons rfl (fun K hK => ?_) AllReadyH.nil
        rw [if_pos (by rfl)]
        go_simp
        refine hK.out _ _ ?_ (fun hHeld2 => ?_)
        · clear hK; exact hHeld.alloc (by have := hHeld.size; omega) _
        clear hK K hHeld
        have hHeld := hHeld2
        clear hHeld2
        try simp only [Act.put, List.setIfInBounds_toArray, List.set_cons_zero, List.set_cons_succ]
        refine wpAnyH_ready (rs := [5]) (by kernel_rfl) (by simp) ?_
        refine AllReadyH.cons rfl (fun K hK => ?_) AllReadyH.nil
        rw [if_pos (by rfl)]
        refine wp_app el64 (.tmp 64) (.tmp 67) rfl (W.heap.size + 1) _ _ _ rfl (HVr.out.drew.alloc _) _ [.int .i64 x] rfl (Row.of_block (heap_at _ _ _ (by simp)) rfl rfl (Nat.le_refl _) (by decide)) (by simp [Value.oneCell']) (by unfold maxLen; simp; omega) (by simp; omega) (by have := hb.size; simp; omega) ?_
        intro v2 w2 hO2 hg2 _
        have hk2 : Below (W.heap.size + 1) (wr.drew.alloc (.cells #[.int .i64 x] 3)) w2 := below_app (Below.refl _ _) (by have := lT; simp; omega) (HVr.out.drew.alloc _) hg2 (Nat.le_refl _)
        have hT2 := ((HTr.out.drw).al (.cells #[.int .i64 x] 3)).keep hk2 (by omega)
        have hR2 := ((HRr.out.drw).al (.cells #[.int .i64 x] 3)).keep hk2 (by omega)
        obtain ⟨VA2, vc2, hv2⟩ := own_shape hO2
        subst hv2
        have cT2 := hT2.cells
        have fT2 := hT2.froz
        refine hK.out _ _ ?_ (fun hHeld2 => ?_)
        · clear hK; exact hHeld.trans (hk2.mono (by omega))
        clear hK K hHeld
        have hHeld := hHeld2
        clear hHeld2
        try simp only [Act.put, List.setIfInBounds_toArray, List.set_cons_zero, List.set_cons_succ]
        refine takeD 6 (some 69) (v := ?_) rfl rfl (by kernel_rfl) (by kernel_rfl) (by kernel_rfl) (fun _ _ _ h => h) (by rfl) ?_ (by assumption) ?_
        rotate_left
        · intro w hSw
          (try dsimp only at hSw)
          go_simp
          try with_reducible rfl
        try simp only [Act.put, List.setIfInBounds_toArray, List.set_cons_zero, List.set_cons_succ]
        refine wpAnyH_ready (rs := [7]) (by kernel_rfl) (by simp) ?_
        refine AllReadyH.cons rfl (fun K hK => ?_) AllReadyH.nil
        rw [if_pos (by rfl)]
        go_simp
        refine hK.out _ _ ?_ (fun hHeld2 => ?_)
        · clear hK; exact hHeld.setCell (by show w.heap.size ≤ W.heap.size; omega) _
        clear hK K hHeld
        have hHeld := hHeld2
        clear hHeld2
        try simp only [Act.put, List.setIfInBounds_toArray, List.set_cons_zero, List.set_cons_succ]
        refine wpAnyH_done (by kernel_rfl) ?_ _
        have hT3 := hT2.set 5 (.slice VA2 (k + 1) vc2)
        have hR3 := hR2.setO (show w.heap.size ≠ W.heap.size by omega) 5 (.slice VA2 (k + 1) vc2)
        have hO3 := own_setO hO2 (T := W.heap.size) (i := 5) (u := .slice VA2 (k + 1) vc2) (by omega)
        clear cT2 fT2 cT fT
        go_wp2
        go_roundw
        case rel => exact ⟨k + 1, by omega, by go_num, hHeld, hR3, VA2, vc2, hT3, by rw [HX.out, List.map_append]; exact hO3⟩
        case measure => simp [intOf]; omega
      · rw [if_pos (by rfl)]
        go_simp
        go_at_call 27
        refine (rsign_any _ _).mono ?_
        rintro e w1 ⟨rfl, rfl⟩
        rw [hsg]
        go_wp2_with fail
        refine hK.out _ _ ?_ (fun hHeld2 => ?_)
        · first | exact hHeld | (clear hK; exact hHeld)
        clear hK K hHeld
        have hHeld := hHeld2
        clear hHeld2
        try simp only [Act.put, List.setIfInBounds_toArray, List.set_cons_zero, List.set_cons_succ]
        refine wpAnyH_ready (rs := [1, 4]) (by kernel_rfl) (by simp) ?_
        refine AllReadyH.cons rfl (fun K hK => ?_) (AllReadyH.cons rfl (fun K hK => ?_) AllReadyH.nil)
        · rw [if_pos (by rfl)]
          go_simp
          refine hK.out _ _ ?_ (fun hHeld2 => ?_)
          · first | exact hHeld | (clear hK; exact hHeld)
          clear hK K hHeld
          have hHeld := hHeld2
          clear hHeld2
          try simp only [Act.put, List.setIfInBounds_toArray, List.set_cons_zero, List.set_cons_succ]
          refine wpAnyH_ready (rs := [4]) (by kernel_rfl) (by simp) ?_
          refine AllReadyH.cons rfl (fun K hK => ?_) AllReadyH.nil
          rw [if_pos (by rfl)]
          go_simp
          refine hK.out _ _ ?_ (fun hHeld2 => ?_)
          · clear hK; exact hHeld.alloc (by have := hHeld.size; omega) _
          clear hK K hHeld
          have hHeld := hHeld2
          clear hHeld2
          try simp only [Act.put, List.setIfInBounds_toArray, List.set_cons_zero, List.set_cons_succ]
          refine wpAnyH_ready (rs := [5]) (by kernel_rfl) (by simp) ?_
          refine AllReadyH.cons rfl (fun K hK => ?_) AllReadyH.nil
          rw [if_pos (by rfl)]
          refine wp_app el64 (.tmp 64) (.tmp 67) rfl (W.heap.size + 1) _ _ _ rfl (HVr.out.drew.alloc _) _ [.int .i64 x] rfl (Row.of_block (heap_at _ _ _ (by simp)) rfl rfl (Nat.le_refl _) (by decide)) (by simp [Value.oneCell']) (by unfold maxLen; simp; omega) (by simp; omega) (by have := hb.size; simp; omega) ?_
          intro v2 w2 hO2 hg2 _
          have hk2 : Below (W.heap.size + 1) (wr.drew.alloc (.cells #[.int .i64 x] 3)) w2 := below_app (Below.refl _ _) (by have := lT; simp; omega) (HVr.out.drew.alloc _) hg2 (Nat.le_refl _)
          have hT2 := ((HTr.out.drw).al (.cells #[.int .i64 x] 3)).keep hk2 (by omega)
          have hR2 := ((HRr.out.drw).al (.cells #[.int .i64 x] 3)).keep hk2 (by omega)
          obtain ⟨VA2, vc2, hv2⟩ := own_shape hO2
          subst hv2
          have cT2 := hT2.cells
          have fT2 := hT2.froz
          refine hK.out _ _ ?_ (fun hHeld2 => ?_)
          · clear hK; exact hHeld.trans (hk2.mono (by omega))
          clear hK K hHeld
          have hHeld := hHeld2
          clear hHeld2
          try simp only [Act.put, List.setIfInBounds_toArray, List.set_cons_zero, List.set_cons_succ]
          refine takeD 6 (some 69) (v := ?_) rfl rfl (by kernel_rfl) (by kernel_rfl) (by kernel_rfl) (fun _ _ _ h => h) (by rfl) ?_ (by assumption) ?_
          rotate_left
          · intro w hSw
            (try dsimp only at hSw)
            go_simp
            try with_reducible rfl
          try simp only [Act.put, List.setIfInBounds_toArray, List.set_cons_zero, List.set_cons_succ]
          refine wpAnyH_ready (rs := [7]) (by kernel_rfl) (by simp) ?_
          refine AllReadyH.cons rfl (fun K hK => ?_) AllReadyH.nil
          rw [if_pos (by rfl)]
          go_simp
          refine hK.out _ _ ?_ (fun hHeld2 => ?_)
          · clear hK; exact hHeld.setCell (by show w.heap.size ≤ W.heap.size; omega) _
          clear hK K hHeld
          have hHeld := hHeld2
          clear hHeld2
          try simp only [Act.put, List.setIfInBounds_toArray, List.set_cons_zero, List.set_cons_succ]
          refine wpAnyH_done (by kernel_rfl) ?_ _
          have hT3 := hT2.set 5 (.slice VA2 (k + 1) vc2)
          have hR3 := hR2.setO (show w.heap.size ≠ W.heap.size by omega) 5 (.slice VA2 (k + 1) vc2)
          have hO3 := own_setO hO2 (T := W.heap.size) (i := 5) (u := .slice VA2 (k + 1) vc2) (by omega)
          clear cT2 fT2 cT fT
          go_wp2
          go_roundw
          case rel => exact ⟨k + 1, by omega, by go_num, hHeld, hR3, VA2, vc2, hT3, by rw [HX.out, List.map_append]; exact hO3⟩
          case measure => simp [intOf]; omega
        · rw [if_pos (by rfl)]
          go_simp
          refine hK.out _ _ ?_ (fun hHeld2 => ?_)
          · clear hK; exact hHeld.alloc (by have := hHeld.size; omega) _
          clear hK K hHeld
          have hHeld := hHeld2
          clear hHeld2
          try simp only [Act.put, List.setIfInBounds_toArray, List.set_cons_zero, List.set_cons_succ]
          refine wpAnyH_ready (rs := [1]) (by kernel_rfl) (by simp) ?_
          refine AllReadyH.cons rfl (fun K hK => ?_) AllReadyH.nil
          rw [if_pos (by rfl)]
          go_simp
          refine hK.out _ _ ?_ (fun hHeld2 => ?_)
          · first | exact hHeld | (clear hK; exact hHeld)
          clear hK K hHeld
          have hHeld := hHeld2
          clear hHeld2
          try simp only [Act.put, List.setIfInBounds_toArray, List.set_cons_zero, List.set_cons_succ]
          refine wpAnyH_ready (rs := [5]) (by kernel_rfl) (by simp) ?_
          refine AllReadyH.cons rfl (fun K hK => ?_) AllReadyH.nil
          rw [if_pos (by rfl)]
          refine wp_app el64 (.tmp 64) (.tmp 67) rfl (W.heap.size + 1) _ _ _ rfl (HVr.out.drew.alloc _) _ [.int .i64 x] rfl (Row.of_block (heap_at _ _ _ (by simp)) rfl rfl (Nat.le_refl _) (by decide)) (by simp [Value.oneCell']) (by unfold maxLen; simp; omega) (by simp; omega) (by have := hb.size; simp; omega) ?_
          intro v2 w2 hO2 hg2 _
          have hk2 : Below (W.heap.size + 1) (wr.drew.alloc (.cells #[.int .i64 x] 3)) w2 := below_app (Below.refl _ _) (by have := lT; simp; omega) (HVr.out.drew.alloc _) hg2 (Nat.le_refl _)
          have hT2 := ((HTr.out.drw).al (.cells #[.int .i64 x] 3)).keep hk2 (by omega)
          have hR2 := ((HRr.out.drw).al (.cells #[.int .i64 x] 3)).keep hk2 (by omega)
          obtain ⟨VA2, vc2, hv2⟩ := own_shape hO2
          subst hv2
          have cT2 := hT2.cells
          have fT2 := hT2.froz
          refine hK.out _ _ ?_ (fun hHeld2 => ?_)
          · clear hK; exact hHeld.trans (hk2.mono (by omega))
          clear hK K hHeld
          have hHeld := hHeld2
          clear hHeld2
          try simp only [Act.put, List.setIfInBounds_toArray, List.set_cons_zero, List.set_cons_succ]
          refine takeD 6 (some 69) (v := ?_) rfl rfl (by kernel_rfl) (by kernel_rfl) (by kernel_rfl) (fun _ _ _ h => h) (by rfl) ?_ (by assumption) ?_
          rotate_left
          · intro w hSw
            (try dsimp only at hSw)
            go_simp
            try with_reducible rfl
          try simp only [Act.put, List.setIfInBounds_toArray, List.set_cons_zero, List.set_cons_succ]
          refine wpAnyH_ready (rs := [7]) (by kernel_rfl) (by simp) ?_
          refine AllReadyH.cons rfl (fun K hK => ?_) AllReadyH.nil
          rw [if_pos (by rfl)]
          go_simp
          refine hK.out _ _ ?_ (fun hHeld2 => ?_)
          · clear hK; exact hHeld.setCell (by show w.heap.size ≤ W.heap.size; omega) _
          clear hK K hHeld
          have hHeld := hHeld2
          clear hHeld2
          try simp only [Act.put, List.setIfInBounds_toArray, List.set_cons_zero, List.set_cons_succ]
          refine wpAnyH_done (by kernel_rfl) ?_ _
          have hT3 := hT2.set 5 (.slice VA2 (k + 1) vc2)
          have hR3 := hR2.setO (show w.heap.size ≠ W.heap.size by omega) 5 (.slice VA2 (k + 1) vc2)
          have hO3 := own_setO hO2 (T := W.heap.size) (i := 5) (u := .slice VA2 (k + 1) vc2) (by omega)
          clear cT2 fT2 cT fT
          go_wp2
          go_roundw
          case rel => exact ⟨k + 1, by omega, by go_num, hHeld, hR3, VA2, vc2, hT3, by rw [HX.out, List.map_append]; exact hO3⟩
          case measure => simp [intOf]; omega
    · have he : k = N := by omega
      subst he
      have g3 : ¬ ((10 + 2 * (k : Int)) < (bs.length : Int)) := by have := HN.out; omega
      go_wp2_with fail
      have hvs : valsOf ((bs.drop 10).take (2 * k)) = valsOf (bs.drop 10) := valsOf_all _ _ (by rw [List.length_drop]; have := HN.out; omega)
      obtain ⟨X, hX⟩ : ∃ X, X = ((((((wr.setCell ⟨w.heap.size, 0, none⟩ (.int .i64 y0)).setCell ⟨w.heap.size, 1, none⟩ (.int .i64 y1)).setCell ⟨w.heap.size, 2, none⟩ (.int .i64 y2)).setCell ⟨w.heap.size, 3, none⟩ (.int .i64 z3)).setCell ⟨w.heap.size, 4, none⟩ (.int .i64 z4)).setCell ⟨w.heap.size, 5, none⟩ (.slice VA k vc)) := ⟨_, rfl⟩
      have hbl : Below w.heap.size w X := by
        rw [hX]
        exact (((((hb.setCell (Nat.le_refl _) _).setCell (Nat.le_refl _) _).setCell (Nat.le_refl _) _).setCell (Nat.le_refl _) _).setCell (Nat.le_refl _) _).setCell (Nat.le_refl _) _
      have hown : X.ownsRow (W.heap.size + 1) 3 1 (.slice VA k vc) k ((valsOf ((bs.drop 10).take (2 * k))).map (.int .i64)) := by
        rw [hX]
        exact own_setO (own_setO (own_setO (own_setO (own_setO (own_setO HVr.out (by omega)) (by omega)) (by omega)) (by omega)) (by omega)) (by omega)
      have hres : Blk X w.heap.size 24 #[.int .i64 y0, .int .i64 y1, .int .i64 y2, .int .i64 z3, .int .i64 z4, .slice VA k vc] := by
        rw [hX]
        exact (((((HRr.out.set 0 (.int .i64 y0)).set 1 (.int .i64 y1)).set 2 (.int .i64 y2)).set 3 (.int .i64 z3)).set 4 (.int .i64 z4)).set 5 (.slice VA k vc)
      rw [← hX]
      clear hX cT fT cR fR
      rw [hvs] at hown
      have hxX := hres.cells
      refine bodyPost_ret (v := .tuple #[.agg #[.int .i64 y0, .int .i64 y1, .int .i64 y2, .int .i64 z3, .int .i64 z4, .slice VA k vc], .int .i64 0]) (by simp [results, Try.results13, go_sem, hxX]) rfl ?_
      refine ⟨_, rfl, ⟨_, by unfold ofB; rw [← HY0.out, ← HY1.out, ← HY2.out, ← HZ3.out, ← HZ4.out], ⟨Row.of_own hown, ?_⟩⟩, hbl⟩
      intro z hz
      have hz2 : z ∈ valsOf (bs.drop 10) := hz
      have := (vdata_valsOf k (bs.drop 10) (by rw [List.length_drop]; have := HN.out; omega) (fun x hx => hr x (List.mem_of_mem_drop hx))).2.2 z hz2
      exact wf_i64 (by omega) (by omega)

set_option maxHeartbeats 1000000 in
theorem runpack_bad (v : Value) (bs : List Int) (w : World) (h : Bytes w v bs) (h1 : ¬ (12 ≤ bs.length ∧ bs.length ≤ 26 ∧ bs.length % 2 = 0)) :
    Calls Try.prog 13 #[v] w fun e w' => e = .returned (.tuple #[.agg #[.int .i64 0, .int .i64 0, .int .i64 0, .int .i64 0, .int .i64 0, .slice none 0 0], .int .i64 (badCode bs.length)]) ∧ Below w.heap.size w w' := by
  obtain ⟨⟨A, c, rfl, hc, hcm, hA⟩, hr⟩ := h
  rw [List.length_map] at hc ⊢
  clear hA hr
  unfold maxLen at hcm
  by_cases h12 : bs.length < 12
  · have hbc : badCode bs.length = 2 := by unfold badCode; rw [if_pos h12]
    have g1 : decide (((bs.length : Nat) : Int) < 12) = true := decide_eq_true (by omega)
    go_enter Try.func13, Try.ntmps13
    go_wp2
    go_returns
    exact ⟨by simp [hbc], by go_grown⟩
  by_cases h26 : bs.length > 26
  · have hbc : badCode bs.length = 3 := by unfold badCode; rw [if_neg h12, if_pos h26]
    have g1 : decide (((bs.length : Nat) : Int) < 12) = false := decide_eq_false (by omega)
    have g2 : decide (((bs.length : Nat) : Int) > 26) = true := decide_eq_true (by omega)
    go_enter Try.func13, Try.ntmps13
    go_wp2
    go_returns
    exact ⟨by simp [hbc], by go_grown⟩
  · have hbc : badCode bs.length = 4 := by unfold badCode; rw [if_neg h12, if_neg h26]
    have g1 : decide (((bs.length : Nat) : Int) < 12) = false := decide_eq_false (by omega)
    have g2 : decide (((bs.length : Nat) : Int) > 26) = false := decide_eq_false (by omega)
    have g3 : ((bs.length : Nat) : Int) % 2 = 1 := by omega
    go_enter Try.func13, Try.ntmps13
    go_wp2
    go_returns
    exact ⟨by simp [hbc], by go_grown⟩
end Go.Proofs.Ytnimialdccbdfaa
