/- Layer 4: laws, walked. -/
import Derived.Test.YtnimialdccbdfaaPackL
namespace Go.Proofs.Ytnimialdccbdfaa
open Go.ChangeShapes Go.WideShapes Go.ChangeAt Go.RowKit Go.Deep
set_option linter.unusedVariables false
set_option linter.unusedSimpArgs false

theorem Bytes.heap {w w' : World} {v : Value} {xs : List Int} (h : Bytes w v xs) (he : w'.heap = w.heap) : Bytes w' v xs := ⟨h.1.keep (by rw [he]; exact Nat.le_refl _) (fun p _ => by unfold World.cell?; rw [he]), h.2⟩
theorem Bytes.some {w : World} {A : Option Addr} {n c : Nat} {xs : List Int} (h : Bytes w (.slice A n c) xs) (h0 : 0 < n) : ∃ ad, A = Option.some ad := by
  obtain ⟨⟨A', c', hv, h2, h3, hA⟩, hr⟩ := h
  injection hv with e1 e2 e3
  subst e1 e3
  rcases hA with ⟨h4, h5⟩ | ⟨ad, h5, h6, h7⟩
  · omega
  · exact ⟨ad, h5⟩
theorem Bytes.pre {w : World} {A : Option Addr} {n c : Nat} {xs ys : List Int} (h : Bytes w (.slice A n c) (xs ++ ys)) : Bytes w (.slice A xs.length c) xs := by
  obtain ⟨⟨A', c', hv, h2, h3, hA⟩, hr⟩ := h
  injection hv with e1 e2 e3
  subst e1 e3
  rw [List.length_map, List.length_append] at h2
  refine ⟨⟨A, c, by rw [List.length_map], by rw [List.length_map]; omega, h3, ?_⟩, fun x hx => hr x (List.mem_append_left _ hx)⟩
  rcases hA with ⟨h4, h5⟩ | ⟨ad, h5, h6, h7⟩
  · exact .inl ⟨h4, h5⟩
  · refine .inr ⟨ad, h5, fun h0 => h6 (by rw [List.length_map] at h0 ⊢; rw [List.length_append]; omega), fun i u hu => h7 i u ?_⟩
    rw [List.map_append, List.getElem?_append_left (List.getElem?_eq_some_iff.1 hu).1]
    exact hu
theorem own_shape {w : World} {base : Nat} {e : TypeId} {v : Value} {n : Nat} {xs : List Value} (h : w.ownsRow base e 1 v n xs) : ∃ A c, v = .slice A n c := by
  obtain ⟨h1, h2⟩ := h
  rcases h2 with ⟨rfl, rfl⟩ | ⟨g, cap, cur, hv, _⟩
  · exact ⟨_, _, rfl⟩
  · exact ⟨_, _, hv⟩
theorem el64 : Elem Try.prog 22 3 1 8 := Elem.mk' (z := .int .i64 0) Try.underlying22 (by kernel_rfl) rfl (by omega)
theorem own_setO {w : World} {base T i : Nat} {e : TypeId} {k n : Nat} {v u : Value} {xs : List Value} (h : w.ownsRow base e k v n xs) (hT : T < base) : (w.setCell ⟨T, i, none⟩ u).ownsRow base e k v n xs := by
  obtain ⟨h1, h2⟩ := h
  rcases h2 with h2 | ⟨g, cap, cur, hv, hbg, hgg, hrest⟩
  · exact ⟨h1, .inl h2⟩
  · exact ⟨h1, .inr ⟨g, cap, cur, hv, hbg, by rw [Below.heap_setCell _ _ _ _ (show g ≠ T by omega)]; exact hgg, hrest⟩⟩
theorem own_al {w : World} {base : Nat} {e : TypeId} {k n : Nat} {v : Value} {xs : List Value} (h : w.ownsRow base e k v n xs) (o : Obj) : (w.alloc o).ownsRow base e k v n xs := own_below h ((Below.refl _ _).alloc (Nat.le_refl _) o)
set_option maxRecDepth 100000 in
set_option maxHeartbeats 400000 in
theorem walk_PackVals (v : Value) (p : Pk) (x : Int) (w : World) (h0 : PkV w v p) (h1 : (Lit.int .i16 x).wf = true) :
    Calls Try.prog 8 #[v, .int .i16 x] w fun e w' => e = .returned (.bool true) ∧ Below w.heap.size w w' := by
  obtain ⟨vs, rfl, hIP⟩ := h0
  obtain ⟨A, c, hsP, hcP, hcmP, _⟩ := hIP.shape
  subst hsP
  have hlzP : ((p.vals.length : Nat) : Int) ≤ 9223372036854775807 := by unfold maxLen at hcmP; omega
  have P0 := Lib.hid hIP
  clear hIP hcmP hcP
  have hx16 := bounds_i16 h1
  clear h1
  have HPw := Lib.hid P0.out
  go_enter Try.func8, Try.ntmps8
  go_wp2_with fail
  refine calls_world (fun W1 => Below w.heap.size w W1 ∧ Ints .i64 W1 (.slice A p.vals.length c) p.vals ∧ Blk W1 w.heap.size 24 #[.int .i64 p.dev, .int .i64 p.chan, .int .i64 p.boot, .int .i64 p.seq, .int .i64 p.stamp, .slice A p.vals.length c]) ⟨(by go_grown), (P0.out.below (by go_grown)), (Blk.new _ _ _ _ (by first | rfl | simp))⟩ fun W1 ⟨hb1, qP, qS⟩ => ?_
  have P1 := Lib.hid qP
  have S1 := Lib.hid qS
  (try clear cS); (try clear lS); (try clear dS)
  clear qP qS P0
  refine (head_any _).mono ?_
  rintro e W2 ⟨rfl, hk⟩
  have hb2 := hb1.trans (hk.mono hb1.size)
  have P2 := Lib.hid (P1.out.below hk)
  have S2 := Lib.hid (S1.out.below hk)
  (try clear cS); (try clear lS); (try clear dS)
  clear hk P1 S1 hb1
  have cS := S2.out.cells
  have lS := S2.out.lt
  by_cases hbp : 100 < p.vals.length
  · have g1 : decide (((p.vals.length : Nat) : Int) > 100) = true := decide_eq_true (by omega)
    go_wp2
    go_ret
    exact ⟨by first | rfl | simp, hb2⟩
  have g1 : decide (((p.vals.length : Nat) : Int) > 100) = false := decide_eq_false (by omega)
  go_wp2_with fail
  refine (right_any _ p _ ⟨_, rfl, P2.out⟩).mono ?_
  rintro e W3 ⟨rfl, hk⟩
  have hb3 := hb2.trans (hk.mono hb2.size)
  have P3 := Lib.hid (P2.out.below hk)
  have S3 := Lib.hid (S2.out.below hk)
  (try clear cS); (try clear lS); (try clear dS)
  clear hk P2 S2 hb2
  have cS := S3.out.cells
  have lS := S3.out.lt
  by_cases hp : p.right
  rotate_left
  · rw [show decide p.right = false from decide_eq_false hp]
    go_wp2
    go_ret
    exact ⟨by first | rfl | simp, hb3⟩
  rw [show decide p.right = true from decide_eq_true hp]
  have hp2 := hp.2.1
  have HP := Lib.hid hp
  clear hp
  go_wp2_with (at_builtin; refine wpList_app el64 rfl (.tmp 24) (.tmp 26) rfl (W3.heap.size + 1) _ 0 [] rfl (own_empty _ _ _ _ (by simp) (by simp)) _ (p.vals.map (.int .i64)) rfl ((P3.out.below (((Below.refl _ _).alloc (Nat.le_refl _) _).alloc (by simp) _)).1) (one_ints _ _) ?_ ?_ ?_ ?_)
  case refine_1 => rw [List.length_map]; unfold maxLen; omega
  case refine_2 => rw [List.length_map]; omega
  case refine_3 => simp
  intro va wa owna hga _
  have hba : Below W3.heap.size W3 wa := (((Below.refl _ _).alloc (Nat.le_refl _) _).alloc (by simp) _).grown hga (by simp; omega) (by simp [Value.ownBlock])
  have TA : Blk wa W3.heap.size 24 #[.int .i64 p.dev, .int .i64 p.chan, .int .i64 p.boot, .int .i64 p.seq, .int .i64 p.stamp, .slice A p.vals.length c] := ((Blk.new W3 24 #[.int .i64 p.dev, .int .i64 p.chan, .int .i64 p.boot, .int .i64 p.seq, .int .i64 p.stamp, .slice A p.vals.length c] _ rfl).al (.cells #[] 3)).keep ((Below.refl ((W3.heap.size + 1)) _).grown hga (by simp) (by simp [Value.ownBlock])) (Nat.lt_succ_self _)
  have ownb : wa.ownsRow (W3.heap.size + 1) 3 1 va p.vals.length (p.vals.map (.int .i64)) := by simpa using owna
  clear owna hga
  go_wp2_with (at_builtin; refine wpList_app el64 rfl (.tmp 27) (.tmp 30) rfl (W3.heap.size + 1) _ _ _ rfl (ownb.alloc _) _ [.int .i64 x] rfl ?_ ?_ ?_ ?_ ?_ ?_)
  case refine_1 => exact Row.of_block (heap_at _ _ _ rfl) rfl rfl (Nat.le_refl _) (by decide)
  case refine_2 => simp [Value.oneCell']
  case refine_3 => unfold maxLen; simp; omega
  case refine_4 => simp; omega
  case refine_5 => have := TA.lt; simp; omega
  intro vb wb ownc hgb _
  have hbb : Below W3.heap.size W3 wb := below_app (hba.alloc hba.size _) (by have := hba.size; simp; omega) (ownb.alloc _) hgb (by omega)
  have TB := (TA.al (.cells #[.int .i64 x] 3)).keep (below_app (Below.refl (W3.heap.size + 1) _) (by have := TA.lt; simp; omega) (ownb.alloc _) hgb (Nat.le_refl _)) (Nat.lt_succ_self _)
  obtain ⟨VB, cb, hvb⟩ := own_shape ownc
  subst hvb
  have SB := S3.out.below hbb
  have cT := TB.cells
  have fT := TB.froz
  have lT := TB.lt
  clear cS
  have cS := SB.cells
  have lSb := SB.lt
  have ne1 : w.heap.size ≠ W3.heap.size := by omega
  have ne2 : W3.heap.size ≠ w.heap.size := by omega
  clear hgb ownb TA hba
  go_wp2_with fail
  refine calls_world (fun W' => Below w.heap.size w W' ∧ Ints .i64 W' (.slice A p.vals.length c) p.vals ∧ Ints .i64 W' (.slice VB (p.vals.length + 1) cb) (p.vals ++ [x]) ∧ Blk W' w.heap.size 24 #[.int .i64 p.dev, .int .i64 p.chan, .int .i64 p.boot, .int .i64 p.seq, .int .i64 p.stamp, .slice A p.vals.length c] ∧ Blk W' W3.heap.size 24 #[.int .i64 p.dev, .int .i64 p.chan, .int .i64 p.boot, .int .i64 p.seq, .int .i64 p.stamp, .slice VB (p.vals.length + 1) cb] ∧ Blk W' wb.heap.size 24 #[.int .i64 p.dev, .int .i64 p.chan, .int .i64 p.boot, .int .i64 p.seq, .int .i64 p.stamp, .slice none 0 0]) ?_ fun Wz ⟨hbz, qP, qR, qS, qT, qO⟩ => ?_
  · have hz := hb3.size
    have hset : Below w.heap.size w (wb.setCell ⟨W3.heap.size, 5, none⟩ (.slice VB (p.vals.length + 1) cb)) := (hb3.trans (hbb.mono hb3.size)).setCell hz _
    have hzb := hbb.size
    have hW : Below w.heap.size w ((wb.setCell ⟨W3.heap.size, 5, none⟩ (.slice VB (p.vals.length + 1) cb)).alloc (.cells #[.int .i64 p.dev, .int .i64 p.chan, .int .i64 p.boot, .int .i64 p.seq, .int .i64 p.stamp, .slice none 0 0] 24)) := hset.alloc hset.size _
    refine ⟨hW, HPw.out.below hW, ⟨?_, ?_⟩, ?_, ?_, ?_⟩
    · have := Row.of_own (own_al (own_setO ownc (T := W3.heap.size) (i := 5) (u := .slice VB (p.vals.length + 1) cb) (by omega)) (.cells #[.int .i64 p.dev, .int .i64 p.chan, .int .i64 p.boot, .int .i64 p.seq, .int .i64 p.stamp, .slice none 0 0] 24))
      simpa using this
    · intro z hzm
      rcases List.mem_append.1 hzm with h | h
      · exact HPw.out.2 z h
      · simp at h; subst h; exact wf_i64 (by omega) (by omega)
    · exact (SB.setO (by omega) _ _).al _
    · exact (TB.set 5 _).al _
    · exact Blk.new _ _ _ _ (by simp [World.setCell])
  have P9 := Lib.hid qP
  have R9 := Lib.hid qR
  have S9 := Lib.hid qS
  have T9 := Lib.hid qT
  have O9 := Lib.hid qO
  clear qP qR qS qT qO TB SB cT fT lT cS lSb ne1 ne2 hbb ownc
  refine (data_yes _ p _ ⟨_, rfl, P9.out⟩ HP.out).mono ?_
  rintro e W10 ⟨b, rfl, hX, hk⟩
  obtain ⟨XA, Xc, hxs, hXl, hXm⟩ := hX.shape
  subst hxs
  have hb10 := hbz.trans (hk.mono hbz.size)
  have P10 := Lib.hid (P9.out.below hk)
  have R10 := Lib.hid (R9.out.below hk)
  have S10 := Lib.hid (S9.out.below hk)
  have T10 := Lib.hid (T9.out.below hk)
  have O10 := Lib.hid (O9.out.below hk)
  (try clear cS); (try clear lS); (try clear dS); (try clear cT); (try clear lT); (try clear dT); (try clear cO); (try clear lO); (try clear dO)
  clear hk P9 R9 S9 T9 O9 hbz
  have X10 := Lib.hid (show Bytes W10 (.slice XA p.data.length Xc) p.data from hX)
  clear hX
  have cS := S10.out.cells
  have lS := S10.out.lt
  have cT := T10.out.cells
  have lT := T10.out.lt
  have cO := O10.out.cells
  have lO := O10.out.lt
  go_wp2_with fail
  have hono : ¬ ({ p with vals := [] } : Pk).right := fun h => absurd h.2.1.1 (by simp)
  have HON := Lib.hid (decide_eq_false hono)
  clear hono
  by_cases h8 : p.vals.length < 8
  · have g8 : decide (((p.vals.length : Nat) : Int) < 8) = true := decide_eq_true (by omega)
    have hq : (({ p with vals := p.vals ++ [x] } : Pk)).right := ⟨HP.out.1, ⟨by simp, by simp; omega⟩, fun z hz => by
      rcases List.mem_append.1 hz with h | h
      · exact HP.out.2.2 z h
      · simp at h; subst h; exact hx16⟩
    have HQ := Lib.hid hq
    have HS := Lib.hid (data_snoc p x)
    clear hq
    refine (data_yes _ ({ p with vals := p.vals ++ [x] } : Pk) _ ⟨_, rfl, R10.out⟩ HQ.out).mono ?_
    rintro e W11 ⟨b2, rfl, hY, hk⟩
    rw [HS.out] at hY
    obtain ⟨YA, Yc, hys, hYl, hYm⟩ := hY.shape
    generalize hm : (p.data ++ putB (bre x) 2).length = m at hys hYl
    subst hys
    have HMM := Lib.hid (show m = p.data.length + 2 by rw [← hm, List.length_append, putB_len])
    clear hm
    have hb11 := hb10.trans (hk.mono hb10.size)
    have P11 := Lib.hid (P10.out.below hk)
    have R11 := Lib.hid (R10.out.below hk)
    have S11 := Lib.hid (S10.out.below hk)
    have T11 := Lib.hid (T10.out.below hk)
    have O11 := Lib.hid (O10.out.below hk)
    have X11 := Lib.hid (X10.out.below hk)
    (try clear cS); (try clear lS); (try clear dS); (try clear cT); (try clear lT); (try clear dT); (try clear cO); (try clear lO); (try clear dO)
    clear hk P10 R10 S10 T10 O10 X10 hb10
    have Y11 := Lib.hid (show Bytes W11 (.slice YA m Yc) (p.data ++ putB (bre x) 2) from hY)
    clear hY
    have cS := S11.out.cells
    have lS := S11.out.lt
    have cT := T11.out.cells
    have lT := T11.out.lt
    have cO := O11.out.cells
    have lO := O11.out.lt
    go_wp2_with fail
    refine (right_any _ ({ p with vals := [] } : Pk) _ ⟨_, rfl, ⟨Row.nil_, by simp⟩⟩).mono ?_
    rintro e W12 ⟨rfl, hk⟩
    have hb12 := hb11.trans (hk.mono hb11.size)
    have P12 := Lib.hid (P11.out.below hk)
    have R12 := Lib.hid (R11.out.below hk)
    have S12 := Lib.hid (S11.out.below hk)
    have T12 := Lib.hid (T11.out.below hk)
    have O12 := Lib.hid (O11.out.below hk)
    have X12 := Lib.hid (X11.out.below hk)
    have Y12 := Lib.hid (Y11.out.below hk)
    (try clear cS); (try clear lS); (try clear dS); (try clear cT); (try clear lT); (try clear dT); (try clear cO); (try clear lO); (try clear dO)
    clear hk P11 R11 S11 T11 O11 X11 Y11 hb11
    rw [HON.out]
    have cS := S12.out.cells
    have lS := S12.out.lt
    have cT := T12.out.cells
    have lT := T12.out.lt
    have cO := O12.out.cells
    have lO := O12.out.lt
    obtain ⟨yd, rfl⟩ := Y12.out.some (by have := HMM.out; omega)
    have hcv1 := fun w' (hw' : Below W12.heap.size W12 w') => run_conv (P := Try.prog) (dst := 9) Try.underlying25 Try.underlying5 Try.underlying9 (w := w') ((Bytes.pre Y12.out).below hw')
    have hcv2 := fun w' (hw' : Below W12.heap.size W12 w') => run_conv (P := Try.prog) (dst := 9) Try.underlying25 Try.underlying5 Try.underlying9 (w := w') (X12.out.below hw')
    have hmq : ((m : Int) == (p.data.length : Int) + 2) = true := by have := HMM.out; simp; omega
    have hmq2 : decide ((m : Int) = (p.data.length : Int) + 2) = true := by have := HMM.out; simp; omega
    have hmq3 : ((m : Int) = (p.data.length : Int) + 2) = True := by have := HMM.out; simp; omega
    have hwr : IntKind.i64.wrap ((p.data.length : Int) + 2) = (p.data.length : Int) + 2 := IntWalk.i64_in _ (by have := data_len p; omega)
    have hnY : p.data.length ≤ Yc := by have := HMM.out; omega
    have hnB : ((p.data.length : Nat) : Int) + 2 ≤ 1000 := by have := data_len p; omega
    go_wp2_with fail
    refine wp_region_held_drew (S := fun w' => Below W12.heap.size W12 w') (by kernel_rfl) (by go_grown) (fun hHeld => ?_)
    refine takeD 0 (some 62) (v := ?_) rfl rfl (by kernel_rfl) (by kernel_rfl) (by kernel_rfl) (fun _ _ _ h => h) (by rfl) ?_ (by assumption) ?_
    rotate_left
    · intro w hSw
      (try dsimp only at hSw)
      go_simp
      try with_reducible rfl
    try simp only [Act.put, List.setIfInBounds_toArray, List.set_cons_zero, List.set_cons_succ]
    refine takeD 1 (some 63) (v := ?_) rfl rfl (by kernel_rfl) (by kernel_rfl) (by kernel_rfl) (fun _ _ _ h => h) (by rfl) ?_ (by assumption) ?_
    rotate_left
    · intro w hSw
      (try dsimp only at hSw)
      go_simp
      try with_reducible rfl
    try simp only [Act.put, List.setIfInBounds_toArray, List.set_cons_zero, List.set_cons_succ]
    refine takeD 2 (some 64) (v := ?_) rfl rfl (by kernel_rfl) (by kernel_rfl) (by kernel_rfl) (fun _ _ _ h => h) (by rfl) ?_ (by assumption) ?_
    rotate_left
    · intro w hSw
      (try dsimp only at hSw)
      go_simp
      try with_reducible rfl
    try simp only [Act.put, List.setIfInBounds_toArray, List.set_cons_zero, List.set_cons_succ]
    refine takeD 3 (some 65) (v := ?_) rfl rfl (by kernel_rfl) (by kernel_rfl) (by kernel_rfl) (fun _ _ _ h => h) (by rfl) ?_ (by assumption) ?_
    rotate_left
    · intro w hSw
      (try dsimp only at hSw)
      go_simp
      try with_reducible rfl
    try simp only [Act.put, List.setIfInBounds_toArray, List.set_cons_zero, List.set_cons_succ]
    refine takeD 4 (some 66) (v := ?_) rfl rfl (by kernel_rfl) (by kernel_rfl) (by kernel_rfl) (fun _ _ _ h => h) (by rfl) ?_ (by assumption) ?_
    rotate_left
    · intro w hSw
      (try dsimp only at hSw)
      go_simp
      try with_reducible rfl
    try simp only [Act.put, List.setIfInBounds_toArray, List.set_cons_zero, List.set_cons_succ]
    refine takeD 5 (some 67) (v := ?_) rfl rfl (by kernel_rfl) (by kernel_rfl) (by kernel_rfl) (fun _ _ _ h => h) (by rfl) ?_ (by assumption) ?_
    rotate_left
    · intro w hSw
      (try dsimp only at hSw)
      go_simp
      try with_reducible rfl
    try simp only [Act.put, List.setIfInBounds_toArray, List.set_cons_zero, List.set_cons_succ]
    refine takeD 6 (some 68) (v := ?_) rfl rfl (by kernel_rfl) (by kernel_rfl) (by kernel_rfl) (fun _ _ _ h => h) (by rfl) ?_ (by assumption) ?_
    rotate_left
    · intro w hSw
      (try dsimp only at hSw)
      go_simp
      try with_reducible rfl
    try simp only [Act.put, List.setIfInBounds_toArray, List.set_cons_zero, List.set_cons_succ]
    refine takeD 7 (some 69) (v := ?_) rfl rfl (by kernel_rfl) (by kernel_rfl) (by kernel_rfl) (fun _ _ _ h => h) (by rfl) ?_ (by assumption) ?_
    rotate_left
    · intro w hSw
      (try dsimp only at hSw)
      go_simp
      try with_reducible rfl
    try simp only [Act.put, List.setIfInBounds_toArray, List.set_cons_zero, List.set_cons_succ]
    refine takeD 8 (some 70) (v := ?_) rfl rfl (by kernel_rfl) (by kernel_rfl) (by kernel_rfl) (fun _ _ _ h => h) (by rfl) ?_ (by assumption) ?_
    rotate_left
    · intro w hSw
      (try dsimp only at hSw)
      go_simp
      try with_reducible rfl
    try simp only [Act.put, List.setIfInBounds_toArray, List.set_cons_zero, List.set_cons_succ]
    refine takeD 9 (some 71) (v := ?_) rfl rfl (by kernel_rfl) (by kernel_rfl) (by kernel_rfl) (fun _ _ _ h => h) (by rfl) ?_ (by assumption) ?_
    rotate_left
    · intro w hSw
      (try dsimp only at hSw)
      go_simp
      try with_reducible rfl
    try simp only [Act.put, List.setIfInBounds_toArray, List.set_cons_zero, List.set_cons_succ]
    refine takeD 10 (some 72) (v := ?_) rfl rfl (by kernel_rfl) (by kernel_rfl) (by kernel_rfl) (fun _ _ _ h => h) (by rfl) ?_ (by assumption) ?_
    rotate_left
    · intro w hSw
      (try dsimp only at hSw)
      go_simp
      try with_reducible rfl
    try simp only [Act.put, List.setIfInBounds_toArray, List.set_cons_zero, List.set_cons_succ]
    refine takeD 11 (some 73) (v := ?_) rfl rfl (by kernel_rfl) (by kernel_rfl) (by kernel_rfl) (fun _ _ _ h => h) (by rfl) ?_ (by assumption) ?_
    rotate_left
    · intro w hSw
      (try dsimp only at hSw)
      go_simp
      try with_reducible rfl
    try simp only [Act.put, List.setIfInBounds_toArray, List.set_cons_zero, List.set_cons_succ]
    refine takeD 12 (some 74) (v := ?_) rfl rfl (by kernel_rfl) (by kernel_rfl) (by kernel_rfl) (fun _ _ _ h => h) (by rfl) ?_ (by assumption) ?_
    rotate_left
    · intro w hSw
      (try dsimp only at hSw)
      go_simp
      try with_reducible rfl
    try simp only [Act.put, List.setIfInBounds_toArray, List.set_cons_zero, List.set_cons_succ]
    refine takeD 13 (some 75) (v := ?_) rfl rfl (by kernel_rfl) (by kernel_rfl) (by kernel_rfl) (fun _ _ _ h => h) (by rfl) ?_ (by assumption) ?_
    rotate_left
    · intro w hSw
      (try dsimp only at hSw)
      go_simp
      try with_reducible rfl
    try simp only [Act.put, List.setIfInBounds_toArray, List.set_cons_zero, List.set_cons_succ]
    refine takeD 14 (some 76) (v := ?_) rfl rfl (by kernel_rfl) (by kernel_rfl) (by kernel_rfl) (fun _ _ _ h => h) (by rfl) ?_ (by assumption) ?_
    rotate_left
    · intro w hSw
      (try dsimp only at hSw)
      go_simp
      try with_reducible rfl
    try simp only [Act.put, List.setIfInBounds_toArray, List.set_cons_zero, List.set_cons_succ]
    refine takeD 15 (some 77) (v := ?_) rfl rfl (by kernel_rfl) (by kernel_rfl) (by kernel_rfl) (fun _ _ _ h => h) (by rfl) ?_ (by assumption) ?_
    rotate_left
    · intro w hSw
      (try dsimp only at hSw)
      go_simp
      try with_reducible rfl
    try simp only [Act.put, List.setIfInBounds_toArray, List.set_cons_zero, List.set_cons_succ]
    refine takeD 16 (some 78) (v := ?_) rfl rfl (by kernel_rfl) (by kernel_rfl) (by kernel_rfl) (fun _ _ _ h => h) (by rfl) ?_ (by assumption) ?_
    rotate_left
    · intro w hSw
      (try dsimp only at hSw)
      go_simp
      try with_reducible rfl
    try simp only [Act.put, List.setIfInBounds_toArray, List.set_cons_zero, List.set_cons_succ]
    refine takeD 17 (some 79) (v := ?_) rfl rfl (by kernel_rfl) (by kernel_rfl) (by kernel_rfl) (fun _ _ _ h => h) (by rfl) ?_ (by assumption) ?_
    rotate_left
    · intro w hSw
      (try dsimp only at hSw)
      go_simp
      try with_reducible rfl
    try simp only [Act.put, List.setIfInBounds_toArray, List.set_cons_zero, List.set_cons_succ]
    refine takeD 18 (some 80) (v := ?_) rfl rfl (by kernel_rfl) (by kernel_rfl) (by kernel_rfl) (fun _ _ _ h => h) (by rfl) ?_ (by assumption) ?_
    rotate_left
    · intro w hSw
      (try dsimp only at hSw)
      go_simp
      try with_reducible rfl
    try simp only [Act.put, List.setIfInBounds_toArray, List.set_cons_zero, List.set_cons_succ]
    refine takeD 19 (some 4) (v := ?_) rfl rfl (by kernel_rfl) (by kernel_rfl) (by kernel_rfl) (fun _ _ _ h => h) (by rfl) ?_ (by assumption) ?_
    rotate_left
    · intro w hSw
      (try dsimp only at hSw)
      go_simp
      try with_reducible rfl
    try simp only [Act.put, List.setIfInBounds_toArray, List.set_cons_zero, List.set_cons_succ]
    refine wpAnyH_done (by kernel_rfl) ?_ _
    go_wp2
    go_ret
    exact ⟨by first | rfl | simp, hb12.trans (hHeld.mono hb12.size)⟩
  · have g8 : decide (((p.vals.length : Nat) : Int) < 8) = false := decide_eq_false (by omega)
    have hq : ¬ (({ p with vals := p.vals ++ [x] } : Pk)).right := fun h => absurd h.2.1.2 (by simp; omega)
    refine (data_no _ ({ p with vals := p.vals ++ [x] } : Pk) _ ⟨_, rfl, R10.out⟩ hq).mono ?_
    rintro e W11 ⟨rfl, hk⟩
    have hb11 := hb10.trans (hk.mono hb10.size)
    have P11 := Lib.hid (P10.out.below hk)
    have R11 := Lib.hid (R10.out.below hk)
    have S11 := Lib.hid (S10.out.below hk)
    have T11 := Lib.hid (T10.out.below hk)
    have O11 := Lib.hid (O10.out.below hk)
    have X11 := Lib.hid (X10.out.below hk)
    (try clear cS); (try clear lS); (try clear dS); (try clear cT); (try clear lT); (try clear dT); (try clear cO); (try clear lO); (try clear dO)
    clear hk P10 R10 S10 T10 O10 X10 hb10
    have cS := S11.out.cells
    have lS := S11.out.lt
    have cT := T11.out.cells
    have lT := T11.out.lt
    have cO := O11.out.cells
    have lO := O11.out.lt
    go_wp2_with fail
    refine (right_any _ ({ p with vals := [] } : Pk) _ ⟨_, rfl, ⟨Row.nil_, by simp⟩⟩).mono ?_
    rintro e W12 ⟨rfl, hk⟩
    have hb12 := hb11.trans (hk.mono hb11.size)
    have P12 := Lib.hid (P11.out.below hk)
    have R12 := Lib.hid (R11.out.below hk)
    have S12 := Lib.hid (S11.out.below hk)
    have T12 := Lib.hid (T11.out.below hk)
    have O12 := Lib.hid (O11.out.below hk)
    have X12 := Lib.hid (X11.out.below hk)
    (try clear cS); (try clear lS); (try clear dS); (try clear cT); (try clear lT); (try clear dT); (try clear cO); (try clear lO); (try clear dO)
    clear hk P11 R11 S11 T11 O11 X11 hb11
    rw [HON.out]
    go_wp2
    go_ret
    exact ⟨by first | rfl | simp, hb12⟩
end Go.Proofs.Ytnimialdccbdfaa
