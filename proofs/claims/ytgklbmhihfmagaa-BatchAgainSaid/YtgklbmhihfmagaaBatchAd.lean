/- Layer 14: the law BatchAgain. -/
import Derived.Test.YtgklbmhihfmagaaBatchC
import Derived.Test.YtgklbmhihfmagaaBatchZ
import Derived.IntWalk
namespace Go.Proofs.Ytgklbmhihfmagaa
open Go.ChangeShapes Go.WideShapes Go.ChangeAt Go.RowKit Go.Deep
set_option linter.unusedVariables false
set_option linter.unusedSimpArgs false

set_option maxRecDepth 100000 in
theorem wpList_one6G {a : Act} {w : World} {ops : Array Oper} {rest : List Oper} {Q : Exit → Act → World → Prop} {r : Nat} {d : Option Nat} {ty : TypeId} {pos : String} {af : Array Edge} {gd : Option (Nat × Bool)} {v0 v1 v2 v3 v4 v5 : Value}
    (hg : Region.wanted ⟨d, .buildSlice 23 1 #[(0, .tmp r)], ty, pos, af, gd⟩ (yielded ops a.tmps) = true) (hv : a.eval (.tmp r) = .agg #[v0, v1, v2, v3, v4, v5])
    (hn : wpList Try.prog ops Q rest (a.put d (.slice (some ⟨w.heap.size, 0, none⟩) 1 1)) (w.alloc (.cells #[v0, v1, v2, v3, v4, v5] 31))) :
    wpList Try.prog ops Q (⟨d, .buildSlice 23 1 #[(0, .tmp r)], ty, pos, af, gd⟩ :: rest) a w := by
  refine wpList_wanted hg ?_
  intro K hK
  exact wp_one6 hv (hK _ _ hn)
theorem PRow.of_own3 {w : World} {base n : Nat} {v : Value} {O : List PV} {x : PV} (h : w.ownsRow base 31 6 v (0 + n + 1) ([] ++ tk f6 O ++ f6 x)) (hs : ∀ y ∈ O ++ [x], Ints .i64 w y.vs y.p.vals) : PRow w v (O ++ [x]) := by
  obtain ⟨A, c, rfl, _⟩ := own_shapeX h
  rw [List.nil_append, ← tk_one (f := f6) x, ← tk_app] at h
  refine PRow.of_own h ?_ hs
  have h0 := h.1
  rw [tk_len f6_len] at h0
  omega
theorem filter_ins {ts : List Tk} {p : Pk} {l : List Pk} (h : p ∉ l) : (ins ts p l).filter (fun y => !decide (y = p)) = l := by
  induction l with
  | nil => simp [ins]
  | cons q r ih =>
    have hq : p ≠ q := fun e => h (by simp [e])
    have hr : p ∉ r := fun e => h (by simp [e])
    have hf : ∀ m : List Pk, p ∉ m → m.filter (fun y => !decide (y = p)) = m := fun m hm => List.filter_eq_self.2 fun y hy => by
      simp
      intro e
      exact hm (e ▸ hy)
    unfold ins
    by_cases ha : ahead ts p q
    · rw [if_pos ha, List.filter_cons_of_neg]
      · exact hf _ h
      · simp
    · rw [if_neg ha, if_neg hq, List.filter_cons_of_pos, ih hr]
      simp
      exact Ne.symm hq
theorem len_ins {ts : List Tk} {p : Pk} {l : List Pk} (h : p ∉ l) : (ins ts p l).length = l.length + 1 := by
  induction l with
  | nil => simp [ins]
  | cons q r ih =>
    have hq : p ≠ q := fun e => h (by simp [e])
    have hr : p ∉ r := fun e => h (by simp [e])
    unfold ins
    by_cases ha : ahead ts p q
    · rw [if_pos ha]; simp
    · rw [if_neg ha, if_neg hq, List.length_cons, ih hr, List.length_cons]
section
variable {H : Type} {enc : TypeId × Value → H} {w : World} {rch : Reach} {b0 : Nat}
set_option maxRecDepth 100000 in
theorem arg31_of_trod {v : Value} {d : DataW H} {p : List MemPlace} (hv : Value.okWide Try.prog w rch b0 31 v) (h : DataW.Trod enc Try.prog w 0 (fun _ => true) true 31 v d p) : ∃ q : Pk, PkV w v q := by
  obtain ⟨cs, n, rfl, hsz, hf⟩ := open_fields Try.underlying31 (by kernel_rfl) (by kernel_rfl) hv h
  obtain ⟨u0, y0, g0, t0⟩ := hf 0 _ rfl
  obtain ⟨u1, y1, g1, t1⟩ := hf 1 _ rfl
  obtain ⟨u2, y2, g2, t2⟩ := hf 2 _ rfl
  obtain ⟨u3, y3, g3, t3⟩ := hf 3 _ rfl
  obtain ⟨u4, y4, g4, t4⟩ := hf 4 _ rfl
  obtain ⟨u5, y5, g5, t5⟩ := hf 5 _ rfl
  obtain ⟨p0, e0, _, w0⟩ := DataW.trod_int Try.underlying3 t0
  obtain ⟨p1, e1, _, w1⟩ := DataW.trod_int Try.underlying3 t1
  obtain ⟨p2, e2, _, w2⟩ := DataW.trod_int Try.underlying3 t2
  obtain ⟨p3, e3, _, w3⟩ := DataW.trod_int Try.underlying3 t3
  obtain ⟨p4, e4, _, w4⟩ := DataW.trod_int Try.underlying3 t4
  simp at e0 e1 e2 e3 e4
  subst e0 e1 e2 e3 e4
  obtain ⟨zs, hzs⟩ := ints_of_trod1 Try.underlying29 Try.underlying3 (by kernel_rfl) t5
  have hcs : cs = #[.int .i64 p0, .int .i64 p1, .int .i64 p2, .int .i64 p3, .int .i64 p4, u5] := by
    obtain ⟨l⟩ := cs
    simp at hsz
    simp only [List.getElem?_toArray] at g0 g1 g2 g3 g4 g5
    match l, hsz with
    | [a0, a1, a2, a3, a4, a5], _ => simp at g0 g1 g2 g3 g4 g5; simp [*]
  exact ⟨⟨p0, p1, p2, p3, p4, zs⟩, u5, by rw [hcs], hzs⟩
end
def wit31 : Value := .agg #[.int .i64 0, .int .i64 0, .int .i64 0, .int .i64 0, .int .i64 0, .slice none 0 0]

set_option maxRecDepth 100000 in
set_option maxHeartbeats 8000000 in
theorem walk_BatchAgain (vt : Value) (ts : List TV) (vl : Value) (l : List PV) (vp : Value) (p : Pk) (w : World) (h0 : TRow w vt ts) (h1 : PRow w vl l) (h2 : PkV w vp p) :
    Calls Try.prog 7 #[vt, vl, vp] w fun e w' => e = .returned (.bool true) ∧ Below w.heap.size w w' := by
  obtain ⟨LA, LC, rfl⟩ := h1.1
  have hlc := h1.caps
  have hl1 := hlc.2.1
  have hl2 := hlc.2.2
  clear hlc
  obtain ⟨vs, rfl, hI⟩ := h2
  obtain ⟨VA, vc, rfl⟩ := hI.shapeI
  have HT0 := Lib.hid h0
  have HP0 := Lib.hid h1
  have HI0 := Lib.hid hI
  clear h0 h1 hI
  go_enter Try.func7, Try.ntmps7
  go_wp2_with fail
  go_at_call 9
  refine calls_world (fun W => Below w.heap.size w W ∧ Blk W w.heap.size 31 #[.int .i64 p.dev, .int .i64 p.chan, .int .i64 p.boot, .int .i64 p.seq, .int .i64 p.stamp, .slice VA p.vals.length vc]) ⟨by go_grown, Blk.new _ _ _ _ rfl⟩ fun W0 ⟨hb, hq⟩ => ?_
  have HT := Lib.hid (HT0.out.below hb)
  have HP := Lib.hid (HP0.out.below hb)
  have HI := Lib.hid (HI0.out.below hb)
  have HB := Lib.hid hb
  have HQ := Lib.hid hq
  clear hb hq HT0 HP0 HI0
  refine (head_any _).mono ?_
  rintro e w1 ⟨rfl, hk⟩
  have HT_ := Lib.hid (HT.out.below hk)
  have HP_ := Lib.hid (HP.out.below hk)
  have HI_ := Lib.hid (HI.out.below hk)
  have HB_ := Lib.hid (Btrans HB.out hk)
  have HQ_ := Lib.hid (HQ.out.below hk)
  clear HT HP HI HB HQ hk
  have HT := HT_
  clear HT_
  have HP := HP_
  clear HP_
  have HI := HI_
  clear HI_
  have HB := HB_
  clear HB_
  have HQ := HQ_
  clear HQ_
  have cQ := HQ.out.cells
  have lQ := HQ.out.lt
  go_wp2_with fail
  go_at_call 10
  refine (good_any vt _ ts l _ HT.out HP.out).mono ?_
  rintro e V1 ⟨b, hb, rfl, hk⟩
  have HGD := Lib.hid hb
  clear hb cQ lQ
  have HT_ := Lib.hid (HT.out.below hk)
  have HP_ := Lib.hid (HP.out.below hk)
  have HI_ := Lib.hid (HI.out.below hk)
  have HB_ := Lib.hid (Btrans HB.out hk)
  have HQ_ := Lib.hid (HQ.out.below hk)
  clear HT HP HI HB HQ hk
  have HT := HT_
  clear HT_
  have HP := HP_
  clear HP_
  have HI := HI_
  clear HI_
  have HB := HB_
  clear HB_
  have HQ := HQ_
  clear HQ_
  have cQ := HQ.out.cells
  have lQ := HQ.out.lt
  cases b
  · go_wp2
    go_ret
    exact ⟨by simp, HB.out⟩
  have HG := Lib.hid (HGD.out rfl)
  clear HGD
  have hl60 : l.length ≤ 60 := HG.out.2.1
  go_wp2_with (first | (refine wpList_one6 (by rfl) ?_) | (refine wpList_one6G (by rfl) (by rfl) ?_) | fail)
  go_at_call 10
  have hk0 : Below V1.heap.size V1 (V1.alloc (.cells #[.int .i64 p.dev, .int .i64 p.chan, .int .i64 p.boot, .int .i64 p.seq, .int .i64 p.stamp, .slice VA p.vals.length vc] 31)) := (Below.refl _ _).alloc (Nat.le_refl _) _
  refine (good_any vt _ ts [⟨p, VA, vc⟩] _ (HT.out.below hk0) ⟨⟨_, _, rfl⟩, RowN.of_blk (Blk.new _ _ _ _ rfl) rfl rfl (Nat.le_refl _) (show 1 ≤ maxLen by decide), fun x hx => by
    rw [List.mem_singleton] at hx
    subst hx
    exact HI.out.below hk0⟩).mono ?_
  rintro e V2 ⟨b, hb, rfl, hk⟩
  have HGD := Lib.hid hb
  have hk2 := Btrans hk0 hk
  clear hb cQ lQ hk hk0
  have HT_ := Lib.hid (HT.out.below hk2)
  have HP_ := Lib.hid (HP.out.below hk2)
  have HI_ := Lib.hid (HI.out.below hk2)
  have HB_ := Lib.hid (Btrans HB.out hk2)
  have HQ_ := Lib.hid (HQ.out.below hk2)
  clear HT HP HI HB HQ hk2
  have HT := HT_
  clear HT_
  have HP := HP_
  clear HP_
  have HI := HI_
  clear HI_
  have HB := HB_
  clear HB_
  have HQ := HQ_
  clear HQ_
  have cQ := HQ.out.cells
  have lQ := HQ.out.lt
  cases b
  · go_wp2
    go_ret
    exact ⟨by simp, HB.out⟩
  have HGp := Lib.hid (show p.right from (HGD.out rfl).2.2.2 _ (List.mem_singleton.2 rfl))
  have HRl := Lib.hid (show ∀ x ∈ l.map PV.p, x.right from fun x hx => by obtain ⟨y, hy, rfl⟩ := List.mem_map.1 hx; exact HG.out.2.2.2 y hy)
  clear HGD
  go_wp2_with fail
  go_at_call 12
  refine (order_any vt _ ts l _ HT.out HP.out HG.out.2.2.2 HG.out.2.2.1 (by omega)).mono ?_
  rintro e U0 ⟨va, La, rfl, hP, hL, hk⟩
  obtain ⟨AA, AC, rfl⟩ := hP.1
  have hac := hP.caps
  have ha1 := hac.2.1
  have ha2 := hac.2.2
  have hLl : La.length ≤ l.length := by
    have h1 := congrArg List.length hL.1
    have h2 := ordR_len (ts := ts.map TV.t) (l := l.map PV.p) HRl.out
    simp at h1 h2
    omega
  have HPa := Lib.hid hP
  have HLa := Lib.hid hL.1
  have HRa := Lib.hid (show ∀ x ∈ La, x.p.right from fun x hx => HG.out.2.2.2 x (hL.2 x hx))
  have HAg := Lib.hid (show ordR (ts.map TV.t) (La.map PV.p) = La.map PV.p by rw [hL.1]; exact ordR_again HRl.out)
  clear hac hP hL cQ lQ HP
  have HT_ := Lib.hid (HT.out.below hk)
  have HI_ := Lib.hid (HI.out.below hk)
  have HB_ := Lib.hid (Btrans HB.out hk)
  have HQ_ := Lib.hid (HQ.out.below hk)
  clear HT HI HB HQ hk
  have HT := HT_
  clear HT_
  have HI := HI_
  clear HI_
  have HB := HB_
  clear HB_
  have HQ := HQ_
  clear HQ_
  have hbW := Below.refl U0.heap.size U0
  have e1 : ∀ W, Below U0.heap.size U0 W → ∀ i, W.cell? ⟨w.heap.size, i, none⟩ = (#[.int .i64 p.dev, .int .i64 p.chan, .int .i64 p.boot, .int .i64 p.seq, .int .i64 p.stamp, .slice VA p.vals.length vc] : Array Value)[i]? := fun W h => (HQ.out.below h).cells
  go_wp2_with fail
  refine wp_region_held_drew (S := fun W => Below U0.heap.size U0 W) (by kernel_rfl) ((Below.refl U0.heap.size U0).drew) (fun hHeld => ?_)
  refine takeD 0 (some 28) (v := ?_) rfl rfl (by kernel_rfl) (by kernel_rfl) (by kernel_rfl) (fun _ _ _ h => h) (by rfl) ?_ (by assumption) ?_
  rotate_left
  · intro w hSw
    (try dsimp only at hSw)
    go_simp
    try with_reducible rfl
  try simp only [Act.put, List.setIfInBounds_toArray, List.set_cons_zero, List.set_cons_succ]
  refine takeD 2 (some 30) (v := ?_) rfl rfl (by kernel_rfl) (by kernel_rfl) (by kernel_rfl) (fun _ _ _ h => h) (by rfl) ?_ (by assumption) ?_
  rotate_left
  · intro w hSw
    (try dsimp only at hSw)
    go_simp
    try with_reducible rfl
  try simp only [Act.put, List.setIfInBounds_toArray, List.set_cons_zero, List.set_cons_succ]
  refine takeD 4 (some 32) (v := ?_) rfl rfl (by kernel_rfl) (by kernel_rfl) (by kernel_rfl) (fun _ _ _ h => h) (by rfl) ?_ (by assumption) ?_
  rotate_left
  · intro w hSw
    (try dsimp only at hSw)
    go_simp
    try with_reducible rfl
  try simp only [Act.put, List.setIfInBounds_toArray, List.set_cons_zero, List.set_cons_succ]
  refine wpAnyH_ready (rs := [1, 5]) (by kernel_rfl) (by simp) ?_
  refine AllReadyH.cons rfl (fun K hK => ?_) (AllReadyH.cons rfl (fun K hK => ?_) AllReadyH.nil)
  · rw [if_pos (by rfl)]
    go_simp
    refine nameV (fun V1 => Below U0.heap.size U0 V1 ∧ World.ownsRow V1 U0.heap.size 31 6 (.slice (some ⟨U0.heap.size, 0, none⟩) 0 0) 0 []) ⟨(hbW.alloc hbW.size _).drew, (World.ownsRow.drew (own_emptyN _ _ _ _ _ hbW.size rfl))⟩ fun V1 ⟨hbW2, qHC⟩ => ?_
    have hbW := hbW2
    clear hbW2
    have HC := Lib.hid qHC
    clear qHC
    have hS := hbW
    refine hK.out _ _ ?_ (fun hHeld2 => ?_)
    · clear hK; exact hS
    clear hK K hHeld hS
    have hHeld := hHeld2
    clear hHeld2
    try simp only [Act.put, List.setIfInBounds_toArray, List.set_cons_zero, List.set_cons_succ]
    refine wpAnyH_ready (rs := [3, 5]) (by kernel_rfl) (by simp) ?_
    refine AllReadyH.cons rfl (fun K hK => ?_) (AllReadyH.cons rfl (fun K hK => ?_) AllReadyH.nil)
    · rw [if_pos (by rfl)]
      refine wp_appN elPk (.tmp 29) (.tmp 30) rfl U0.heap.size _ 0 [] rfl HC.out _ La.length (tk f6 La) rfl (HPa.out.2.1.below hbW) (tk_all f6_one _) (by unfold maxLen; omega) (by omega) hbW.size ?_
      intro v2 V2 hO hg hor
      have hbW2 := below_app hbW hbW.size HC.out hg (Nat.le_refl _)
      clear HC
      have HC := Lib.hid hO
      clear hO hg hor hbW
      have hbW := hbW2
      clear hbW2
      have hS := hbW
      refine hK.out _ _ ?_ (fun hHeld2 => ?_)
      · clear hK; exact hS
      clear hK K hHeld hS
      have hHeld := hHeld2
      clear hHeld2
      try simp only [Act.put, List.setIfInBounds_toArray, List.set_cons_zero, List.set_cons_succ]
      refine wpAnyH_ready (rs := [5]) (by kernel_rfl) (by simp) ?_
      refine AllReadyH.cons rfl (fun K hK => ?_) AllReadyH.nil
      rw [if_pos (by rfl)]
      refine wp_one6 (by rfl) ?_
      have HNE := Lib.hid (show some V2.heap.size ≠ Value.ownBlock v2 from ne_some HC.out rfl)
      refine nameV (fun V3 => Below U0.heap.size U0 V3 ∧ World.ownsRow V3 U0.heap.size 31 6 v2 (0 + La.length) ([] ++ tk f6 La) ∧ Blk V3 V2.heap.size 31 #[.int .i64 p.dev, .int .i64 p.chan, .int .i64 p.boot, .int .i64 p.seq, .int .i64 p.stamp, .slice VA p.vals.length vc]) ⟨hbW.alloc hbW.size _, (own_below HC.out ((Below.refl _ _).alloc (Nat.le_refl _) _)), (Blk.new _ _ _ _ rfl)⟩ fun V3 ⟨hbW2, qHC, qHN⟩ => ?_
      clear HC
      have hbW := hbW2
      clear hbW2
      have HC := Lib.hid qHC
      clear qHC
      have HN := Lib.hid qHN
      clear qHN
      have hS := hbW
      refine hK.out _ _ ?_ (fun hHeld2 => ?_)
      · clear hK; exact hS
      clear hK K hHeld hS
      have hHeld := hHeld2
      clear hHeld2
      try simp only [Act.put, List.setIfInBounds_toArray, List.set_cons_zero, List.set_cons_succ]
      refine wpAnyH_ready (rs := [6]) (by kernel_rfl) (by simp) ?_
      refine AllReadyH.cons rfl (fun K hK => ?_) AllReadyH.nil
      rw [if_pos (by rfl)]
      refine wp_appN elPk (.tmp 31) (.tmp 33) rfl U0.heap.size _ (0 + La.length) ([] ++ tk f6 La) rfl HC.out _ 1 (f6 (⟨p, VA, vc⟩ : PV)) rfl (RowN.of_blk HN.out rfl rfl (Nat.le_refl _) (by decide)) (f6_one _) (by unfold maxLen; omega) (by omega) hbW.size ?_
      intro v3 V4 hO hg hor
      have hbW2 := below_app hbW hbW.size HC.out hg (Nat.le_refl _)
      clear HC
      have HC := Lib.hid hO
      clear hO hg hor hbW
      have hbW := hbW2
      clear hbW2
      have hS := hbW
      refine hK.out _ _ ?_ (fun hHeld2 => ?_)
      · clear hK; exact hS
      clear hK K hHeld hS
      have hHeld := hHeld2
      clear hHeld2
      try simp only [Act.put, List.setIfInBounds_toArray, List.set_cons_zero, List.set_cons_succ]
      refine wpAnyH_ready (rs := [7]) (by kernel_rfl) (by simp) ?_
      refine AllReadyH.cons rfl (fun K hK => ?_) AllReadyH.nil
      rw [if_pos (by rfl)]
      go_simp
      have hPM : PRow _ _ (La ++ [(⟨p, VA, vc⟩ : PV)]) := PRow.of_own3 HC.out (fun x hx => by
        rcases List.mem_append.1 hx with h | h
        · exact (HPa.out.2.2 x h).below hbW
        · rw [List.mem_singleton] at h
          subst h
          exact HI.out.below hbW)
      go_at_call 12
      refine (order_any vt _ ts (La ++ [(⟨p, VA, vc⟩ : PV)]) _ (HT.out.below hbW) hPM (fun x hx => by
        rcases List.mem_append.1 hx with h | h
        · exact HRa.out x h
        · rw [List.mem_singleton] at h
          subst h
          exact HGp.out) HG.out.2.2.1 (by rw [List.length_append, List.length_singleton]; omega)).mono ?_
      rintro e U1 ⟨vb, Lb, rfl, hP, hL, hk⟩
      have HPb := Lib.hid hP
      have HLb := Lib.hid hL.1
      have hbW2 := hbW.trans (hk.mono hbW.size)
      clear hbW hk hP hL hPM HC
      have hbW := hbW2
      clear hbW2
      have hS := hbW
      go_wp2_with fail
      refine hK.out _ _ ?_ (fun hHeld2 => ?_)
      · clear hK; exact hS
      clear hK K hHeld hS
      have hHeld := hHeld2
      clear hHeld2
      try simp only [Act.put, List.setIfInBounds_toArray, List.set_cons_zero, List.set_cons_succ]
      refine takeD 8 (some 9) (v := ?_) rfl rfl (by kernel_rfl) (by kernel_rfl) (by kernel_rfl) (fun _ _ _ h => h) (by rfl) ?_ (by assumption) ?_
      rotate_left
      · intro w hSw
        (try dsimp only at hSw)
        go_simp
        try with_reducible rfl
      try simp only [Act.put, List.setIfInBounds_toArray, List.set_cons_zero, List.set_cons_succ]
      refine wpAnyH_done (by kernel_rfl) ?_ _
      clear hHeld e1
      have hk := hbW
      clear hbW
      have HPa_ := Lib.hid (HPa.out.below hk)
      have HT_ := Lib.hid (HT.out.below hk)
      have HI_ := Lib.hid (HI.out.below hk)
      have HB_ := Lib.hid (Btrans HB.out hk)
      have HQ_ := Lib.hid (HQ.out.below hk)
      clear HPa HT HI HB HQ hk
      have HPa := HPa_
      clear HPa_
      have HT := HT_
      clear HT_
      have HI := HI_
      clear HI_
      have HB := HB_
      clear HB_
      have HQ := HQ_
      clear HQ_
      have HIn := Lib.hid (show Lb.map PV.p = ins (ts.map TV.t) p (La.map PV.p) by rw [HLb.out, List.map_append, List.map_singleton, ordR_snoc, HAg.out])
      obtain ⟨BA, BC, rfl⟩ := HPb.out.1
      have hbc := HPb.out.caps
      have hb1 := hbc.2.1
      have hb2 := hbc.2.2
      have hLb : Lb.length ≤ 61 := by
        have h1 := congrArg List.length HLb.out
        have h2 := ordR_len (ts := ts.map TV.t) (l := (La ++ [(⟨p, VA, vc⟩ : PV)]).map PV.p) (fun x hx => by
          obtain ⟨y, hy, rfl⟩ := List.mem_map.1 hx
          rcases List.mem_append.1 hy with h | h
          · exact HRa.out y h
          · rw [List.mem_singleton] at h
            subst h
            exact HGp.out)
        simp at h1 h2
        omega
      clear hbc
      have cQ := HQ.out.cells
      have lQ := HQ.out.lt
      go_wp2_with fail
      go_at_call 12
      refine (order_any vt _ ts La _ HT.out HPa.out HRa.out HG.out.2.2.1 (by omega)).mono ?_
      rintro e U2 ⟨vo, Lo, rfl, hP, hL, hk⟩
      have HPo := Lib.hid hP
      have HLo := Lib.hid hL.1
      clear hP hL cQ lQ
      have HPb_ := Lib.hid (HPb.out.below hk)
      have HPa_ := Lib.hid (HPa.out.below hk)
      have HT_ := Lib.hid (HT.out.below hk)
      have HI_ := Lib.hid (HI.out.below hk)
      have HB_ := Lib.hid (Btrans HB.out hk)
      have HQ_ := Lib.hid (HQ.out.below hk)
      clear HPb HPa HT HI HB HQ hk
      have HPb := HPb_
      clear HPb_
      have HPa := HPa_
      clear HPa_
      have HT := HT_
      clear HT_
      have HI := HI_
      clear HI_
      have HB := HB_
      clear HB_
      have HQ := HQ_
      clear HQ_
      have cQ := HQ.out.cells
      have lQ := HQ.out.lt
      go_wp2_with fail
      go_at_call 11
      refine (sameAll_any vo _ Lo La _ HPo.out HPa.out).mono ?_
      rintro e U3 ⟨rfl, hk⟩
      rw [show decide (Lo.map PV.p = La.map PV.p) = true from decide_eq_true (by rw [HLo.out, HAg.out])]
      clear cQ lQ
      have HPb_ := Lib.hid (HPb.out.below hk)
      have HPa_ := Lib.hid (HPa.out.below hk)
      have HT_ := Lib.hid (HT.out.below hk)
      have HI_ := Lib.hid (HI.out.below hk)
      have HB_ := Lib.hid (Btrans HB.out hk)
      have HQ_ := Lib.hid (HQ.out.below hk)
      clear HPo HPb HPa HT HI HB HQ hk
      have HPb := HPb_
      clear HPb_
      have HPa := HPa_
      clear HPa_
      have HT := HT_
      clear HT_
      have HI := HI_
      clear HI_
      have HB := HB_
      clear HB_
      have HQ := HQ_
      clear HQ_
      have cQ := HQ.out.cells
      have lQ := HQ.out.lt
      go_wp2_with fail
      go_at_call 14
      refine (has_any _ _ La p _ HPa.out ⟨.slice VA p.vals.length vc, rfl, HI.out⟩).mono ?_
      rintro e U4 ⟨rfl, hk⟩
      clear cQ lQ
      have HPb_ := Lib.hid (HPb.out.below hk)
      have HPa_ := Lib.hid (HPa.out.below hk)
      have HT_ := Lib.hid (HT.out.below hk)
      have HI_ := Lib.hid (HI.out.below hk)
      have HB_ := Lib.hid (Btrans HB.out hk)
      have HQ_ := Lib.hid (HQ.out.below hk)
      clear HPb HPa HT HI HB HQ hk
      have HPb := HPb_
      clear HPb_
      have HPa := HPa_
      clear HPa_
      have HT := HT_
      clear HT_
      have HI := HI_
      clear HI_
      have HB := HB_
      clear HB_
      have HQ := HQ_
      clear HQ_
      have cQ := HQ.out.cells
      have lQ := HQ.out.lt
      by_cases hm : p ∈ La.map PV.p
      · rw [decide_eq_true hm]
        have HM := Lib.hid hm
        clear hm
        go_wp2_with fail
        go_at_call 11
        refine (sameAll_any _ _ La Lb _ HPa.out HPb.out).mono ?_
        rintro e U5 ⟨rfl, hk⟩
        rw [show decide (La.map PV.p = Lb.map PV.p) = true from decide_eq_true (by
          rw [HLb.out, List.map_append, List.map_singleton]
          conv => lhs; rw [← HAg.out]
          refine (ordR_same (fun x hx => by obtain ⟨y, hy, rfl⟩ := List.mem_map.1 hx; exact HRa.out y hy) (fun x => ?_)).symm
          rw [List.mem_append, List.mem_singleton]
          exact ⟨fun h => h.elim id (fun h => h ▸ HM.out), .inl⟩)]
        have HB5 := Lib.hid (Btrans HB.out hk)
        clear hk cQ lQ
        go_wp2
        go_ret
        exact ⟨by simp, HB5.out⟩
      rw [decide_eq_false hm]
      have HM := Lib.hid hm
      clear hm
      go_wp2_with fail
      clear cQ lQ
      obtain ⟨u1, hu1⟩ : ∃ u, u = U4 := ⟨_, rfl⟩
      subst hu1
      go_loopw [10, 11] (fun c i wk => ∃ (k n : Nat) (A : Option Addr) (cc : Nat), k ≤ Lb.length ∧ i = .int .i64 k ∧ c = .slice A n cc ∧ n = ((Lb.take k).filter (fun y => !decide (y.p = p))).length ∧ Below u1.heap.size u1 wk ∧ wk.ownsRow u1.heap.size 31 6 (.slice A n cc) n (tk f6 ((Lb.take k).filter (fun y => !decide (y.p = p))))) (fun _ i _ => Lb.length - (intOf i).toNat)
      case atStart => exact ⟨0, 0, none, 0, by omega, rfl, rfl, by simp, Below.refl _ _, by simp [tk]; exact own_nilN _ _⟩
      case round =>
        obtain ⟨k, n, A6, c6, hk, rfl, rfl, hn, hb, hO⟩ := hrel
        have HB6 := Lib.hid hb
        have HO6 := Lib.hid hO
        have HN6 := Lib.hid hn
        have hbs6 := HB6.out.size
        have hn61 : n ≤ 61 := by
          have h1 := List.length_filter_le (fun y : PV => !decide (y.p = p)) (Lb.take k)
          rw [← hn, List.length_take] at h1
          omega
        clear hb hO hn
        have HQ6 := Lib.hid (HQ.out.below HB6.out)
        by_cases hlt : k < Lb.length
        · obtain ⟨x, hx⟩ : ∃ x, Lb[k]? = some x := ⟨_, List.getElem?_eq_getElem hlt⟩
          have HX := Lib.hid hx
          have HTK := Lib.hid (show (Lb.take (k + 1)).filter (fun y => !decide (y.p = p)) = (Lb.take k).filter (fun y => !decide (y.p = p)) ++ (if x.p = p then [] else [x]) by
            rw [List.take_add_one, hx, List.filter_append]
            congr 1
            by_cases h : x.p = p <;> simp [h])
          obtain ⟨ad, rfl, _, hsx⟩ := HPb.out.six hx
          have HSX := Lib.hid hsx
          clear hx hsx
          have hkl : (k : Int) < (Lb.length : Int) := by omega
          have lQ := HQ6.out.lt
          go_wp2_with fail
          have e1 : ∀ W, Below wr.heap.size wr W → ∀ i, W.cell? ⟨w.heap.size, i, none⟩ = (#[.int .i64 p.dev, .int .i64 p.chan, .int .i64 p.boot, .int .i64 p.seq, .int .i64 p.stamp, .slice VA p.vals.length vc] : Array Value)[i]? := fun W h => (HQ6.out.below h).cells
          have Sp := HSX.out.at HB6.out hbs6
          have z0 := fun V hV => (Sp V hV).1
          have z1 := fun V hV => (Sp V hV).2.1
          have z2 := fun V hV => (Sp V hV).2.2.1
          have z3 := fun V hV => (Sp V hV).2.2.2.1
          have z4 := fun V hV => (Sp V hV).2.2.2.2.1
          have z5 := fun V hV => (Sp V hV).2.2.2.2.2
          clear Sp
          refine wp_region_held_drew (S := fun w' => Below wr.heap.size wr w') (by kernel_rfl) (by exact (Below.refl _ _).drew) (fun hHeld => ?_)
          refine takeD 0 (some 57) (v := ?_) rfl rfl (by kernel_rfl) (by kernel_rfl) (by kernel_rfl) (fun _ _ _ h => h) (by rfl) ?_ (by assumption) ?_
          rotate_left
          · intro w hSw
            (try dsimp only at hSw)
            go_simp
            try with_reducible rfl
          try simp only [Act.put, List.setIfInBounds_toArray, List.set_cons_zero, List.set_cons_succ]
          refine takeD 1 (some 58) (v := ?_) rfl rfl (by kernel_rfl) (by kernel_rfl) (by kernel_rfl) (fun _ _ _ h => h) (by rfl) ?_ (by assumption) ?_
          rotate_left
          · intro w hSw
            (try dsimp only at hSw)
            go_simp
            try with_reducible rfl
          try simp only [Act.put, List.setIfInBounds_toArray, List.set_cons_zero, List.set_cons_succ]
          refine takeD 2 (some 59) (v := ?_) rfl rfl (by kernel_rfl) (by kernel_rfl) (by kernel_rfl) (fun _ _ _ h => h) (by rfl) ?_ (by assumption) ?_
          rotate_left
          · intro w hSw
            (try dsimp only at hSw)
            go_simp
            try with_reducible rfl
          try simp only [Act.put, List.setIfInBounds_toArray, List.set_cons_zero, List.set_cons_succ]
          refine takeD 3 (some 60) (v := ?_) rfl rfl (by kernel_rfl) (by kernel_rfl) (by kernel_rfl) (fun _ _ _ h => h) (by rfl) ?_ (by assumption) ?_
          rotate_left
          · intro w hSw
            (try dsimp only at hSw)
            go_simp
            try with_reducible rfl
          try simp only [Act.put, List.setIfInBounds_toArray, List.set_cons_zero, List.set_cons_succ]
          refine takeD 4 (some 61) (v := ?_) rfl rfl (by kernel_rfl) (by kernel_rfl) (by kernel_rfl) (fun _ _ _ h => h) (by rfl) ?_ (by assumption) ?_
          rotate_left
          · intro w hSw
            (try dsimp only at hSw)
            go_simp
            try with_reducible rfl
          try simp only [Act.put, List.setIfInBounds_toArray, List.set_cons_zero, List.set_cons_succ]
          refine wpAnyH_ready (rs := [5]) (by kernel_rfl) (by simp) ?_
          refine AllReadyH.cons rfl (fun K hK => ?_) AllReadyH.nil
          rw [if_pos (by rfl)]
          go_simp
          go_at_call 16
          refine (same_pk (.agg #[.int .i64 x.p.dev, .int .i64 x.p.chan, .int .i64 x.p.boot, .int .i64 x.p.seq, .int .i64 x.p.stamp, .slice x.A x.p.vals.length x.c]) _ x.p p _ ⟨x.vs, rfl, (HPb.out.2.2 x (List.mem_of_getElem? HX.out)).below (HB6.out.trans (hHeld.mono hbs6))⟩ ⟨.slice VA p.vals.length vc, rfl, HI.out.below (HB6.out.trans (hHeld.mono hbs6))⟩).mono ?_
          rintro e V1 ⟨rfl, hk⟩
          go_wp2_with fail
          refine hK.out _ _ ?_ (fun hHeld2 => ?_)
          · first | exact hHeld.trans (hk.mono hHeld.size) | (clear hK; have hz := hHeld.size; exact (Below.refl _ _).drew)
          clear hK K hHeld
          have hHeld := hHeld2
          clear hHeld2
          try clear hk
          try simp only [Act.put, List.setIfInBounds_toArray, List.set_cons_zero, List.set_cons_succ]
          refine takeD 6 (some 63) (v := ?_) rfl rfl (by kernel_rfl) (by kernel_rfl) (by kernel_rfl) (fun _ _ _ h => h) (by rfl) ?_ (by assumption) ?_
          rotate_left
          · intro w hSw
            (try dsimp only at hSw)
            go_simp
            try with_reducible rfl
          try simp only [Act.put, List.setIfInBounds_toArray, List.set_cons_zero, List.set_cons_succ]
          refine wpAnyH_done (by kernel_rfl) ?_ _
          have HB7 := Lib.hid (HB6.out.trans (hHeld.mono hbs6))
          have HO7 := Lib.hid (own_below HO6.out hHeld)
          have hbs7 := HB7.out.size
          have hbsx := hHeld.size
          have Sp := HSX.out _ HB7.out
          obtain ⟨k0, k1, k2, k3, k4, k5⟩ := Sp
          clear hHeld z0 z1 z2 z3 z4 z5 e1 lQ HB6 HO6 HQ6
          by_cases he : x.p = p
          · rw [decide_eq_true he]
            have HE := Lib.hid he
            clear he
            go_wp2
            go_roundw
            case rel => exact ⟨k + 1, n, A6, c6, by omega, by go_num, rfl, by rw [HTK.out, if_pos HE.out, List.append_nil]; exact HN6.out, HB7.out, by rw [HTK.out, if_pos HE.out, List.append_nil]; exact HO7.out⟩
            case measure => simp [intOf]; omega
          · rw [decide_eq_false he]
            have HE := Lib.hid he
            clear he
            go_wp2_with (first | (refine wpList_one6 (by rfl) ?_) | (at_builtin; refine wpList_appN elPk rfl (.tmp 64) (.tmp 69) rfl u1.heap.size _ n (tk f6 ((Lb.take k).filter (fun y => !decide (y.p = p)))) rfl (own_below HO7.out ((Below.refl _ _).alloc (Nat.le_refl _) _)) _ 1 (f6 x) rfl (RowN.of_blk (Blk.new _ _ _ _ rfl) rfl rfl (Nat.le_refl _) (by decide)) (f6_one _) ?_ ?_ ?_ ?_))
            case refine_1 => unfold maxLen; omega
            case refine_2 => omega
            case refine_3 => (try simp); omega
            intro v5 V5 hO5 hg5 _
            have HB8 := Lib.hid (below_app (HB7.out.alloc hbs7 _) (by simp; omega) (own_below HO7.out ((Below.refl _ _).alloc (Nat.le_refl _) _)) hg5 (Nat.le_refl _))
            obtain ⟨A7, c7, rfl, _⟩ := own_shapeX hO5
            have HO8 := Lib.hid hO5
            clear hO5 hg5 k0 k1 k2 k3 k4 k5
            go_wp2
            go_roundw
            case rel => exact ⟨k + 1, n + 1, A7, c7, by omega, by go_num, rfl, by rw [HTK.out, if_neg HE.out, List.length_append, ← HN6.out]; rfl, HB8.out, by
              rw [HTK.out, if_neg HE.out, tk_app, tk_one]
              exact HO8.out⟩
            case measure => simp [intOf]; omega
        · obtain rfl : k = Lb.length := by omega
          have HEq := Lib.hid (show ((Lb.take Lb.length).filter (fun y => !decide (y.p = p))).map PV.p = La.map PV.p by
            rw [List.take_length, ← filter_ins (ts := ts.map TV.t) HM.out, ← HIn.out, List.filter_map]
            rfl)
          have hlen : Lb.length = La.length + 1 := by
            have h := congrArg List.length HIn.out
            rw [len_ins HM.out] at h
            simpa using h
          have hwr : IntKind.i64.wrap ((La.length : Int) + 1) = (La.length : Int) + 1 := IntWalk.i64_in _ (by omega)
          have g9 : ((Lb.length : Int) == (La.length : Int) + 1) = true := by rw [beq_iff_eq]; omega
          have HLn := Lib.hid hlen
          clear hlen
          have HPc := Lib.hid (PRow.of_own HO6.out HN6.out (fun y hy => (HPb.out.2.2 y (List.mem_of_mem_take (List.mem_filter.1 hy).1)).below HB6.out))
          go_wp2_with fail
          go_at_call 11
          refine (sameAll_any _ _ La _ _ (HPa.out.below HB6.out) HPc.out).mono ?_
          rintro e U5 ⟨rfl, hk⟩
          rw [show decide (La.map PV.p = ((Lb.take Lb.length).filter (fun y => !decide (y.p = p))).map PV.p) = true from decide_eq_true HEq.out.symm]
          have HB9 := Lib.hid (Btrans (Btrans HB.out HB6.out) hk)
          clear hk
          go_wp2
          go_ret
          exact ⟨by simp, HB9.out⟩
    · rw [if_pos (by rfl)]
      refine wp_one6 (by rfl) ?_
      have HNE := Lib.hid (show some V1.heap.size ≠ Value.ownBlock (.slice (some ⟨U0.heap.size, 0, none⟩) 0 0) from ne_some HC.out rfl)
      refine nameV (fun V2 => Below U0.heap.size U0 V2 ∧ World.ownsRow V2 U0.heap.size 31 6 (.slice (some ⟨U0.heap.size, 0, none⟩) 0 0) 0 [] ∧ Blk V2 V1.heap.size 31 #[.int .i64 p.dev, .int .i64 p.chan, .int .i64 p.boot, .int .i64 p.seq, .int .i64 p.stamp, .slice VA p.vals.length vc]) ⟨hbW.alloc hbW.size _, (own_below HC.out ((Below.refl _ _).alloc (Nat.le_refl _) _)), (Blk.new _ _ _ _ rfl)⟩ fun V2 ⟨hbW2, qHC, qHN⟩ => ?_
      clear HC
      have hbW := hbW2
      clear hbW2
      have HC := Lib.hid qHC
      clear qHC
      have HN := Lib.hid qHN
      clear qHN
      have hS := hbW
      refine hK.out _ _ ?_ (fun hHeld2 => ?_)
      · clear hK; exact hS
      clear hK K hHeld hS
      have hHeld := hHeld2
      clear hHeld2
      try simp only [Act.put, List.setIfInBounds_toArray, List.set_cons_zero, List.set_cons_succ]
      refine wpAnyH_ready (rs := [3]) (by kernel_rfl) (by simp) ?_
      refine AllReadyH.cons rfl (fun K hK => ?_) AllReadyH.nil
      rw [if_pos (by rfl)]
      refine wp_appN elPk (.tmp 29) (.tmp 30) rfl U0.heap.size _ 0 [] rfl HC.out _ La.length (tk f6 La) rfl (HPa.out.2.1.below hbW) (tk_all f6_one _) (by unfold maxLen; omega) (by omega) hbW.size ?_
      intro v2 V3 hO hg hor
      have hbW2 := below_app hbW hbW.size HC.out hg (Nat.le_refl _)
      have HN2 := Lib.hid (show Blk _ _ _ _ from (hg.block _ HN.out.lt HNE.out).trans HN.out)
      have HNE2 := Lib.hid (show some V1.heap.size ≠ Value.ownBlock v2 by rcases hor with e | e <;> rw [e] <;> first | exact HNE.out | (intro he; injection he with he; have := HN.out.lt; omega))
      clear HN HNE
      have HN := Lib.hid HN2.out
      have HNE := Lib.hid HNE2.out
      clear HN2 HNE2
      clear HC
      have HC := Lib.hid hO
      clear hO hg hor hbW
      have hbW := hbW2
      clear hbW2
      have hS := hbW
      refine hK.out _ _ ?_ (fun hHeld2 => ?_)
      · clear hK; exact hS
      clear hK K hHeld hS
      have hHeld := hHeld2
      clear hHeld2
      try simp only [Act.put, List.setIfInBounds_toArray, List.set_cons_zero, List.set_cons_succ]
      refine wpAnyH_ready (rs := [6]) (by kernel_rfl) (by simp) ?_
      refine AllReadyH.cons rfl (fun K hK => ?_) AllReadyH.nil
      rw [if_pos (by rfl)]
      refine wp_appN elPk (.tmp 31) (.tmp 33) rfl U0.heap.size _ (0 + La.length) ([] ++ tk f6 La) rfl HC.out _ 1 (f6 (⟨p, VA, vc⟩ : PV)) rfl (RowN.of_blk HN.out rfl rfl (Nat.le_refl _) (by decide)) (f6_one _) (by unfold maxLen; omega) (by omega) hbW.size ?_
      intro v3 V4 hO hg hor
      have hbW2 := below_app hbW hbW.size HC.out hg (Nat.le_refl _)
      clear HC
      have HC := Lib.hid hO
      clear hO hg hor hbW
      have hbW := hbW2
      clear hbW2
      have hS := hbW
      refine hK.out _ _ ?_ (fun hHeld2 => ?_)
      · clear hK; exact hS
      clear hK K hHeld hS
      have hHeld := hHeld2
      clear hHeld2
      try simp only [Act.put, List.setIfInBounds_toArray, List.set_cons_zero, List.set_cons_succ]
      refine wpAnyH_ready (rs := [7]) (by kernel_rfl) (by simp) ?_
      refine AllReadyH.cons rfl (fun K hK => ?_) AllReadyH.nil
      rw [if_pos (by rfl)]
      go_simp
      have hPM : PRow _ _ (La ++ [(⟨p, VA, vc⟩ : PV)]) := PRow.of_own3 HC.out (fun x hx => by
        rcases List.mem_append.1 hx with h | h
        · exact (HPa.out.2.2 x h).below hbW
        · rw [List.mem_singleton] at h
          subst h
          exact HI.out.below hbW)
      go_at_call 12
      refine (order_any vt _ ts (La ++ [(⟨p, VA, vc⟩ : PV)]) _ (HT.out.below hbW) hPM (fun x hx => by
        rcases List.mem_append.1 hx with h | h
        · exact HRa.out x h
        · rw [List.mem_singleton] at h
          subst h
          exact HGp.out) HG.out.2.2.1 (by rw [List.length_append, List.length_singleton]; omega)).mono ?_
      rintro e U1 ⟨vb, Lb, rfl, hP, hL, hk⟩
      have HPb := Lib.hid hP
      have HLb := Lib.hid hL.1
      have hbW2 := hbW.trans (hk.mono hbW.size)
      clear hbW hk hP hL hPM HC
      have hbW := hbW2
      clear hbW2
      have hS := hbW
      go_wp2_with fail
      refine hK.out _ _ ?_ (fun hHeld2 => ?_)
      · clear hK; exact hS
      clear hK K hHeld hS
      have hHeld := hHeld2
      clear hHeld2
      try simp only [Act.put, List.setIfInBounds_toArray, List.set_cons_zero, List.set_cons_succ]
      refine takeD 8 (some 9) (v := ?_) rfl rfl (by kernel_rfl) (by kernel_rfl) (by kernel_rfl) (fun _ _ _ h => h) (by rfl) ?_ (by assumption) ?_
      rotate_left
      · intro w hSw
        (try dsimp only at hSw)
        go_simp
        try with_reducible rfl
      try simp only [Act.put, List.setIfInBounds_toArray, List.set_cons_zero, List.set_cons_succ]
      refine wpAnyH_done (by kernel_rfl) ?_ _
      clear hHeld e1
      have hk := hbW
      clear hbW
      have HPa_ := Lib.hid (HPa.out.below hk)
      have HT_ := Lib.hid (HT.out.below hk)
      have HI_ := Lib.hid (HI.out.below hk)
      have HB_ := Lib.hid (Btrans HB.out hk)
      have HQ_ := Lib.hid (HQ.out.below hk)
      clear HPa HT HI HB HQ hk
      have HPa := HPa_
      clear HPa_
      have HT := HT_
      clear HT_
      have HI := HI_
      clear HI_
      have HB := HB_
      clear HB_
      have HQ := HQ_
      clear HQ_
      have HIn := Lib.hid (show Lb.map PV.p = ins (ts.map TV.t) p (La.map PV.p) by rw [HLb.out, List.map_append, List.map_singleton, ordR_snoc, HAg.out])
      obtain ⟨BA, BC, rfl⟩ := HPb.out.1
      have hbc := HPb.out.caps
      have hb1 := hbc.2.1
      have hb2 := hbc.2.2
      have hLb : Lb.length ≤ 61 := by
        have h1 := congrArg List.length HLb.out
        have h2 := ordR_len (ts := ts.map TV.t) (l := (La ++ [(⟨p, VA, vc⟩ : PV)]).map PV.p) (fun x hx => by
          obtain ⟨y, hy, rfl⟩ := List.mem_map.1 hx
          rcases List.mem_append.1 hy with h | h
          · exact HRa.out y h
          · rw [List.mem_singleton] at h
            subst h
            exact HGp.out)
        simp at h1 h2
        omega
      clear hbc
      have cQ := HQ.out.cells
      have lQ := HQ.out.lt
      go_wp2_with fail
      go_at_call 12
      refine (order_any vt _ ts La _ HT.out HPa.out HRa.out HG.out.2.2.1 (by omega)).mono ?_
      rintro e U2 ⟨vo, Lo, rfl, hP, hL, hk⟩
      have HPo := Lib.hid hP
      have HLo := Lib.hid hL.1
      clear hP hL cQ lQ
      have HPb_ := Lib.hid (HPb.out.below hk)
      have HPa_ := Lib.hid (HPa.out.below hk)
      have HT_ := Lib.hid (HT.out.below hk)
      have HI_ := Lib.hid (HI.out.below hk)
      have HB_ := Lib.hid (Btrans HB.out hk)
      have HQ_ := Lib.hid (HQ.out.below hk)
      clear HPb HPa HT HI HB HQ hk
      have HPb := HPb_
      clear HPb_
      have HPa := HPa_
      clear HPa_
      have HT := HT_
      clear HT_
      have HI := HI_
      clear HI_
      have HB := HB_
      clear HB_
      have HQ := HQ_
      clear HQ_
      have cQ := HQ.out.cells
      have lQ := HQ.out.lt
      go_wp2_with fail
      go_at_call 11
      refine (sameAll_any vo _ Lo La _ HPo.out HPa.out).mono ?_
      rintro e U3 ⟨rfl, hk⟩
      rw [show decide (Lo.map PV.p = La.map PV.p) = true from decide_eq_true (by rw [HLo.out, HAg.out])]
      clear cQ lQ
      have HPb_ := Lib.hid (HPb.out.below hk)
      have HPa_ := Lib.hid (HPa.out.below hk)
      have HT_ := Lib.hid (HT.out.below hk)
      have HI_ := Lib.hid (HI.out.below hk)
      have HB_ := Lib.hid (Btrans HB.out hk)
      have HQ_ := Lib.hid (HQ.out.below hk)
      clear HPo HPb HPa HT HI HB HQ hk
      have HPb := HPb_
      clear HPb_
      have HPa := HPa_
      clear HPa_
      have HT := HT_
      clear HT_
      have HI := HI_
      clear HI_
      have HB := HB_
      clear HB_
      have HQ := HQ_
      clear HQ_
      have cQ := HQ.out.cells
      have lQ := HQ.out.lt
      go_wp2_with fail
      go_at_call 14
      refine (has_any _ _ La p _ HPa.out ⟨.slice VA p.vals.length vc, rfl, HI.out⟩).mono ?_
      rintro e U4 ⟨rfl, hk⟩
      clear cQ lQ
      have HPb_ := Lib.hid (HPb.out.below hk)
      have HPa_ := Lib.hid (HPa.out.below hk)
      have HT_ := Lib.hid (HT.out.below hk)
      have HI_ := Lib.hid (HI.out.below hk)
      have HB_ := Lib.hid (Btrans HB.out hk)
      have HQ_ := Lib.hid (HQ.out.below hk)
      clear HPb HPa HT HI HB HQ hk
      have HPb := HPb_
      clear HPb_
      have HPa := HPa_
      clear HPa_
      have HT := HT_
      clear HT_
      have HI := HI_
      clear HI_
      have HB := HB_
      clear HB_
      have HQ := HQ_
      clear HQ_
      have cQ := HQ.out.cells
      have lQ := HQ.out.lt
      by_cases hm : p ∈ La.map PV.p
      · rw [decide_eq_true hm]
        have HM := Lib.hid hm
        clear hm
        go_wp2_with fail
        go_at_call 11
        refine (sameAll_any _ _ La Lb _ HPa.out HPb.out).mono ?_
        rintro e U5 ⟨rfl, hk⟩
        rw [show decide (La.map PV.p = Lb.map PV.p) = true from decide_eq_true (by
          rw [HLb.out, List.map_append, List.map_singleton]
          conv => lhs; rw [← HAg.out]
          refine (ordR_same (fun x hx => by obtain ⟨y, hy, rfl⟩ := List.mem_map.1 hx; exact HRa.out y hy) (fun x => ?_)).symm
          rw [List.mem_append, List.mem_singleton]
          exact ⟨fun h => h.elim id (fun h => h ▸ HM.out), .inl⟩)]
        have HB5 := Lib.hid (Btrans HB.out hk)
        clear hk cQ lQ
        go_wp2
        go_ret
        exact ⟨by simp, HB5.out⟩
      rw [decide_eq_false hm]
      have HM := Lib.hid hm
      clear hm
      go_wp2_with fail
      clear cQ lQ
      obtain ⟨u1, hu1⟩ : ∃ u, u = U4 := ⟨_, rfl⟩
      subst hu1
      go_loopw [10, 11] (fun c i wk => ∃ (k n : Nat) (A : Option Addr) (cc : Nat), k ≤ Lb.length ∧ i = .int .i64 k ∧ c = .slice A n cc ∧ n = ((Lb.take k).filter (fun y => !decide (y.p = p))).length ∧ Below u1.heap.size u1 wk ∧ wk.ownsRow u1.heap.size 31 6 (.slice A n cc) n (tk f6 ((Lb.take k).filter (fun y => !decide (y.p = p))))) (fun _ i _ => Lb.length - (intOf i).toNat)
      case atStart => exact ⟨0, 0, none, 0, by omega, rfl, rfl, by simp, Below.refl _ _, by simp [tk]; exact own_nilN _ _⟩
      case round =>
        obtain ⟨k, n, A6, c6, hk, rfl, rfl, hn, hb, hO⟩ := hrel
        have HB6 := Lib.hid hb
        have HO6 := Lib.hid hO
        have HN6 := Lib.hid hn
        have hbs6 := HB6.out.size
        have hn61 : n ≤ 61 := by
          have h1 := List.length_filter_le (fun y : PV => !decide (y.p = p)) (Lb.take k)
          rw [← hn, List.length_take] at h1
          omega
        clear hb hO hn
        have HQ6 := Lib.hid (HQ.out.below HB6.out)
        by_cases hlt : k < Lb.length
        · obtain ⟨x, hx⟩ : ∃ x, Lb[k]? = some x := ⟨_, List.getElem?_eq_getElem hlt⟩
          have HX := Lib.hid hx
          have HTK := Lib.hid (show (Lb.take (k + 1)).filter (fun y => !decide (y.p = p)) = (Lb.take k).filter (fun y => !decide (y.p = p)) ++ (if x.p = p then [] else [x]) by
            rw [List.take_add_one, hx, List.filter_append]
            congr 1
            by_cases h : x.p = p <;> simp [h])
          obtain ⟨ad, rfl, _, hsx⟩ := HPb.out.six hx
          have HSX := Lib.hid hsx
          clear hx hsx
          have hkl : (k : Int) < (Lb.length : Int) := by omega
          have lQ := HQ6.out.lt
          go_wp2_with fail
          have e1 : ∀ W, Below wr.heap.size wr W → ∀ i, W.cell? ⟨w.heap.size, i, none⟩ = (#[.int .i64 p.dev, .int .i64 p.chan, .int .i64 p.boot, .int .i64 p.seq, .int .i64 p.stamp, .slice VA p.vals.length vc] : Array Value)[i]? := fun W h => (HQ6.out.below h).cells
          have Sp := HSX.out.at HB6.out hbs6
          have z0 := fun V hV => (Sp V hV).1
          have z1 := fun V hV => (Sp V hV).2.1
          have z2 := fun V hV => (Sp V hV).2.2.1
          have z3 := fun V hV => (Sp V hV).2.2.2.1
          have z4 := fun V hV => (Sp V hV).2.2.2.2.1
          have z5 := fun V hV => (Sp V hV).2.2.2.2.2
          clear Sp
          refine wp_region_held_drew (S := fun w' => Below wr.heap.size wr w') (by kernel_rfl) (by exact (Below.refl _ _).drew) (fun hHeld => ?_)
          refine takeD 0 (some 57) (v := ?_) rfl rfl (by kernel_rfl) (by kernel_rfl) (by kernel_rfl) (fun _ _ _ h => h) (by rfl) ?_ (by assumption) ?_
          rotate_left
          · intro w hSw
            (try dsimp only at hSw)
            go_simp
            try with_reducible rfl
          try simp only [Act.put, List.setIfInBounds_toArray, List.set_cons_zero, List.set_cons_succ]
          refine takeD 1 (some 58) (v := ?_) rfl rfl (by kernel_rfl) (by kernel_rfl) (by kernel_rfl) (fun _ _ _ h => h) (by rfl) ?_ (by assumption) ?_
          rotate_left
          · intro w hSw
            (try dsimp only at hSw)
            go_simp
            try with_reducible rfl
          try simp only [Act.put, List.setIfInBounds_toArray, List.set_cons_zero, List.set_cons_succ]
          refine takeD 2 (some 59) (v := ?_) rfl rfl (by kernel_rfl) (by kernel_rfl) (by kernel_rfl) (fun _ _ _ h => h) (by rfl) ?_ (by assumption) ?_
          rotate_left
          · intro w hSw
            (try dsimp only at hSw)
            go_simp
            try with_reducible rfl
          try simp only [Act.put, List.setIfInBounds_toArray, List.set_cons_zero, List.set_cons_succ]
          refine takeD 3 (some 60) (v := ?_) rfl rfl (by kernel_rfl) (by kernel_rfl) (by kernel_rfl) (fun _ _ _ h => h) (by rfl) ?_ (by assumption) ?_
          rotate_left
          · intro w hSw
            (try dsimp only at hSw)
            go_simp
            try with_reducible rfl
          try simp only [Act.put, List.setIfInBounds_toArray, List.set_cons_zero, List.set_cons_succ]
          refine takeD 4 (some 61) (v := ?_) rfl rfl (by kernel_rfl) (by kernel_rfl) (by kernel_rfl) (fun _ _ _ h => h) (by rfl) ?_ (by assumption) ?_
          rotate_left
          · intro w hSw
            (try dsimp only at hSw)
            go_simp
            try with_reducible rfl
          try simp only [Act.put, List.setIfInBounds_toArray, List.set_cons_zero, List.set_cons_succ]
          refine wpAnyH_ready (rs := [5]) (by kernel_rfl) (by simp) ?_
          refine AllReadyH.cons rfl (fun K hK => ?_) AllReadyH.nil
          rw [if_pos (by rfl)]
          go_simp
          go_at_call 16
          refine (same_pk (.agg #[.int .i64 x.p.dev, .int .i64 x.p.chan, .int .i64 x.p.boot, .int .i64 x.p.seq, .int .i64 x.p.stamp, .slice x.A x.p.vals.length x.c]) _ x.p p _ ⟨x.vs, rfl, (HPb.out.2.2 x (List.mem_of_getElem? HX.out)).below (HB6.out.trans (hHeld.mono hbs6))⟩ ⟨.slice VA p.vals.length vc, rfl, HI.out.below (HB6.out.trans (hHeld.mono hbs6))⟩).mono ?_
          rintro e V1 ⟨rfl, hk⟩
          go_wp2_with fail
          refine hK.out _ _ ?_ (fun hHeld2 => ?_)
          · first | exact hHeld.trans (hk.mono hHeld.size) | (clear hK; have hz := hHeld.size; exact (Below.refl _ _).drew)
          clear hK K hHeld
          have hHeld := hHeld2
          clear hHeld2
          try clear hk
          try simp only [Act.put, List.setIfInBounds_toArray, List.set_cons_zero, List.set_cons_succ]
          refine takeD 6 (some 63) (v := ?_) rfl rfl (by kernel_rfl) (by kernel_rfl) (by kernel_rfl) (fun _ _ _ h => h) (by rfl) ?_ (by assumption) ?_
          rotate_left
          · intro w hSw
            (try dsimp only at hSw)
            go_simp
            try with_reducible rfl
          try simp only [Act.put, List.setIfInBounds_toArray, List.set_cons_zero, List.set_cons_succ]
          refine wpAnyH_done (by kernel_rfl) ?_ _
          have HB7 := Lib.hid (HB6.out.trans (hHeld.mono hbs6))
          have HO7 := Lib.hid (own_below HO6.out hHeld)
          have hbs7 := HB7.out.size
          have hbsx := hHeld.size
          have Sp := HSX.out _ HB7.out
          obtain ⟨k0, k1, k2, k3, k4, k5⟩ := Sp
          clear hHeld z0 z1 z2 z3 z4 z5 e1 lQ HB6 HO6 HQ6
          by_cases he : x.p = p
          · rw [decide_eq_true he]
            have HE := Lib.hid he
            clear he
            go_wp2
            go_roundw
            case rel => exact ⟨k + 1, n, A6, c6, by omega, by go_num, rfl, by rw [HTK.out, if_pos HE.out, List.append_nil]; exact HN6.out, HB7.out, by rw [HTK.out, if_pos HE.out, List.append_nil]; exact HO7.out⟩
            case measure => simp [intOf]; omega
          · rw [decide_eq_false he]
            have HE := Lib.hid he
            clear he
            go_wp2_with (first | (refine wpList_one6 (by rfl) ?_) | (at_builtin; refine wpList_appN elPk rfl (.tmp 64) (.tmp 69) rfl u1.heap.size _ n (tk f6 ((Lb.take k).filter (fun y => !decide (y.p = p)))) rfl (own_below HO7.out ((Below.refl _ _).alloc (Nat.le_refl _) _)) _ 1 (f6 x) rfl (RowN.of_blk (Blk.new _ _ _ _ rfl) rfl rfl (Nat.le_refl _) (by decide)) (f6_one _) ?_ ?_ ?_ ?_))
            case refine_1 => unfold maxLen; omega
            case refine_2 => omega
            case refine_3 => (try simp); omega
            intro v5 V5 hO5 hg5 _
            have HB8 := Lib.hid (below_app (HB7.out.alloc hbs7 _) (by simp; omega) (own_below HO7.out ((Below.refl _ _).alloc (Nat.le_refl _) _)) hg5 (Nat.le_refl _))
            obtain ⟨A7, c7, rfl, _⟩ := own_shapeX hO5
            have HO8 := Lib.hid hO5
            clear hO5 hg5 k0 k1 k2 k3 k4 k5
            go_wp2
            go_roundw
            case rel => exact ⟨k + 1, n + 1, A7, c7, by omega, by go_num, rfl, by rw [HTK.out, if_neg HE.out, List.length_append, ← HN6.out]; rfl, HB8.out, by
              rw [HTK.out, if_neg HE.out, tk_app, tk_one]
              exact HO8.out⟩
            case measure => simp [intOf]; omega
        · obtain rfl : k = Lb.length := by omega
          have HEq := Lib.hid (show ((Lb.take Lb.length).filter (fun y => !decide (y.p = p))).map PV.p = La.map PV.p by
            rw [List.take_length, ← filter_ins (ts := ts.map TV.t) HM.out, ← HIn.out, List.filter_map]
            rfl)
          have hlen : Lb.length = La.length + 1 := by
            have h := congrArg List.length HIn.out
            rw [len_ins HM.out] at h
            simpa using h
          have hwr : IntKind.i64.wrap ((La.length : Int) + 1) = (La.length : Int) + 1 := IntWalk.i64_in _ (by omega)
          have g9 : ((Lb.length : Int) == (La.length : Int) + 1) = true := by rw [beq_iff_eq]; omega
          have HLn := Lib.hid hlen
          clear hlen
          have HPc := Lib.hid (PRow.of_own HO6.out HN6.out (fun y hy => (HPb.out.2.2 y (List.mem_of_mem_take (List.mem_filter.1 hy).1)).below HB6.out))
          go_wp2_with fail
          go_at_call 11
          refine (sameAll_any _ _ La _ _ (HPa.out.below HB6.out) HPc.out).mono ?_
          rintro e U5 ⟨rfl, hk⟩
          rw [show decide (La.map PV.p = ((Lb.take Lb.length).filter (fun y => !decide (y.p = p))).map PV.p) = true from decide_eq_true HEq.out.symm]
          have HB9 := Lib.hid (Btrans (Btrans HB.out HB6.out) hk)
          clear hk
          go_wp2
          go_ret
          exact ⟨by simp, HB9.out⟩
  · rw [if_pos (by rfl)]
    refine wp_one6 (by rfl) ?_
    refine nameV (fun V1 => Below U0.heap.size U0 V1 ∧ Blk V1 U0.heap.size 31 #[.int .i64 p.dev, .int .i64 p.chan, .int .i64 p.boot, .int .i64 p.seq, .int .i64 p.stamp, .slice VA p.vals.length vc]) ⟨(hbW.alloc hbW.size _).drew, (Blk.drw (Blk.new _ _ _ _ rfl))⟩ fun V1 ⟨hbW2, qHN⟩ => ?_
    have hbW := hbW2
    clear hbW2
    have HN := Lib.hid qHN
    clear qHN
    have hS := hbW
    refine hK.out _ _ ?_ (fun hHeld2 => ?_)
    · clear hK; exact hS
    clear hK K hHeld hS
    have hHeld := hHeld2
    clear hHeld2
    try simp only [Act.put, List.setIfInBounds_toArray, List.set_cons_zero, List.set_cons_succ]
    refine wpAnyH_ready (rs := [1]) (by kernel_rfl) (by simp) ?_
    refine AllReadyH.cons rfl (fun K hK => ?_) AllReadyH.nil
    rw [if_pos (by rfl)]
    go_simp
    have HNE := Lib.hid (show some U0.heap.size ≠ Value.ownBlock (.slice (some ⟨V1.heap.size, 0, none⟩) 0 0) from (fun he => absurd (Option.some.inj he) (Nat.ne_of_lt HN.out.lt)))
    refine nameV (fun V2 => Below U0.heap.size U0 V2 ∧ World.ownsRow V2 U0.heap.size 31 6 (.slice (some ⟨V1.heap.size, 0, none⟩) 0 0) 0 [] ∧ Blk V2 U0.heap.size 31 #[.int .i64 p.dev, .int .i64 p.chan, .int .i64 p.boot, .int .i64 p.seq, .int .i64 p.stamp, .slice VA p.vals.length vc]) ⟨hbW.alloc hbW.size _, (own_emptyN _ _ _ _ _ hbW.size rfl), (HN.out.al _)⟩ fun V2 ⟨hbW2, qHC, qHN⟩ => ?_
    clear HN
    have hbW := hbW2
    clear hbW2
    have HC := Lib.hid qHC
    clear qHC
    have HN := Lib.hid qHN
    clear qHN
    have hS := hbW
    refine hK.out _ _ ?_ (fun hHeld2 => ?_)
    · clear hK; exact hS
    clear hK K hHeld hS
    have hHeld := hHeld2
    clear hHeld2
    try simp only [Act.put, List.setIfInBounds_toArray, List.set_cons_zero, List.set_cons_succ]
    refine wpAnyH_ready (rs := [3]) (by kernel_rfl) (by simp) ?_
    refine AllReadyH.cons rfl (fun K hK => ?_) AllReadyH.nil
    rw [if_pos (by rfl)]
    refine wp_appN elPk (.tmp 29) (.tmp 30) rfl U0.heap.size _ 0 [] rfl HC.out _ La.length (tk f6 La) rfl (HPa.out.2.1.below hbW) (tk_all f6_one _) (by unfold maxLen; omega) (by omega) hbW.size ?_
    intro v2 V3 hO hg hor
    have hbW2 := below_app hbW hbW.size HC.out hg (Nat.le_refl _)
    have HN2 := Lib.hid (show Blk _ _ _ _ from (hg.block _ HN.out.lt HNE.out).trans HN.out)
    have HNE2 := Lib.hid (show some U0.heap.size ≠ Value.ownBlock v2 by rcases hor with e | e <;> rw [e] <;> first | exact HNE.out | (intro he; injection he with he; have := HN.out.lt; omega))
    clear HN HNE
    have HN := Lib.hid HN2.out
    have HNE := Lib.hid HNE2.out
    clear HN2 HNE2
    clear HC
    have HC := Lib.hid hO
    clear hO hg hor hbW
    have hbW := hbW2
    clear hbW2
    have hS := hbW
    refine hK.out _ _ ?_ (fun hHeld2 => ?_)
    · clear hK; exact hS
    clear hK K hHeld hS
    have hHeld := hHeld2
    clear hHeld2
    try simp only [Act.put, List.setIfInBounds_toArray, List.set_cons_zero, List.set_cons_succ]
    refine wpAnyH_ready (rs := [6]) (by kernel_rfl) (by simp) ?_
    refine AllReadyH.cons rfl (fun K hK => ?_) AllReadyH.nil
    rw [if_pos (by rfl)]
    refine wp_appN elPk (.tmp 31) (.tmp 33) rfl U0.heap.size _ (0 + La.length) ([] ++ tk f6 La) rfl HC.out _ 1 (f6 (⟨p, VA, vc⟩ : PV)) rfl (RowN.of_blk HN.out rfl rfl (Nat.le_refl _) (by decide)) (f6_one _) (by unfold maxLen; omega) (by omega) hbW.size ?_
    intro v3 V4 hO hg hor
    have hbW2 := below_app hbW hbW.size HC.out hg (Nat.le_refl _)
    clear HC
    have HC := Lib.hid hO
    clear hO hg hor hbW
    have hbW := hbW2
    clear hbW2
    have hS := hbW
    refine hK.out _ _ ?_ (fun hHeld2 => ?_)
    · clear hK; exact hS
    clear hK K hHeld hS
    have hHeld := hHeld2
    clear hHeld2
    try simp only [Act.put, List.setIfInBounds_toArray, List.set_cons_zero, List.set_cons_succ]
    refine wpAnyH_ready (rs := [7]) (by kernel_rfl) (by simp) ?_
    refine AllReadyH.cons rfl (fun K hK => ?_) AllReadyH.nil
    rw [if_pos (by rfl)]
    go_simp
    have hPM : PRow _ _ (La ++ [(⟨p, VA, vc⟩ : PV)]) := PRow.of_own3 HC.out (fun x hx => by
      rcases List.mem_append.1 hx with h | h
      · exact (HPa.out.2.2 x h).below hbW
      · rw [List.mem_singleton] at h
        subst h
        exact HI.out.below hbW)
    go_at_call 12
    refine (order_any vt _ ts (La ++ [(⟨p, VA, vc⟩ : PV)]) _ (HT.out.below hbW) hPM (fun x hx => by
      rcases List.mem_append.1 hx with h | h
      · exact HRa.out x h
      · rw [List.mem_singleton] at h
        subst h
        exact HGp.out) HG.out.2.2.1 (by rw [List.length_append, List.length_singleton]; omega)).mono ?_
    rintro e U1 ⟨vb, Lb, rfl, hP, hL, hk⟩
    have HPb := Lib.hid hP
    have HLb := Lib.hid hL.1
    have hbW2 := hbW.trans (hk.mono hbW.size)
    clear hbW hk hP hL hPM HC
    have hbW := hbW2
    clear hbW2
    have hS := hbW
    go_wp2_with fail
    refine hK.out _ _ ?_ (fun hHeld2 => ?_)
    · clear hK; exact hS
    clear hK K hHeld hS
    have hHeld := hHeld2
    clear hHeld2
    try simp only [Act.put, List.setIfInBounds_toArray, List.set_cons_zero, List.set_cons_succ]
    refine takeD 8 (some 9) (v := ?_) rfl rfl (by kernel_rfl) (by kernel_rfl) (by kernel_rfl) (fun _ _ _ h => h) (by rfl) ?_ (by assumption) ?_
    rotate_left
    · intro w hSw
      (try dsimp only at hSw)
      go_simp
      try with_reducible rfl
    try simp only [Act.put, List.setIfInBounds_toArray, List.set_cons_zero, List.set_cons_succ]
    refine wpAnyH_done (by kernel_rfl) ?_ _
    clear hHeld e1
    have hk := hbW
    clear hbW
    have HPa_ := Lib.hid (HPa.out.below hk)
    have HT_ := Lib.hid (HT.out.below hk)
    have HI_ := Lib.hid (HI.out.below hk)
    have HB_ := Lib.hid (Btrans HB.out hk)
    have HQ_ := Lib.hid (HQ.out.below hk)
    clear HPa HT HI HB HQ hk
    have HPa := HPa_
    clear HPa_
    have HT := HT_
    clear HT_
    have HI := HI_
    clear HI_
    have HB := HB_
    clear HB_
    have HQ := HQ_
    clear HQ_
    have HIn := Lib.hid (show Lb.map PV.p = ins (ts.map TV.t) p (La.map PV.p) by rw [HLb.out, List.map_append, List.map_singleton, ordR_snoc, HAg.out])
    obtain ⟨BA, BC, rfl⟩ := HPb.out.1
    have hbc := HPb.out.caps
    have hb1 := hbc.2.1
    have hb2 := hbc.2.2
    have hLb : Lb.length ≤ 61 := by
      have h1 := congrArg List.length HLb.out
      have h2 := ordR_len (ts := ts.map TV.t) (l := (La ++ [(⟨p, VA, vc⟩ : PV)]).map PV.p) (fun x hx => by
        obtain ⟨y, hy, rfl⟩ := List.mem_map.1 hx
        rcases List.mem_append.1 hy with h | h
        · exact HRa.out y h
        · rw [List.mem_singleton] at h
          subst h
          exact HGp.out)
      simp at h1 h2
      omega
    clear hbc
    have cQ := HQ.out.cells
    have lQ := HQ.out.lt
    go_wp2_with fail
    go_at_call 12
    refine (order_any vt _ ts La _ HT.out HPa.out HRa.out HG.out.2.2.1 (by omega)).mono ?_
    rintro e U2 ⟨vo, Lo, rfl, hP, hL, hk⟩
    have HPo := Lib.hid hP
    have HLo := Lib.hid hL.1
    clear hP hL cQ lQ
    have HPb_ := Lib.hid (HPb.out.below hk)
    have HPa_ := Lib.hid (HPa.out.below hk)
    have HT_ := Lib.hid (HT.out.below hk)
    have HI_ := Lib.hid (HI.out.below hk)
    have HB_ := Lib.hid (Btrans HB.out hk)
    have HQ_ := Lib.hid (HQ.out.below hk)
    clear HPb HPa HT HI HB HQ hk
    have HPb := HPb_
    clear HPb_
    have HPa := HPa_
    clear HPa_
    have HT := HT_
    clear HT_
    have HI := HI_
    clear HI_
    have HB := HB_
    clear HB_
    have HQ := HQ_
    clear HQ_
    have cQ := HQ.out.cells
    have lQ := HQ.out.lt
    go_wp2_with fail
    go_at_call 11
    refine (sameAll_any vo _ Lo La _ HPo.out HPa.out).mono ?_
    rintro e U3 ⟨rfl, hk⟩
    rw [show decide (Lo.map PV.p = La.map PV.p) = true from decide_eq_true (by rw [HLo.out, HAg.out])]
    clear cQ lQ
    have HPb_ := Lib.hid (HPb.out.below hk)
    have HPa_ := Lib.hid (HPa.out.below hk)
    have HT_ := Lib.hid (HT.out.below hk)
    have HI_ := Lib.hid (HI.out.below hk)
    have HB_ := Lib.hid (Btrans HB.out hk)
    have HQ_ := Lib.hid (HQ.out.below hk)
    clear HPo HPb HPa HT HI HB HQ hk
    have HPb := HPb_
    clear HPb_
    have HPa := HPa_
    clear HPa_
    have HT := HT_
    clear HT_
    have HI := HI_
    clear HI_
    have HB := HB_
    clear HB_
    have HQ := HQ_
    clear HQ_
    have cQ := HQ.out.cells
    have lQ := HQ.out.lt
    go_wp2_with fail
    go_at_call 14
    refine (has_any _ _ La p _ HPa.out ⟨.slice VA p.vals.length vc, rfl, HI.out⟩).mono ?_
    rintro e U4 ⟨rfl, hk⟩
    clear cQ lQ
    have HPb_ := Lib.hid (HPb.out.below hk)
    have HPa_ := Lib.hid (HPa.out.below hk)
    have HT_ := Lib.hid (HT.out.below hk)
    have HI_ := Lib.hid (HI.out.below hk)
    have HB_ := Lib.hid (Btrans HB.out hk)
    have HQ_ := Lib.hid (HQ.out.below hk)
    clear HPb HPa HT HI HB HQ hk
    have HPb := HPb_
    clear HPb_
    have HPa := HPa_
    clear HPa_
    have HT := HT_
    clear HT_
    have HI := HI_
    clear HI_
    have HB := HB_
    clear HB_
    have HQ := HQ_
    clear HQ_
    have cQ := HQ.out.cells
    have lQ := HQ.out.lt
    by_cases hm : p ∈ La.map PV.p
    · rw [decide_eq_true hm]
      have HM := Lib.hid hm
      clear hm
      go_wp2_with fail
      go_at_call 11
      refine (sameAll_any _ _ La Lb _ HPa.out HPb.out).mono ?_
      rintro e U5 ⟨rfl, hk⟩
      rw [show decide (La.map PV.p = Lb.map PV.p) = true from decide_eq_true (by
        rw [HLb.out, List.map_append, List.map_singleton]
        conv => lhs; rw [← HAg.out]
        refine (ordR_same (fun x hx => by obtain ⟨y, hy, rfl⟩ := List.mem_map.1 hx; exact HRa.out y hy) (fun x => ?_)).symm
        rw [List.mem_append, List.mem_singleton]
        exact ⟨fun h => h.elim id (fun h => h ▸ HM.out), .inl⟩)]
      have HB5 := Lib.hid (Btrans HB.out hk)
      clear hk cQ lQ
      go_wp2
      go_ret
      exact ⟨by simp, HB5.out⟩
    rw [decide_eq_false hm]
    have HM := Lib.hid hm
    clear hm
    go_wp2_with fail
    clear cQ lQ
    obtain ⟨u1, hu1⟩ : ∃ u, u = U4 := ⟨_, rfl⟩
    subst hu1
    go_loopw [10, 11] (fun c i wk => ∃ (k n : Nat) (A : Option Addr) (cc : Nat), k ≤ Lb.length ∧ i = .int .i64 k ∧ c = .slice A n cc ∧ n = ((Lb.take k).filter (fun y => !decide (y.p = p))).length ∧ Below u1.heap.size u1 wk ∧ wk.ownsRow u1.heap.size 31 6 (.slice A n cc) n (tk f6 ((Lb.take k).filter (fun y => !decide (y.p = p))))) (fun _ i _ => Lb.length - (intOf i).toNat)
    case atStart => exact ⟨0, 0, none, 0, by omega, rfl, rfl, by simp, Below.refl _ _, by simp [tk]; exact own_nilN _ _⟩
    case round =>
      obtain ⟨k, n, A6, c6, hk, rfl, rfl, hn, hb, hO⟩ := hrel
      have HB6 := Lib.hid hb
      have HO6 := Lib.hid hO
      have HN6 := Lib.hid hn
      have hbs6 := HB6.out.size
      have hn61 : n ≤ 61 := by
        have h1 := List.length_filter_le (fun y : PV => !decide (y.p = p)) (Lb.take k)
        rw [← hn, List.length_take] at h1
        omega
      clear hb hO hn
      have HQ6 := Lib.hid (HQ.out.below HB6.out)
      by_cases hlt : k < Lb.length
      · obtain ⟨x, hx⟩ : ∃ x, Lb[k]? = some x := ⟨_, List.getElem?_eq_getElem hlt⟩
        have HX := Lib.hid hx
        have HTK := Lib.hid (show (Lb.take (k + 1)).filter (fun y => !decide (y.p = p)) = (Lb.take k).filter (fun y => !decide (y.p = p)) ++ (if x.p = p then [] else [x]) by
          rw [List.take_add_one, hx, List.filter_append]
          congr 1
          by_cases h : x.p = p <;> simp [h])
        obtain ⟨ad, rfl, _, hsx⟩ := HPb.out.six hx
        have HSX := Lib.hid hsx
        clear hx hsx
        have hkl : (k : Int) < (Lb.length : Int) := by omega
        have lQ := HQ6.out.lt
        go_wp2_with fail
        have e1 : ∀ W, Below wr.heap.size wr W → ∀ i, W.cell? ⟨w.heap.size, i, none⟩ = (#[.int .i64 p.dev, .int .i64 p.chan, .int .i64 p.boot, .int .i64 p.seq, .int .i64 p.stamp, .slice VA p.vals.length vc] : Array Value)[i]? := fun W h => (HQ6.out.below h).cells
        have Sp := HSX.out.at HB6.out hbs6
        have z0 := fun V hV => (Sp V hV).1
        have z1 := fun V hV => (Sp V hV).2.1
        have z2 := fun V hV => (Sp V hV).2.2.1
        have z3 := fun V hV => (Sp V hV).2.2.2.1
        have z4 := fun V hV => (Sp V hV).2.2.2.2.1
        have z5 := fun V hV => (Sp V hV).2.2.2.2.2
        clear Sp
        refine wp_region_held_drew (S := fun w' => Below wr.heap.size wr w') (by kernel_rfl) (by exact (Below.refl _ _).drew) (fun hHeld => ?_)
        refine takeD 0 (some 57) (v := ?_) rfl rfl (by kernel_rfl) (by kernel_rfl) (by kernel_rfl) (fun _ _ _ h => h) (by rfl) ?_ (by assumption) ?_
        rotate_left
        · intro w hSw
          (try dsimp only at hSw)
          go_simp
          try with_reducible rfl
        try simp only [Act.put, List.setIfInBounds_toArray, List.set_cons_zero, List.set_cons_succ]
        refine takeD 1 (some 58) (v := ?_) rfl rfl (by kernel_rfl) (by kernel_rfl) (by kernel_rfl) (fun _ _ _ h => h) (by rfl) ?_ (by assumption) ?_
        rotate_left
        · intro w hSw
          (try dsimp only at hSw)
          go_simp
          try with_reducible rfl
        try simp only [Act.put, List.setIfInBounds_toArray, List.set_cons_zero, List.set_cons_succ]
        refine takeD 2 (some 59) (v := ?_) rfl rfl (by kernel_rfl) (by kernel_rfl) (by kernel_rfl) (fun _ _ _ h => h) (by rfl) ?_ (by assumption) ?_
        rotate_left
        · intro w hSw
          (try dsimp only at hSw)
          go_simp
          try with_reducible rfl
        try simp only [Act.put, List.setIfInBounds_toArray, List.set_cons_zero, List.set_cons_succ]
        refine takeD 3 (some 60) (v := ?_) rfl rfl (by kernel_rfl) (by kernel_rfl) (by kernel_rfl) (fun _ _ _ h => h) (by rfl) ?_ (by assumption) ?_
        rotate_left
        · intro w hSw
          (try dsimp only at hSw)
          go_simp
          try with_reducible rfl
        try simp only [Act.put, List.setIfInBounds_toArray, List.set_cons_zero, List.set_cons_succ]
        refine takeD 4 (some 61) (v := ?_) rfl rfl (by kernel_rfl) (by kernel_rfl) (by kernel_rfl) (fun _ _ _ h => h) (by rfl) ?_ (by assumption) ?_
        rotate_left
        · intro w hSw
          (try dsimp only at hSw)
          go_simp
          try with_reducible rfl
        try simp only [Act.put, List.setIfInBounds_toArray, List.set_cons_zero, List.set_cons_succ]
        refine wpAnyH_ready (rs := [5]) (by kernel_rfl) (by simp) ?_
        refine AllReadyH.cons rfl (fun K hK => ?_) AllReadyH.nil
        rw [if_pos (by rfl)]
        go_simp
        go_at_call 16
        refine (same_pk (.agg #[.int .i64 x.p.dev, .int .i64 x.p.chan, .int .i64 x.p.boot, .int .i64 x.p.seq, .int .i64 x.p.stamp, .slice x.A x.p.vals.length x.c]) _ x.p p _ ⟨x.vs, rfl, (HPb.out.2.2 x (List.mem_of_getElem? HX.out)).below (HB6.out.trans (hHeld.mono hbs6))⟩ ⟨.slice VA p.vals.length vc, rfl, HI.out.below (HB6.out.trans (hHeld.mono hbs6))⟩).mono ?_
        rintro e V1 ⟨rfl, hk⟩
        go_wp2_with fail
        refine hK.out _ _ ?_ (fun hHeld2 => ?_)
        · first | exact hHeld.trans (hk.mono hHeld.size) | (clear hK; have hz := hHeld.size; exact (Below.refl _ _).drew)
        clear hK K hHeld
        have hHeld := hHeld2
        clear hHeld2
        try clear hk
        try simp only [Act.put, List.setIfInBounds_toArray, List.set_cons_zero, List.set_cons_succ]
        refine takeD 6 (some 63) (v := ?_) rfl rfl (by kernel_rfl) (by kernel_rfl) (by kernel_rfl) (fun _ _ _ h => h) (by rfl) ?_ (by assumption) ?_
        rotate_left
        · intro w hSw
          (try dsimp only at hSw)
          go_simp
          try with_reducible rfl
        try simp only [Act.put, List.setIfInBounds_toArray, List.set_cons_zero, List.set_cons_succ]
        refine wpAnyH_done (by kernel_rfl) ?_ _
        have HB7 := Lib.hid (HB6.out.trans (hHeld.mono hbs6))
        have HO7 := Lib.hid (own_below HO6.out hHeld)
        have hbs7 := HB7.out.size
        have hbsx := hHeld.size
        have Sp := HSX.out _ HB7.out
        obtain ⟨k0, k1, k2, k3, k4, k5⟩ := Sp
        clear hHeld z0 z1 z2 z3 z4 z5 e1 lQ HB6 HO6 HQ6
        by_cases he : x.p = p
        · rw [decide_eq_true he]
          have HE := Lib.hid he
          clear he
          go_wp2
          go_roundw
          case rel => exact ⟨k + 1, n, A6, c6, by omega, by go_num, rfl, by rw [HTK.out, if_pos HE.out, List.append_nil]; exact HN6.out, HB7.out, by rw [HTK.out, if_pos HE.out, List.append_nil]; exact HO7.out⟩
          case measure => simp [intOf]; omega
        · rw [decide_eq_false he]
          have HE := Lib.hid he
          clear he
          go_wp2_with (first | (refine wpList_one6 (by rfl) ?_) | (at_builtin; refine wpList_appN elPk rfl (.tmp 64) (.tmp 69) rfl u1.heap.size _ n (tk f6 ((Lb.take k).filter (fun y => !decide (y.p = p)))) rfl (own_below HO7.out ((Below.refl _ _).alloc (Nat.le_refl _) _)) _ 1 (f6 x) rfl (RowN.of_blk (Blk.new _ _ _ _ rfl) rfl rfl (Nat.le_refl _) (by decide)) (f6_one _) ?_ ?_ ?_ ?_))
          case refine_1 => unfold maxLen; omega
          case refine_2 => omega
          case refine_3 => (try simp); omega
          intro v5 V5 hO5 hg5 _
          have HB8 := Lib.hid (below_app (HB7.out.alloc hbs7 _) (by simp; omega) (own_below HO7.out ((Below.refl _ _).alloc (Nat.le_refl _) _)) hg5 (Nat.le_refl _))
          obtain ⟨A7, c7, rfl, _⟩ := own_shapeX hO5
          have HO8 := Lib.hid hO5
          clear hO5 hg5 k0 k1 k2 k3 k4 k5
          go_wp2
          go_roundw
          case rel => exact ⟨k + 1, n + 1, A7, c7, by omega, by go_num, rfl, by rw [HTK.out, if_neg HE.out, List.length_append, ← HN6.out]; rfl, HB8.out, by
            rw [HTK.out, if_neg HE.out, tk_app, tk_one]
            exact HO8.out⟩
          case measure => simp [intOf]; omega
      · obtain rfl : k = Lb.length := by omega
        have HEq := Lib.hid (show ((Lb.take Lb.length).filter (fun y => !decide (y.p = p))).map PV.p = La.map PV.p by
          rw [List.take_length, ← filter_ins (ts := ts.map TV.t) HM.out, ← HIn.out, List.filter_map]
          rfl)
        have hlen : Lb.length = La.length + 1 := by
          have h := congrArg List.length HIn.out
          rw [len_ins HM.out] at h
          simpa using h
        have hwr : IntKind.i64.wrap ((La.length : Int) + 1) = (La.length : Int) + 1 := IntWalk.i64_in _ (by omega)
        have g9 : ((Lb.length : Int) == (La.length : Int) + 1) = true := by rw [beq_iff_eq]; omega
        have HLn := Lib.hid hlen
        clear hlen
        have HPc := Lib.hid (PRow.of_own HO6.out HN6.out (fun y hy => (HPb.out.2.2 y (List.mem_of_mem_take (List.mem_filter.1 hy).1)).below HB6.out))
        go_wp2_with fail
        go_at_call 11
        refine (sameAll_any _ _ La _ _ (HPa.out.below HB6.out) HPc.out).mono ?_
        rintro e U5 ⟨rfl, hk⟩
        rw [show decide (La.map PV.p = ((Lb.take Lb.length).filter (fun y => !decide (y.p = p))).map PV.p) = true from decide_eq_true HEq.out.symm]
        have HB9 := Lib.hid (Btrans (Btrans HB.out HB6.out) hk)
        clear hk
        go_wp2
        go_ret
        exact ⟨by simp, HB9.out⟩
end Go.Proofs.Ytgklbmhihfmagaa
