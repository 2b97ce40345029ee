/- Layer 14: packets, each once. -/
import Derived.Test.YtgklbmhihfmagaaBatchK
import Derived.Handy
import Derived.Laws.EntriesVeiled
namespace Go.Proofs.Ytgklbmhihfmagaa
open Go.ChangeShapes Go.WideShapes Go.ChangeAt Go.RowKit Go.Deep
set_option linter.unusedVariables false
set_option linter.unusedSimpArgs false

theorem own_shape {w : World} {base : Nat} {e : TypeId} {k n : Nat} {v : Value} {xs : List Value} (h : w.ownsRow base e k v n xs) : ∃ A c, v = .slice A n c := by
  obtain ⟨_, h2⟩ := h
  rcases h2 with ⟨rfl, rfl⟩ | ⟨g1, cap, cur, rfl, _⟩
  · exact ⟨none, 0, rfl⟩
  · exact ⟨_, cap, rfl⟩
theorem own_kept2 {w w' : World} {base n k : Nat} {e : TypeId} {v : Value} {xs : List Value} {row : Option Nat} (h : w.ownsRow base e k v n xs) (hg : w.grownBy w' row) (hne : ∀ g, v.ownBlock = some g → some g ≠ row) : w'.ownsRow base e k v n xs := by
  obtain ⟨h1, h2⟩ := h
  rcases h2 with h2 | ⟨g, cap, cur, hv, hbg, hgg, hrest⟩
  · exact ⟨h1, .inl h2⟩
  · exact ⟨h1, .inr ⟨g, cap, cur, hv, hbg, (hg.block g (Array.getElem?_eq_some_iff.1 hgg).1 (hne g (by rw [hv]; rfl))).trans hgg, hrest⟩⟩
theorem own_base {w : World} {base k n : Nat} {e : TypeId} {v : Value} {xs : List Value} (h : w.ownsRow base e k v n xs) {g : Nat} (hg : v.ownBlock = some g) : base ≤ g := by
  obtain ⟨_, h2⟩ := h
  rcases h2 with ⟨rfl, _⟩ | ⟨g1, cap, cur, rfl, hb, _⟩
  · simp [Value.ownBlock] at hg
  · simp [Value.ownBlock] at hg
    subst hg
    exact hb
theorem own_only2 {w w' : World} {base k n : Nat} {e : TypeId} {v : Value} {xs : List Value} {s : List Nat} (h : w.ownsRow base e k v n xs) (ho : Only s w w') (hs : ∀ g, v.ownBlock = some g → g ∉ s) : w'.ownsRow base e k v n xs := by
  obtain ⟨h1, h2⟩ := h
  rcases h2 with h2 | ⟨g, cap, cur, hv, hbg, hgg, hrest⟩
  · exact ⟨h1, .inl h2⟩
  · exact ⟨h1, .inr ⟨g, cap, cur, hv, hbg, (ho.block g (Array.getElem?_eq_some_iff.1 hgg).1 (hs g (by rw [hv]; rfl))).trans hgg, hrest⟩⟩
theorem tkok_at {ts : List TV} (h : ∀ t ∈ ts, TkOk t.t) (d : Int) : TkOk (tvAt ts d).t := by
  unfold tvAt
  split
  · rw [List.getD_eq_getElem?_getD]
    cases e : ts[d.toNat]? with
    | none => exact tkok_none
    | some t => exact h t (List.mem_of_getElem? e)
  · exact tkok_none
set_option maxRecDepth 100000 in
set_option maxHeartbeats 8000000 in
theorem once_any (vt vl : Value) (ts : List TV) (l : List PV) (w : World) (h0 : TRow w vt ts) (h1 : PRow w vl l) (hr : ∀ x ∈ l, x.p.right) (hT : ∀ t ∈ ts, TkOk t.t) (hl : l.length ≤ 1000) :
    Calls Try.prog 21 #[vt, vl] w fun e w' => ∃ v, e = .returned v ∧ w'.ownsRow (w.heap.size + 1) 51 9 v (onceL l).length (tk f9 ((onceL l).map (enOf (ts.map TV.t)))) ∧ Below w.heap.size w w' := by
  obtain ⟨A, c, rfl⟩ := h1.1
  have hcap := h1.2.1.caps
  unfold maxLen at hcap
  have HT := Lib.hid h0
  have HP := Lib.hid h1
  have HRi := Lib.hid hr
  have HTk := Lib.hid hT
  clear h0 h1 hr hT
  have hmm := @run_makeMap Try.prog
  go_enter Try.func21, Try.ntmps21
  go_wp2_with fail
  clear hmm
  go_loopw [5, 15] (fun v i wr => ∃ k n : Nat, k ≤ l.length ∧ i = .int .i64 k ∧ Below w.heap.size w wr ∧ n ≤ k ∧ Known wr w.heap.size n ((onceL (l.take k)).map PV.p) ∧ wr.ownsRow (w.heap.size + 1) 51 9 v (onceL (l.take k)).length (tk f9 ((onceL (l.take k)).map (enOf (ts.map TV.t))))) (fun _ i _ => l.length - (intOf i).toNat)
  case atStart => exact ⟨0, 0, by omega, rfl, by go_grown, by omega, Known.new w, own_nilN _ _⟩
  case round =>
    obtain ⟨k, n, hk, rfl, hb, hn, hK, hO⟩ := hrel
    obtain ⟨VA, vc, rfl⟩ := own_shape hO
    have HB := Lib.hid hb
    have HK := Lib.hid hK
    have HO := Lib.hid hO
    have hbl := hK.lt
    clear hb hK hO
    by_cases hlt : k < l.length
    · obtain ⟨x, hx⟩ : ∃ x, l[k]? = some x := ⟨_, List.getElem?_eq_getElem hlt⟩
      have HX := Lib.hid hx
      have HXr := Lib.hid (HRi.out x (List.mem_of_getElem? hx))
      have HXp := Lib.hid (HP.out.pk (List.mem_of_getElem? hx))
      obtain ⟨ad, rfl, _, hab, c0, c1, c2, c3, c4, c5⟩ := HP.out.atw hx
      have k0 := (HB.out.cell hab).trans c0
      have k1 := (HB.out.cell (p := ⟨(ad.add (k * 6)).block, (ad.add (k * 6)).off + 1, none⟩) hab).trans c1
      have k2 := (HB.out.cell (p := ⟨(ad.add (k * 6)).block, (ad.add (k * 6)).off + 2, none⟩) hab).trans c2
      have k3 := (HB.out.cell (p := ⟨(ad.add (k * 6)).block, (ad.add (k * 6)).off + 3, none⟩) hab).trans c3
      have k4 := (HB.out.cell (p := ⟨(ad.add (k * 6)).block, (ad.add (k * 6)).off + 4, none⟩) hab).trans c4
      have k5 := (HB.out.cell (p := ⟨(ad.add (k * 6)).block, (ad.add (k * 6)).off + 5, none⟩) hab).trans c5
      have HTK := Lib.hid (show l.take (k + 1) = l.take k ++ [x] by rw [List.take_add_one, hx]; rfl)
      have hjl : (k : Int) < (l.length : Int) := by omega
      have hwb : w.heap.size ≤ wr.heap.size := HB.out.size
      clear c0 c1 c2 c3 c4 c5 hx
      go_wp2_with fail
      clear k0 k1 k2 k3 k4 k5
      refine calls_world (fun W => Below wr.heap.size wr W ∧ Blk W wr.heap.size 31 #[.int .i64 x.p.dev, .int .i64 x.p.chan, .int .i64 x.p.boot, .int .i64 x.p.seq, .int .i64 x.p.stamp, .slice x.A x.p.vals.length x.c]) ⟨by go_grown, Blk.new _ _ _ _ rfl⟩ fun W2 ⟨hb2, hq2⟩ => ?_
      have HB2 := Lib.hid hb2
      have HQ2 := Lib.hid hq2
      clear hb2 hq2
      refine (data_yes _ x.p W2 (HXp.out.below (Btrans HB.out HB2.out)) HXr.out).mono ?_
      rintro e W3 ⟨u, rfl, hby, hk3⟩
      have hconv := run_conv (P := Try.prog) Try.underlying28 Try.underlying5 Try.underlying9 hby
      obtain ⟨UA, uc, hu, _⟩ := hby.1
      rw [List.length_map] at hu
      subst hu
      have HB3 := Lib.hid (Btrans HB2.out hk3)
      have HQ3 := Lib.hid (HQ2.out.below hk3)
      clear hk3 HB2 HQ2 hby
      have hx3 := HQ3.out.cells
      have hl3 := HQ3.out.lt
      by_cases hm : x.p ∈ (onceL (l.take k)).map PV.p
      · have HM := Lib.hid hm
        clear hm
        go_wp2_with (at_lookup; refine wpList_look rfl _ _ rfl rfl rfl (HK.out.below (Btrans HB3.out (by go_grown))) HXr.out true (decide_eq_true HM.out) ?_)
        go_roundw
        case rel => exact ⟨k + 1, n, by omega, by go_num, (Btrans HB.out HB3.out).trans (by go_grown), by omega, by rw [HTK.out, onceL_snoc, if_pos HM.out]; exact HK.out.below (Btrans HB3.out (by go_grown)), by rw [HTK.out, onceL_snoc, if_pos HM.out]; exact own_below HO.out (Btrans HB3.out (by go_grown))⟩
        case measure => simp [intOf]; omega
      · have HM := Lib.hid hm
        clear hm
        go_wp2_with (first | (at_lookup; refine wpList_look rfl _ _ rfl rfl rfl (HK.out.below (Btrans HB3.out (by go_grown))) HXr.out false (decide_eq_false HM.out) ?_) | (at_mapUpdate; refine wpList_put rfl _ _ _ rfl rfl rfl rfl (HK.out.below (Btrans HB3.out (by go_grown))) HXr.out (by unfold maxLen; omega) ?_; intro W4 hk4 hg4))
        have hs3 := HB3.out.size
        have h8 : Blk W4 wr.heap.size 31 #[.int .i64 x.p.dev, .int .i64 x.p.chan, .int .i64 x.p.boot, .int .i64 x.p.seq, .int .i64 x.p.stamp, .slice x.A x.p.vals.length x.c] := (hg4.block wr.heap.size (by simp; omega) (by simp; omega)).trans (HQ3.out.al _)
        have h11 : Blk W4 W3.heap.size 51 #[.int .i64 x.p.dev, .int .i64 x.p.chan, .int .i64 x.p.boot, .int .i64 x.p.seq, .int .i64 x.p.stamp, .slice x.A x.p.vals.length x.c, .int .i64 0, .int .i64 0, .string (bstr x.p.data)] := (hg4.block W3.heap.size (by simp) (by simp; omega)).trans (Blk.new _ _ _ _ rfl)
        have hB4 : Below w.heap.size w W4 := ((Btrans HB.out HB3.out).trans (by go_grown)).grown hg4 (by simp; omega) (fun g hg => by injection hg with hg; omega)
        have hO4 := own_kept2 (own_below HO.out (Btrans HB3.out (by go_grown))) hg4 (fun g hg e => by have := own_base HO.out hg; injection e with e; omega)
        have hol : ∀ g, (Value.slice VA (onceL (l.take k)).length vc).ownBlock = some g → g < wr.heap.size := fun g hg => own_lt HO.out hg
        have HOL := Lib.hid hol
        have HB4 := Lib.hid hB4
        have HO4 := Lib.hid hO4
        have HK4 := Lib.hid hk4
        have HE := Lib.hid h11
        have hl11 := h11.lt
        have hl8 := h8.lt
        have hlt83 : wr.heap.size < W3.heap.size := HQ3.out.lt
        have hne8 : wr.heap.size ≠ W3.heap.size := by omega
        have hsz4 : w.heap.size < W3.heap.size := by omega
        have hsz5 : w.heap.size ≤ W4.heap.size := hB4.size
        have e8 : ∀ W, Only [W3.heap.size] W4 W → ∀ i, W.cell? ⟨wr.heap.size, i, none⟩ = (#[.int .i64 x.p.dev, .int .i64 x.p.chan, .int .i64 x.p.boot, .int .i64 x.p.seq, .int .i64 x.p.stamp, .slice x.A x.p.vals.length x.c] : Array Value)[i]? := fun W h => (h8.only h (by simp; omega)).cells
        obtain ⟨kk, HKK⟩ : ∃ q, RowKit.Hid (kinO (tvAt ts x.p.dev).t x.p.boot = q ∧ kt (ts.map TV.t) x.p = q) := ⟨_, Lib.hid ⟨rfl, by rw [tvAt_t]; rfl⟩⟩
        obtain ⟨nn, HNN⟩ : ∃ q, RowKit.Hid (numO (tvAt ts x.p.dev).t x.p.boot x.p.seq = q ∧ nm (ts.map TV.t) x.p = q) := ⟨_, Lib.hid ⟨rfl, by rw [tvAt_t]; rfl⟩⟩
        clear hx3 hl3 hg4 hk4 hB4 hO4 hol h11 hs3 h8
        refine wp_region_held_drew (S := fun W => Only [W3.heap.size] W4 W) (by kernel_rfl) ((Only.refl _ _).drew 1) (fun hHeld => ?_)
        refine takeD 0 (some 36) (v := ?_) rfl rfl (by kernel_rfl) (by kernel_rfl) (by kernel_rfl) (fun _ _ _ h => h) (by rfl) ?_ (by assumption) ?_
        rotate_left
        · intro w hSw
          (try dsimp only at hSw)
          go_simp
          try with_reducible rfl
        try simp only [Act.put, List.setIfInBounds_toArray, List.set_cons_zero, List.set_cons_succ]
        refine takeD 1 (some 37) (v := ?_) rfl rfl (by kernel_rfl) (by kernel_rfl) (by kernel_rfl) (fun _ _ _ h => h) (by rfl) ?_ (by assumption) ?_
        rotate_left
        · intro w hSw
          (try dsimp only at hSw)
          go_simp
          try with_reducible rfl
        try simp only [Act.put, List.setIfInBounds_toArray, List.set_cons_zero, List.set_cons_succ]
        refine takeD 2 (some 38) (v := ?_) rfl rfl (by kernel_rfl) (by kernel_rfl) (by kernel_rfl) (fun _ _ _ h => h) (by rfl) ?_ (by assumption) ?_
        rotate_left
        · intro w hSw
          (try dsimp only at hSw)
          go_simp
          try with_reducible rfl
        try simp only [Act.put, List.setIfInBounds_toArray, List.set_cons_zero, List.set_cons_succ]
        refine takeD 4 (some 40) (v := ?_) rfl rfl (by kernel_rfl) (by kernel_rfl) (by kernel_rfl) (fun _ _ _ h => h) (by rfl) ?_ (by assumption) ?_
        rotate_left
        · intro w hSw
          (try dsimp only at hSw)
          go_simp
          try with_reducible rfl
        try simp only [Act.put, List.setIfInBounds_toArray, List.set_cons_zero, List.set_cons_succ]
        refine takeD 5 (some 41) (v := ?_) rfl rfl (by kernel_rfl) (by kernel_rfl) (by kernel_rfl) (fun _ _ _ h => h) (by rfl) ?_ (by assumption) ?_
        rotate_left
        · intro w hSw
          (try dsimp only at hSw)
          go_simp
          try with_reducible rfl
        try simp only [Act.put, List.setIfInBounds_toArray, List.set_cons_zero, List.set_cons_succ]
        refine takeD 6 (some 42) (v := ?_) rfl rfl (by kernel_rfl) (by kernel_rfl) (by kernel_rfl) (fun _ _ _ h => h) (by rfl) ?_ (by assumption) ?_
        rotate_left
        · intro w hSw
          (try dsimp only at hSw)
          go_simp
          try with_reducible rfl
        try simp only [Act.put, List.setIfInBounds_toArray, List.set_cons_zero, List.set_cons_succ]
        refine takeD 7 (some 43) (v := ?_) rfl rfl (by kernel_rfl) (by kernel_rfl) (by kernel_rfl) (fun _ _ _ h => h) (by rfl) ?_ (by assumption) ?_
        rotate_left
        · intro w hSw
          (try dsimp only at hSw)
          go_simp
          try with_reducible rfl
        try simp only [Act.put, List.setIfInBounds_toArray, List.set_cons_zero, List.set_cons_succ]
        refine wpAnyH_ready (rs := [3]) (by kernel_rfl) (by simp) ?_
        refine AllReadyH.cons rfl (fun K hK => ?_) AllReadyH.nil
        rw [if_pos (by rfl)]
        go_simp
        go_at_call 34
        refine (trackOf_any _ ts _ _ (HT.out.below (Only.below HB4.out hsz5 hHeld (by intro x hx; simp at hx; omega)))).mono ?_
        rintro e V1 ⟨rfl, hk⟩
        have HE1 := Lib.hid (HE.out.drw.below hk)
        have hS := hHeld.trans (Only.of_below _ hk)
        clear hk
        go_wp2_with fail
        refine hK.out _ _ ?_ (fun hHeld2 => ?_)
        · clear hK; exact hS
        clear hK K hHeld hS
        have hHeld := hHeld2
        clear hHeld2
        try simp only [Act.put, List.setIfInBounds_toArray, List.set_cons_zero, List.set_cons_succ]
        refine wpAnyH_ready (rs := [8]) (by kernel_rfl) (by simp) ?_
        refine AllReadyH.cons rfl (fun K hK => ?_) AllReadyH.nil
        rw [if_pos (by rfl)]
        go_simp
        go_at_call 33
        refine (index_any (tvAt ts x.p.dev) _ _ _ (tkok_at HTk.out _)).mono ?_
        rw [HKK.out.1, HNN.out.1]
        rintro e V2 ⟨rfl, hk⟩
        have HE2 := Lib.hid (HE1.out.below hk)
        have hS := hHeld.trans (Only.of_below _ hk)
        clear hk HE1
        go_wp2_with fail
        refine hK.out _ _ ?_ (fun hHeld2 => ?_)
        · clear hK; exact hS
        clear hK K hHeld hS
        have hHeld := hHeld2
        clear hHeld2
        try simp only [Act.put, List.setIfInBounds_toArray, List.set_cons_zero, List.set_cons_succ]
        refine takeD 9 (some 35) (v := ?_) rfl rfl (by kernel_rfl) (by kernel_rfl) (by kernel_rfl) (fun _ _ _ h => h) (by rfl) ?_ (by assumption) ?_
        rotate_left
        · intro w hSw
          (try dsimp only at hSw)
          go_simp
          try with_reducible rfl
        try simp only [Act.put, List.setIfInBounds_toArray, List.set_cons_zero, List.set_cons_succ]
        refine takeD 10 (some 45) (v := ?_) rfl rfl (by kernel_rfl) (by kernel_rfl) (by kernel_rfl) (fun _ _ _ h => h) (by rfl) ?_ (by assumption) ?_
        rotate_left
        · intro w hSw
          (try dsimp only at hSw)
          go_simp
          try with_reducible rfl
        try simp only [Act.put, List.setIfInBounds_toArray, List.set_cons_zero, List.set_cons_succ]
        refine takeD 11 (some 46) (v := ?_) rfl rfl (by kernel_rfl) (by kernel_rfl) (by kernel_rfl) (fun _ _ _ h => h) (by rfl) ?_ (by assumption) ?_
        rotate_left
        · intro w hSw
          (try dsimp only at hSw)
          go_simp
          try with_reducible rfl
        try simp only [Act.put, List.setIfInBounds_toArray, List.set_cons_zero, List.set_cons_succ]
        refine takeD 12 (some 47) (v := ?_) rfl rfl (by kernel_rfl) (by kernel_rfl) (by kernel_rfl) (fun _ _ _ h => h) (by rfl) ?_ (by assumption) ?_
        rotate_left
        · intro w hSw
          (try dsimp only at hSw)
          go_simp
          try with_reducible rfl
        try simp only [Act.put, List.setIfInBounds_toArray, List.set_cons_zero, List.set_cons_succ]
        refine wpAnyH_ready (rs := [13]) (by kernel_rfl) (by simp) ?_
        refine AllReadyH.cons rfl (fun K hK => ?_) AllReadyH.nil
        rw [if_pos (by rfl)]
        have cP := HE2.out.cells
        have fP := HE2.out.froz
        have lP := HE2.out.lt
        go_simp
        refine nameV (fun V => Only [W3.heap.size] W4 V ∧ Blk V W3.heap.size 51 #[.int .i64 x.p.dev, .int .i64 x.p.chan, .int .i64 x.p.boot, .int .i64 x.p.seq, .int .i64 x.p.stamp, .slice x.A x.p.vals.length x.c, .int .i64 kk, .int .i64 0, .string (bstr x.p.data)]) ⟨hHeld.setCell (by simp) _, by have := HE2.out.set 6 (.int .i64 kk); simpa using this⟩ fun V3 ⟨hS, hE⟩ => ?_
        have HE3 := Lib.hid hE
        clear hE cP fP lP HE2
        refine hK.out _ _ ?_ (fun hHeld2 => ?_)
        · clear hK; exact hS
        clear hK K hHeld hS
        have hHeld := hHeld2
        clear hHeld2
        try simp only [Act.put, List.setIfInBounds_toArray, List.set_cons_zero, List.set_cons_succ]
        refine takeD 14 (some 48) (v := ?_) rfl rfl (by kernel_rfl) (by kernel_rfl) (by kernel_rfl) (fun _ _ _ h => h) (by rfl) ?_ (by assumption) ?_
        rotate_left
        · intro w hSw
          (try dsimp only at hSw)
          go_simp
          try with_reducible rfl
        try simp only [Act.put, List.setIfInBounds_toArray, List.set_cons_zero, List.set_cons_succ]
        refine wpAnyH_ready (rs := [15]) (by kernel_rfl) (by simp) ?_
        refine AllReadyH.cons rfl (fun K hK => ?_) AllReadyH.nil
        rw [if_pos (by rfl)]
        have cP := HE3.out.cells
        have fP := HE3.out.froz
        have lP := HE3.out.lt
        go_simp
        refine nameV (fun V => Only [W3.heap.size] W4 V ∧ Blk V W3.heap.size 51 #[.int .i64 x.p.dev, .int .i64 x.p.chan, .int .i64 x.p.boot, .int .i64 x.p.seq, .int .i64 x.p.stamp, .slice x.A x.p.vals.length x.c, .int .i64 kk, .int .i64 nn, .string (bstr x.p.data)]) ⟨hHeld.setCell (by simp) _, by have := HE3.out.set 7 (.int .i64 nn); simpa using this⟩ fun V4 ⟨hS, hE⟩ => ?_
        have HE4 := Lib.hid hE
        clear hE cP fP lP HE3
        refine hK.out _ _ ?_ (fun hHeld2 => ?_)
        · clear hK; exact hS
        clear hK K hHeld hS
        have hHeld := hHeld2
        clear hHeld2
        try simp only [Act.put, List.setIfInBounds_toArray, List.set_cons_zero, List.set_cons_succ]
        refine wpAnyH_done (by kernel_rfl) ?_ _
        have hF := hHeld
        clear hHeld
        have hx11 := HE4.out.cells
        have hl11' := HE4.out.lt
        have hO5 := own_only2 HO4.out hF (fun g hg => by have := HOL.out g hg; simp; omega)
        have hK5 := HK4.out.only hF (by simp; omega)
        have hB5 := Only.below HB4.out hsz5 hF (by intro x hx; simp at hx; omega)
        have HO5 := Lib.hid hO5
        have HK5 := Lib.hid hK5
        have HB5 := Lib.hid hB5
        have hbs : w.heap.size + 1 ≤ V4.heap.size := by omega
        clear hO5 hK5 hB5 hF HE e8 hl11
        have hol := onceL_len (l.take k)
        rw [List.length_take] at hol
        have HOE := Lib.hid (show enOf (ts.map TV.t) x = ⟨x, kk, nn, bstr x.p.data⟩ by unfold enOf; rw [HKK.out.2, HNN.out.2])
        go_wp2_with (at_builtin; refine wpList_appN elE rfl _ _ rfl (w.heap.size + 1) _ (onceL (l.take k)).length _ rfl (own_below HO5.out (by go_grown)) _ 1 (f9 ⟨x, kk, nn, bstr x.p.data⟩) rfl (RowN.of_blk (Blk.new _ _ _ _ rfl) rfl rfl (Nat.le_refl _) (by decide)) (f9_one _) (by unfold maxLen; omega) (by omega) (by simp; omega) ?_; intro v9 W9 hO9 hg9 hor9)
        have HO9 := Lib.hid hO9
        have HG9 := Lib.hid hg9
        clear hO9 hg9 hor9
        go_roundw
        case rel => exact ⟨k + 1, n + 1, by omega, by go_num, below_app (HB5.out.trans (by go_grown)) (by simp; omega) (own_below HO5.out (by go_grown)) HG9.out (by omega), by omega, by rw [HTK.out, onceL_snoc, if_neg HM.out, List.map_append]; exact (HK5.out.below (by go_grown)).kept HG9.out (fun e => by have := own_base HO5.out e.symm; omega), by rw [HTK.out, onceL_snoc, if_neg HM.out, List.length_append, List.length_singleton, List.map_append, List.map_singleton, tk_app, tk_one, HOE.out]; exact HO9.out⟩
        case measure => simp [intOf]; omega
    · obtain rfl : k = l.length := by omega
      go_wp2
      go_ret
      refine ⟨.slice VA (onceL (l.take l.length)).length vc, by simp, ?_, HB.out⟩
      have h9 := HO.out
      rw [List.take_length] at h9 ⊢
      exact h9
end Go.Proofs.Ytgklbmhihfmagaa
