/- Layer 23: the law RenderText. -/
import Derived.Test.YtaelhgkodcgmnaaDoorRendAM
import Derived.Handy
import Derived.IntWalk
namespace Go.Proofs.YtaelhgkodcgmnaaDoor
open Go.ChangeShapes Go.WideShapes Go.ChangeAt Go.RowKit Go.Deep
open Go.Shelf
set_option linter.unusedVariables false
set_option linter.unusedSimpArgs false

theorem split_words10 (s : ByteArray) : D (Lib.splitB ⟨#[10]⟩ 0 (Lib.countB s ⟨#[10]⟩) s) = spl 10 s.data.toList := by
  unfold D
  rw [Lib.splitB_data, ← split_spl]
  rfl
theorem count_le10 (s : ByteArray) : Lib.countB s ⟨#[10]⟩ ≤ s.size := by
  show Lib.count s.data.toList [10] ≤ s.data.toList.length
  rw [Lib.count_one]
  exact List.count_le_length
theorem split10_any (s : ByteArray) (hs : s.size < 4294967281) (w : World) (hE : Env w) :
    Calls Tryd.prog 21 #[.string s, .string ⟨#[10]⟩] w fun e w' => (∃ v ps, e = .returned v ∧ WRow w' v ps ∧ D ps = spl 10 s.data.toList) ∧ Below w.heap.size w w' := by
  obtain ⟨m, hm⟩ := hE.len
  refine (Tryd.strings_Split s ⟨#[10]⟩ m w hs hm (by decide)).mono ?_
  rintro e w' ⟨rfl, rfl⟩
  have hl : (Lib.splitB ⟨#[10]⟩ 0 (Lib.countB s ⟨#[10]⟩) s).length = Lib.countB s ⟨#[10]⟩ + 1 := Lib.splitB_all _ (by decide) 0 _ s rfl
  have hc := count_le10 s
  refine ⟨⟨_, _, rfl, ⟨?_, ?_⟩, split_words10 s⟩, (Below.refl _ w).alloc (Nat.le_refl _) _⟩
  · have := Row.new ((Lib.splitB ⟨#[10]⟩ 0 (Lib.countB s ⟨#[10]⟩) s).map Value.string) 9 (Lib.countB s ⟨#[10]⟩ + 1) (by rw [List.length_map, hl]; exact Nat.le_refl _) (by unfold maxLen; omega) w _ rfl
    rw [List.length_map, hl] at this
    exact this
  · intro A n c e
    injection e with e
    injection e with e
    rw [← e]
set_option maxRecDepth 100000 in
set_option maxHeartbeats 8000000 in
theorem walk_RenderText (v : Value) (l : List TdV) (w : World) (hE : Env w) (hT : TRow w v l) :
    Calls Tryd.prog 7 #[v] w fun e w' => e = .returned (.bool true) ∧ Below w.heap.size w w' := by
  obtain ⟨A, c, rfl⟩ := hT.1
  have HT := Lib.hid hT
  have HE := Lib.hid hE
  clear hT hE
  go_enter Tryd.func7, Tryd.ntmps7
  go_wp2_with fail
  go_at_call 9
  refine (head_any _ HE.out).mono ?_
  rintro e W1 ⟨rfl, hk⟩
  have HB1 := Lib.hid hk
  clear hk
  by_cases hn : (30 : Int) < (l.length : Int)
  · go_wp2
    go_ret
    exact ⟨by rfl, HB1.out⟩
  go_wp2_with fail
  go_loopw [4] (fun i wr => ∃ k : Nat, k ≤ l.length ∧ i = .int .i64 k ∧ Below w.heap.size w wr ∧ ∀ x ∈ l.take k, smallT x.t) (fun i _ => l.length - (intOf i).toNat)
  case atStart => exact ⟨0, Nat.zero_le _, rfl, HB1.out, by simp⟩
  case round =>
    obtain ⟨k, hk, rfl, hb, hsm⟩ := hrel
    have HB := Lib.hid hb
    have HSM := Lib.hid hsm
    clear hb hsm
    by_cases hlt : k < l.length
    · obtain ⟨x, hx⟩ : ∃ x, l[k]? = some x := ⟨_, List.getElem?_eq_getElem hlt⟩
      have HM := Lib.hid (List.mem_of_getElem? hx)
      obtain ⟨ad, e1, hab, c0, c1, c2, c3⟩ := HT.out.atw hx
      subst e1
      have hkl : (k : Int) < (l.length : Int) := by omega
      have k0 := (HB.out.cell hab).trans c0
      have k1 := (HB.out.cell (p := ⟨(ad.add (k * 4)).block, (ad.add (k * 4)).off + 1, none⟩) hab).trans c1
      have k2 := (HB.out.cell (p := ⟨(ad.add (k * 4)).block, (ad.add (k * 4)).off + 2, none⟩) hab).trans c2
      have k3 := (HB.out.cell (p := ⟨(ad.add (k * 4)).block, (ad.add (k * 4)).off + 3, none⟩) hab).trans c3
      have HTK := Lib.hid (show l.take (k + 1) = l.take k ++ [x] by rw [List.take_add_one, hx]; rfl)
      clear c0 c1 c2 c3 hx
      go_wp2_with fail
      go_at_call 10
      refine (great_any _ x.t _ ((HT.out.2.2 x HM.out).told.below HB.out)).mono ?_
      rintro e W2 ⟨rfl, hk2⟩
      have HB2 := Lib.hid (Btrans HB.out hk2)
      clear hk2 k0 k1 k2 k3
      by_cases hs : smallT x.t
      · rw [great_no hs]
        have HS := Lib.hid hs
        clear hs
        go_wp2
        go_roundw
        case rel => exact ⟨k + 1, by omega, by go_num, HB2.out, fun y hy => by
          rw [HTK.out] at hy
          rcases List.mem_append.1 hy with h | h
          · exact HSM.out y h
          · rw [List.mem_singleton] at h; subst h; exact HS.out⟩
        case measure => simp [intOf]; omega
      · rw [great_yes hs]
        clear hs
        go_wp2
        go_ret
        exact ⟨by rfl, HB2.out⟩
    · obtain rfl : k = l.length := by omega
      rw [List.take_length] at HSM
      go_wp2_with fail
      go_at_call 18
      refine (text_any _ l _ (HT.out.below HB.out) (HE.out.below HB.out) HSM.out (by omega)).mono ?_
      rintro e W2 ⟨rfl, hk2⟩
      have HB2 := Lib.hid (Btrans HB.out hk2)
      clear hk2
      go_wp2_with fail
      go_at_call 21
      refine (split10_any _ (by
        rw [Lib.size_eq, strB_data]
        have h1 := text_len (l := l.map TdV.t) (fun t ht => by
          obtain ⟨y, hy, rfl⟩ := List.mem_map.1 ht
          exact ⟨HSM.out y hy, (HT.out.2.2 y hy).2.2.2⟩)
        rw [List.length_map] at h1
        omega) _ (HE.out.below HB2.out)).mono ?_
      rintro e W3 ⟨⟨v3, ps, rfl, hw, hD⟩, hk3⟩
      rw [strB_data, text_spl] at hD
      obtain ⟨A3, c3_, rfl, hl3⟩ := hw.1.len
      have hpl : ps.length = l.length + 1 := by
        have h1 : (D ps).length = ps.length := by simp [D]
        rw [hD] at h1
        simp at h1
        omega
      have HW := Lib.hid hw
      have HD := Lib.hid hD
      have HPL := Lib.hid hpl
      have HB3 := Lib.hid (Btrans HB2.out hk3)
      obtain ⟨pe, hpe⟩ : ∃ p, ps[l.length]? = some p := ⟨_, List.getElem?_eq_getElem (by omega)⟩
      have hped : pe.data.toList = [] := by
        have h1 : (D ps)[l.length]? = some pe.data.toList := by unfold D; rw [List.getElem?_map, hpe]; rfl
        rw [hD, List.getElem?_append_right (by simp)] at h1
        simpa using h1.symm
      obtain ⟨ad3, e3, hab3, ce⟩ := hw.1.at hpe
      subst e3
      have qe : (pe.toList == []) = true := by rw [toList_data, hped]; rfl
      have q1 : ((ps.length : Int) != (l.length : Int) + 1) = false := by simp; omega
      have q2 : (l.length : Int) < (ps.length : Int) := by omega
      clear hw hD hpl hk3 hpe hped hl3
      go_wp2_with fail
      clear ce qe q1
      obtain ⟨u1, hu⟩ : ∃ u, u = wr := ⟨wr, rfl⟩
      subst hu
      go_loopw [6] (fun i wr => ∃ k : Nat, k ≤ l.length ∧ i = .int .i64 k ∧ Below W3.heap.size W3 wr) (fun i _ => l.length - (intOf i).toNat)
      case atStart => exact ⟨0, Nat.zero_le _, rfl, Below.refl _ _⟩
      case round =>
        clear HB
        obtain ⟨k, hk, rfl, hb⟩ := hrel
        have HB := Lib.hid (HB3.out.trans (hb.mono HB3.out.size))
        have HC := Lib.hid hb
        clear hb
        by_cases hlt : k < l.length
        · obtain ⟨x, hx⟩ : ∃ x, l[k]? = some x := ⟨_, List.getElem?_eq_getElem hlt⟩
          have HM := Lib.hid (List.mem_of_getElem? hx)
          obtain ⟨ad, e1, hab, c0, c1, c2, c3⟩ := HT.out.atw hx
          subst e1
          have hkl : (k : Int) < (l.length : Int) := by omega
          obtain ⟨pk, hpk⟩ : ∃ p, ps[k]? = some p := ⟨_, List.getElem?_eq_getElem (by have := HPL.out; omega)⟩
          have hpd : pk.data.toList = lineR x.t := by
            have h1 : (D ps)[k]? = some pk.data.toList := by unfold D; rw [List.getElem?_map, hpk]; rfl
            rw [HD.out, List.getElem?_append_left (by simp; omega), List.getElem?_map, List.getElem?_map, hx] at h1
            simpa using h1.symm
          obtain ⟨ad4, e4, hab4, cw⟩ := HW.out.1.at hpk
          injection e4 with e4
          subst e4
          have k0 : ∀ V, Below wr.heap.size wr V → V.cell? (ad.add (k * 4)) = some (.int .i64 x.t.tick) := fun V hV => ((HB.out.trans (hV.mono HB.out.size)).cell hab).trans c0
          have k1 : ∀ V, Below wr.heap.size wr V → V.cell? ⟨(ad.add (k * 4)).block, (ad.add (k * 4)).off + 1, none⟩ = some (.slice x.ca x.t.cells.length x.cc) := fun V hV => ((HB.out.trans (hV.mono HB.out.size)).cell (p := ⟨(ad.add (k * 4)).block, (ad.add (k * 4)).off + 1, none⟩) hab).trans c1
          have k2 : ∀ V, Below wr.heap.size wr V → V.cell? ⟨(ad.add (k * 4)).block, (ad.add (k * 4)).off + 2, none⟩ = some (.slice x.ra x.t.rules.length x.rc) := fun V hV => ((HB.out.trans (hV.mono HB.out.size)).cell (p := ⟨(ad.add (k * 4)).block, (ad.add (k * 4)).off + 2, none⟩) hab).trans c2
          have k3 : ∀ V, Below wr.heap.size wr V → V.cell? ⟨(ad.add (k * 4)).block, (ad.add (k * 4)).off + 3, none⟩ = some (.slice x.ha x.t.chans.length x.hc) := fun V hV => ((HB.out.trans (hV.mono HB.out.size)).cell (p := ⟨(ad.add (k * 4)).block, (ad.add (k * 4)).off + 3, none⟩) hab).trans c3
          have k4 : ∀ V, Below wr.heap.size wr V → V.cell? (ad3.add k) = some (.string pk) := fun V hV => ((HC.out.trans (hV.mono HC.out.size)).cell hab4).trans cw
          have hkp : (k : Int) < (ps.length : Int) := by omega
          have hcmp : (pk.toList == (strB (lineR x.t)).toList) = true := by
            rw [toList_data, toList_data, strB_data, hpd]
            exact beq_self_eq_true _
          clear c0 c1 c2 c3 cw hx hpk hpd
          go_wp2_with fail
          refine wp_region_held_drew (S := fun V => Below wr.heap.size wr V) (by kernel_rfl) (by exact below_drew1 _) (fun hHeld => ?_)
          refine takeD 0 (some 47) (v := ?_) rfl rfl (by kernel_rfl) (by kernel_rfl) (by kernel_rfl) (fun _ _ _ h => h) (by rfl) ?_ (by assumption) ?_
          rotate_left
          · intro w hSw
            (try dsimp only at hSw)
            go_simp
            try with_reducible rfl
          try simp only [Act.put, List.setIfInBounds_toArray, List.set_cons_zero, List.set_cons_succ]
          refine takeD 1 (some 48) (v := ?_) rfl rfl (by kernel_rfl) (by kernel_rfl) (by kernel_rfl) (fun _ _ _ h => h) (by rfl) ?_ (by assumption) ?_
          rotate_left
          · intro w hSw
            (try dsimp only at hSw)
            go_simp
            try with_reducible rfl
          try simp only [Act.put, List.setIfInBounds_toArray, List.set_cons_zero, List.set_cons_succ]
          refine takeD 2 (some 49) (v := ?_) rfl rfl (by kernel_rfl) (by kernel_rfl) (by kernel_rfl) (fun _ _ _ h => h) (by rfl) ?_ (by assumption) ?_
          rotate_left
          · intro w hSw
            (try dsimp only at hSw)
            go_simp
            try with_reducible rfl
          try simp only [Act.put, List.setIfInBounds_toArray, List.set_cons_zero, List.set_cons_succ]
          refine takeD 3 (some 50) (v := ?_) rfl rfl (by kernel_rfl) (by kernel_rfl) (by kernel_rfl) (fun _ _ _ h => h) (by rfl) ?_ (by assumption) ?_
          rotate_left
          · intro w hSw
            (try dsimp only at hSw)
            go_simp
            try with_reducible rfl
          try simp only [Act.put, List.setIfInBounds_toArray, List.set_cons_zero, List.set_cons_succ]
          refine takeD 4 (some 51) (v := ?_) rfl rfl (by kernel_rfl) (by kernel_rfl) (by kernel_rfl) (fun _ _ _ h => h) (by rfl) ?_ (by assumption) ?_
          rotate_left
          · intro w hSw
            (try dsimp only at hSw)
            go_simp
            try with_reducible rfl
          try simp only [Act.put, List.setIfInBounds_toArray, List.set_cons_zero, List.set_cons_succ]
          refine takeD 5 (some 52) (v := ?_) rfl rfl (by kernel_rfl) (by kernel_rfl) (by kernel_rfl) (fun _ _ _ h => h) (by rfl) ?_ (by assumption) ?_
          rotate_left
          · intro w hSw
            (try dsimp only at hSw)
            go_simp
            try with_reducible rfl
          try simp only [Act.put, List.setIfInBounds_toArray, List.set_cons_zero, List.set_cons_succ]
          refine takeD 6 (some 53) (v := ?_) rfl rfl (by kernel_rfl) (by kernel_rfl) (by kernel_rfl) (fun _ _ _ h => h) (by rfl) ?_ (by assumption) ?_
          rotate_left
          · intro w hSw
            (try dsimp only at hSw)
            go_simp
            try with_reducible rfl
          try simp only [Act.put, List.setIfInBounds_toArray, List.set_cons_zero, List.set_cons_succ]
          refine takeD 7 (some 54) (v := ?_) rfl rfl (by kernel_rfl) (by kernel_rfl) (by kernel_rfl) (fun _ _ _ h => h) (by rfl) ?_ (by assumption) ?_
          rotate_left
          · intro w hSw
            (try dsimp only at hSw)
            go_simp
            try with_reducible rfl
          try simp only [Act.put, List.setIfInBounds_toArray, List.set_cons_zero, List.set_cons_succ]
          refine wpAnyH_ready (rs := [8]) (by kernel_rfl) (by simp) ?_
          refine AllReadyH.cons rfl (fun K hK => ?_) AllReadyH.nil
          rw [if_pos (by rfl)]
          go_simp
          go_at_call 15
          refine (line_any _ x.t _ (((HT.out.2.2 x HM.out).told.below HB.out).below hHeld) (HT.out.2.2 x HM.out).2.2.2 ((HE.out.below HB.out).below hHeld) (small_sz (HSM.out x HM.out))).mono ?_
          rintro e V1 ⟨rfl, hk4⟩
          have hS := Btrans hHeld hk4
          clear hk4
          go_simp
          refine hK.out _ _ ?_ (fun hHeld2 => ?_)
          · clear hK; exact hS
          clear hK K hHeld hS
          have hHeld := hHeld2
          clear hHeld2
          try simp only [Act.put, List.setIfInBounds_toArray, List.set_cons_zero, List.set_cons_succ]
          refine takeD 9 (some 56) (v := ?_) rfl rfl (by kernel_rfl) (by kernel_rfl) (by kernel_rfl) (fun _ _ _ h => h) (by rfl) ?_ (by assumption) ?_
          rotate_left
          · intro w hSw
            (try dsimp only at hSw)
            go_simp
            try with_reducible rfl
          try simp only [Act.put, List.setIfInBounds_toArray, List.set_cons_zero, List.set_cons_succ]
          refine wpAnyH_done (by kernel_rfl) ?_ _
          have HF := Lib.hid hHeld
          clear hHeld k0 k1 k2 k3 k4
          go_wp2
          go_roundw
          case rel => exact ⟨k + 1, by omega, by go_num, HC.out.trans (HF.out.mono HC.out.size)⟩
          case measure => simp [intOf]; omega
        · obtain rfl : k = l.length := by omega
          go_wp2
          go_ret
          exact ⟨by rfl, HB.out⟩
end Go.Proofs.YtaelhgkodcgmnaaDoor
