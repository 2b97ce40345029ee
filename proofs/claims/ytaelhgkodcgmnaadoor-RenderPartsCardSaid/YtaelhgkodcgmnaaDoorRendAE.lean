/- Layer 23: Text. -/
import Derived.Test.YtaelhgkodcgmnaaDoorRendAD
import Derived.Handy
import Derived.IntWalk
namespace Go.Proofs.YtaelhgkodcgmnaaDoor
open Go.ChangeShapes Go.WideShapes Go.ChangeAt Go.RowKit Go.Deep
open Go.Shelf
set_option linter.unusedVariables false
set_option linter.unusedSimpArgs false

theorem line_len {t : Td} (hs : smallT t) (h6 : td64 t) : (lineR t).length ≤ 5000 := by
  by_cases h : tdR t
  · have one : ∀ l : List (Bool × Bool), ∀ w ∈ ([47] :: alW l : List Str), w.length ≤ 1 := by
      intro l w hw
      rcases List.mem_cons.1 hw with rfl | hw
      · exact Nat.le_refl _
      · obtain ⟨a, _, rfl⟩ := List.mem_map.1 hw
        exact Nat.le_refl _
    have len : ∀ l : List (Bool × Bool), ([47] :: alW l : List Str).length = l.length + 1 := by intro l; simp [alW]
    have h1 := L2_len h6 t.cells.length
    have h2 := addWs_len 1 ([47] :: alW t.rules) (L2 t t.cells.length) (one _)
    have h3 := addWs_len 1 ([47] :: alW t.chans) (addWs (L2 t t.cells.length) ([47] :: alW t.rules)) (one _)
    rw [len] at h2 h3
    rw [line_L2 h]
    obtain ⟨g1, g2, g3⟩ := hs
    omega
  · unfold lineR
    rw [if_neg h]
    exact Nat.zero_le _
theorem text_len : ∀ {l : List Td}, (∀ t ∈ l, smallT t ∧ td64 t) → (textR l).length ≤ l.length * 5001 := by
  intro l
  induction l with
  | nil => intro _; exact Nat.zero_le _
  | cons t l ih =>
    intro h
    have e : textR (t :: l) = lineR t ++ [10] ++ textR l := by simp [textR]
    have h1 := line_len (h t (by simp)).1 (h t (by simp)).2
    have h2 := ih (fun x hx => h x (by simp [hx]))
    rw [e]
    simp only [List.length_append, List.length_cons, List.length_nil]
    omega
theorem text_snoc (l : List Td) (t : Td) : textR (l ++ [t]) = textR l ++ lineR t ++ [10] := by simp [textR]
theorem text_ne {l : List Td} (h : 0 < l.length) : textR l ≠ [] := by
  match l, h with
  | t :: l, _ => simp [textR]
set_option maxRecDepth 100000 in
set_option maxHeartbeats 8000000 in
theorem text_any (v : Value) (l : List TdV) (w : World) (hT : TRow w v l) (hE : Env w) (hsm : ∀ x ∈ l, smallT x.t) (hn : l.length ≤ 1000) :
    Calls Tryd.prog 18 #[v] w fun e w' => e = .returned (.string (strB (textR (l.map TdV.t)))) ∧ Below w.heap.size w w' := by
  obtain ⟨A, c, rfl⟩ := hT.1
  have HT := Lib.hid hT
  have HE := Lib.hid hE
  have HSM := Lib.hid hsm
  have HOK := Lib.hid (fun x hx => (⟨hsm x hx, (hT.2.2 x hx).2.2.2⟩ : smallT x.t ∧ td64 x.t))
  clear hT hE hsm
  go_enter Tryd.func18, Tryd.ntmps18
  go_wp2_with fail
  go_loopw [10] (fun i wr => ∃ k : Nat, k ≤ l.length ∧ i = .int .i64 k ∧ IsWr w.heap.size w.heap.size (Lib.byteCells (textR ((l.map TdV.t).take k))) wr ∧ Below w.heap.size w wr ∧ (k = 0 → wr.heap[w.heap.size]? = some (.cells #[.pointer none, .slice none 0 0] 58 (0, 0)))) (fun i _ => l.length - (intOf i).toNat)
  case atStart => exact ⟨0, Nat.zero_le _, rfl, by simp [textR, Lib.byteCells]; exact IsWr.new w _ _ rfl (Nat.le_refl _), by go_grown, fun _ => heap_alloc_new _ _⟩
  case round =>
    obtain ⟨k, hk, rfl, hI, hb, h0⟩ := hrel
    have HI := Lib.hid hI
    have HB := Lib.hid hb
    have H0 := Lib.hid h0
    have hbs := hb.size
    have hbw := hI.lt
    clear hI hb h0
    by_cases hlt : k < l.length
    · obtain ⟨x, hx⟩ : ∃ x, l[k]? = some x := ⟨_, List.getElem?_eq_getElem hlt⟩
      have HX := Lib.hid hx
      obtain ⟨ad, rfl, hab, c0, c1, c2, c3⟩ := HT.out.atw hx
      have k0 := (HB.out.cell hab).trans c0
      have k1 := (HB.out.cell (p := ⟨(ad.add (k * 4)).block, (ad.add (k * 4)).off + 1, none⟩) hab).trans c1
      have k2 := (HB.out.cell (p := ⟨(ad.add (k * 4)).block, (ad.add (k * 4)).off + 2, none⟩) hab).trans c2
      have k3 := (HB.out.cell (p := ⟨(ad.add (k * 4)).block, (ad.add (k * 4)).off + 3, none⟩) hab).trans c3
      have hkl : (k : Int) < (l.length : Int) := by omega
      have HM := Lib.hid (List.mem_of_getElem? hx)
      have HTK := Lib.hid (show textR ((l.map TdV.t).take (k + 1)) = textR ((l.map TdV.t).take k) ++ lineR x.t ++ [10] by rw [List.take_add_one, List.getElem?_map, hx]; exact text_snoc _ _)
      have HLEN := Lib.hid (show (textR ((l.map TdV.t).take k)).length ≤ 5001000 by
        have h1 := text_len (l := (l.map TdV.t).take k) (fun t ht => by
          obtain ⟨y, hy, rfl⟩ := List.mem_map.1 (List.mem_of_mem_take ht)
          exact HOK.out y hy)
        have h2 : ((l.map TdV.t).take k).length ≤ 1000 := by rw [List.length_take, List.length_map]; omega
        omega)
      clear c0 c1 c2 c3 hx
      go_wp2_with fail
      refine wp_world (fun U => Below wr.heap.size wr U ∧ Blk U wr.heap.size 25 #[.int .i64 x.t.tick, .slice x.ca x.t.cells.length x.cc, .slice x.ra x.t.rules.length x.rc, .slice x.ha x.t.chans.length x.hc]) ⟨by go_grown, Blk.new _ _ _ _ rfl⟩ fun U0 ⟨hu, hq⟩ => ?_
      have HU := Lib.hid hu
      have HQ := Lib.hid hq
      have hus := hu.size
      clear hu hq k0 k1 k2 k3
      refine wp_region_held_drew (S := fun U => ∀ i, U.cell? ⟨wr.heap.size, i, none⟩ = (#[.int .i64 x.t.tick, .slice x.ca x.t.cells.length x.cc, .slice x.ra x.t.rules.length x.rc, .slice x.ha x.t.chans.length x.hc] : Array Value)[i]?) (by kernel_rfl) (by exact HQ.out.cells) (fun hHeld => ?_)
      refine takeD 0 (some 14) (v := ?_) rfl rfl (by kernel_rfl) (by kernel_rfl) (by kernel_rfl) (fun _ _ _ h => h) (by rfl) ?_ (by assumption) ?_
      rotate_left
      · intro w hSw
        (try dsimp only at hSw)
        go_simp
        try with_reducible rfl
      try simp only [Act.put, List.setIfInBounds_toArray, List.set_cons_zero, List.set_cons_succ]
      refine takeD 1 (some 15) (v := ?_) rfl rfl (by kernel_rfl) (by kernel_rfl) (by kernel_rfl) (fun _ _ _ h => h) (by rfl) ?_ (by assumption) ?_
      rotate_left
      · intro w hSw
        (try dsimp only at hSw)
        go_simp
        try with_reducible rfl
      try simp only [Act.put, List.setIfInBounds_toArray, List.set_cons_zero, List.set_cons_succ]
      refine takeD 2 (some 16) (v := ?_) rfl rfl (by kernel_rfl) (by kernel_rfl) (by kernel_rfl) (fun _ _ _ h => h) (by rfl) ?_ (by assumption) ?_
      rotate_left
      · intro w hSw
        (try dsimp only at hSw)
        go_simp
        try with_reducible rfl
      try simp only [Act.put, List.setIfInBounds_toArray, List.set_cons_zero, List.set_cons_succ]
      refine takeD 3 (some 17) (v := ?_) rfl rfl (by kernel_rfl) (by kernel_rfl) (by kernel_rfl) (fun _ _ _ h => h) (by rfl) ?_ (by assumption) ?_
      rotate_left
      · intro w hSw
        (try dsimp only at hSw)
        go_simp
        try with_reducible rfl
      try simp only [Act.put, List.setIfInBounds_toArray, List.set_cons_zero, List.set_cons_succ]
      refine wpAnyH_ready (rs := [4]) (by kernel_rfl) (by simp) ?_
      refine AllReadyH.cons rfl (fun K hK => ?_) AllReadyH.nil
      rw [if_pos (by rfl)]
      go_simp
      go_at_call 15
      refine calls_world (fun W => Below U0.heap.size U0 W) (below_drew1 _) fun V0 hv => ?_
      have HU := Lib.hid (Btrans HU.out hv)
      have HQ := Lib.hid (HQ.out.below hv)
      clear hv
      refine (line_any _ x.t _ (((HT.out.2.2 x HM.out).told.below HB.out).below HU.out) (HOK.out x HM.out).2 (HE.out.below (HB.out.trans (HU.out.mono hbs))) (by obtain ⟨⟨g1, g2, g3⟩, _⟩ := HOK.out x HM.out; omega)).mono ?_
      rintro e U1 ⟨rfl, hk⟩
      have HU1 := Lib.hid (Btrans HU.out hk)
      have HI1 := Lib.hid (HI.out.below HU1.out)
      have HQ1 := Lib.hid (HQ.out.below hk)
      have hS := HQ1.out.cells
      have hus1 := HU1.out.size
      clear hk
      go_simp
      refine hK.out _ _ ?_ (fun hHeld2 => ?_)
      · clear hK; exact hS
      clear hK K hHeld hS
      have hHeld := hHeld2
      clear hHeld2
      try simp only [Act.put, List.setIfInBounds_toArray, List.set_cons_zero, List.set_cons_succ]
      refine wpAnyH_ready (rs := [5]) (by kernel_rfl) (by simp) ?_
      refine AllReadyH.cons rfl (fun K hK => ?_) AllReadyH.nil
      rw [if_pos (by rfl)]
      go_simp
      go_at_call 35
      refine (wstr_any w.heap.size w.heap.size _ (strB (lineR x.t)) _ HI1.out (by
        rw [Lib.byteCells_length]
        have h1 := HLEN.out
        have h2 := line_len (HOK.out x HM.out).1 (HOK.out x HM.out).2
        have h3 : (strB (lineR x.t)).size = (lineR x.t).length := by rw [Lib.size_eq, strB_data]
        omega) (by omega)).mono ?_
      rintro e U2 ⟨rfl, h2, hb2, hk2⟩
      have HB2 := Lib.hid ((HB.out.trans (HU1.out.mono hbs)).trans hb2)
      have HI2 := Lib.hid (show IsWr w.heap.size w.heap.size (Lib.byteCells (textR ((l.map TdV.t).take k) ++ lineR x.t)) U2 by
        rw [byteCells_app]
        rw [strCells_eq, strB_data] at h2
        exact .inr h2)
      have HQ2 := Lib.hid (Blk.others HQ1.out hk2 (by omega) (by decide))
      have hS := HQ2.out.cells
      clear h2 hb2 hk2
      go_simp
      refine hK.out _ _ ?_ (fun hHeld2 => ?_)
      · clear hK; exact hS
      clear hK K hHeld hS
      have hHeld := hHeld2
      clear hHeld2
      try simp only [Act.put, List.setIfInBounds_toArray, List.set_cons_zero, List.set_cons_succ]
      refine wpAnyH_done (by kernel_rfl) ?_ _
      clear hHeld
      go_wp2_with fail
      go_at_call 36
      have hbz := HB2.out.size
      refine (wbyte_any w.heap.size w.heap.size _ 10 _ HI2.out (by
        rw [Lib.byteCells_length, List.length_append]
        have h1 := HLEN.out
        have h2 := line_len (HOK.out x HM.out).1 (HOK.out x HM.out).2
        omega) hbz).mono ?_
      rintro e U3 ⟨rfl, h3, hb3, hk3⟩
      have HB3 := Lib.hid (HB2.out.trans hb3)
      have HI3 := Lib.hid (show IsWr w.heap.size w.heap.size (Lib.byteCells (textR ((l.map TdV.t).take (k + 1)))) U3 by
        rw [HTK.out, byteCells_app]
        exact .inr h3)
      clear h3 hb3 hk3
      go_wp2
      go_roundw
      case rel => exact ⟨k + 1, by omega, by go_num, HI3.out, HB3.out, fun h => absurd h (by omega)⟩
      case measure => simp [intOf]; omega
    · obtain rfl : k = l.length := by omega
      rw [← List.length_map (f := TdV.t), List.take_length] at HI
      by_cases hz : l.length = 0
      · have hbk := H0.out hz
        have HZ := Lib.hid (show textR (l.map TdV.t) = [] by rw [List.eq_nil_of_length_eq_zero hz]; rfl)
        clear hz
        go_wp2_with fail
        go_at_call 31
        refine (wget_nil w.heap.size w.heap.size _ _ hbk).mono ?_
        rintro e U ⟨rfl, hb⟩
        have HB2 := Lib.hid (HB.out.trans hb)
        clear hb hbk
        go_wp2
        go_ret
        exact ⟨by rw [HZ.out]; first | rfl | simp [strB], HB2.out⟩
      · have HZ := Lib.hid (text_ne (l := l.map TdV.t) (by rw [List.length_map]; omega))
        clear hz
        go_wp2_with fail
        go_at_call 31
        refine (wget_any w.heap.size w.heap.size _ _ HI.out HZ.out).mono ?_
        rintro e U ⟨rfl, hb⟩
        have HB2 := Lib.hid (HB.out.trans hb)
        clear hb
        go_wp2
        go_ret
        exact ⟨by first | rfl | simp [strB], HB2.out⟩
end Go.Proofs.YtaelhgkodcgmnaaDoor
