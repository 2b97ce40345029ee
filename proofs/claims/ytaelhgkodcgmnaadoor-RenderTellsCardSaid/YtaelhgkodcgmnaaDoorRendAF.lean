/- Layer 23: the document's Line. -/
import Derived.Test.YtaelhgkodcgmnaaDoorRendAE
import Derived.Handy
import Derived.IntWalk
namespace Go.Proofs.YtaelhgkodcgmnaaDoor
open Go.ChangeShapes Go.WideShapes Go.ChangeAt Go.RowKit Go.Deep
open Go.Shelf
set_option linter.unusedVariables false
set_option linter.unusedSimpArgs false

/-- alarms, each with a blank ahead -/
def fl (l : List (Bool × Bool)) : Str := l.flatMap fun a => [32, alB a]
theorem fl_snoc (l : List (Bool × Bool)) (a : Bool × Bool) : fl (l ++ [a]) = fl l ++ [32, alB a] := by simp [fl]
theorem fl_len (l : List (Bool × Bool)) : (fl l).length = l.length * 2 := by
  induction l with
  | nil => rfl
  | cons a l ih =>
    have e : fl (a :: l) = [32, alB a] ++ fl l := by simp [fl]
    rw [e, List.length_append, ih]
    simp
    omega
theorem addWs_fl : ∀ (rs : List (Bool × Bool)) (l : Str), l ≠ [] → addWs l (alW rs) = l ++ fl rs := by
  intro rs
  induction rs with
  | nil => intro l _; simp [addWs, alW, fl]
  | cons a rs ih =>
    intro l hl
    have e : addWs l (alW (a :: rs)) = addWs (sep l ++ [alB a]) (alW rs) := rfl
    have es : sep l = l ++ [32] := if_neg hl
    rw [e, ih _ (by simp), es]
    simp [fl]
theorem addWs_part (rs : List (Bool × Bool)) (l : Str) (hl : l ≠ []) : addWs l ([47] :: alW rs) = l ++ [32, 47] ++ fl rs := by
  have e : addWs l ([47] :: alW rs) = addWs (sep l ++ [47]) (alW rs) := rfl
  have es : sep l = l ++ [32] := if_neg hl
  rw [e, addWs_fl _ _ (by simp), es]
  simp
theorem addWs_ne : ∀ (ws : List Str) (l : Str), l ≠ [] → addWs l ws ≠ [] := by
  intro ws
  induction ws with
  | nil => intro l h; exact h
  | cons w ws ih =>
    intro l h
    have e : addWs l (w :: ws) = addWs (sep l ++ w) ws := rfl
    have es : sep l = l ++ [32] := if_neg h
    rw [e]
    exact ih _ (by rw [es]; simp)
theorem L2_ne (t : Td) (k : Nat) : L2 t k ≠ [] := addWs_ne _ _ (by decide)
theorem L2_zero (t : Td) : L2 t 0 = [116, 105, 99, 107, 32] ++ Lib.itoa t.tick := rfl
theorem L2_step {t : Td} {k : Nat} {x : Cl} (hx : t.cells[k]? = some x) : L2 t (k + 1) = L2 t k ++ 32 :: clW x := by
  rw [L2_next hx]
  have es : sep (L2 t k) = L2 t k ++ [32] := if_neg (L2_ne t k)
  rw [es]
  simp
theorem line_fl {t : Td} (h : tdR t) : lineR t = L2 t t.cells.length ++ [32, 47] ++ fl t.rules ++ [32, 47] ++ fl t.chans := by
  rw [line_L2 h, addWs_part _ _ (L2_ne _ _), addWs_part _ _ (by simp)]
theorem app_data (a b : ByteArray) : (a ++ b).data.toList = a.data.toList ++ b.data.toList := by simp
theorem str_eq {a : ByteArray} {l : Str} (h : a.data.toList = l) : a = strB l := by
  apply ByteArray.ext
  apply Array.toList_inj.mp
  rw [strB_data]
  exact h
set_option maxRecDepth 100000 in
set_option maxHeartbeats 8000000 in
theorem rline_any (v : Value) (t : Td) (w : World) (hT : ToldV w v t) (h6 : td64 t) (hE : Env w) (hsz : t.cells.length + t.rules.length + t.chans.length ≤ 1000000) :
    Calls Tryd.prog 16 #[v] w fun e w' => e = .returned (.string (strB (lineR t))) ∧ Below w.heap.size w w' := by
  have HTV := Lib.hid hT
  obtain ⟨vc, vr, vh, rfl, h1, h2, h3⟩ := hT
  obtain ⟨CA, cc, rfl⟩ := h1.1
  obtain ⟨RA, rc, rfl⟩ := h2.1
  obtain ⟨HA_, hc, rfl⟩ := h3.1
  have HC := Lib.hid h1
  have HR := Lib.hid h2
  have HH := Lib.hid h3
  have HE := Lib.hid hE
  have H6 := Lib.hid h6
  clear h1 h2 h3 hE h6
  go_enter Tryd.func16, Tryd.ntmps16
  go_wp2_with fail
  go_at_call 14
  refine calls_world (fun W => Below w.heap.size w W ∧ Blk W w.heap.size 25 #[.int .i64 t.tick, .slice CA t.cells.length cc, .slice RA t.rules.length rc, .slice HA_ t.chans.length hc]) ⟨by go_grown, Blk.new _ _ _ _ rfl⟩ fun W0 ⟨hb, hq⟩ => ?_
  refine (rright_any _ t _ (HTV.out.below hb)).mono ?_
  rintro e W1 ⟨rfl, hk⟩
  have HB1 := Lib.hid (Btrans hb hk)
  have HQ1 := Lib.hid (hq.below hk)
  clear hb hq hk HTV
  by_cases hr : tdR t
  · rw [decide_eq_true hr]
    have HRt := Lib.hid hr
    clear hr
    have cQ := HQ1.out.cells
    have lQ := HQ1.out.lt
    go_wp2_with fail
    go_at_call 28
    refine (itoa_any t.tick _ H6.out.1 (HE.out.below HB1.out)).mono ?_
    rintro e W2 ⟨rfl, hk⟩
    have HB2 := Lib.hid (Btrans HB1.out hk)
    have HQ2 := Lib.hid (HQ1.out.below hk)
    clear hk cQ lQ HB1 HQ1
    have hi5 : (strB (Lib.itoa t.tick)).size ≤ 21 := by
      have h := Lib.itoa_length_le t.tick H6.out.1.1 H6.out.1.2
      rw [Lib.size_eq, strB_data]
      exact h
    go_wp2_with fail
    clear hi5
    go_loopw [3, 4] (fun s i wr => ∃ (k : Nat) (X : ByteArray), k ≤ t.cells.length ∧ s = .string X ∧ i = .int .i64 k ∧ X.data.toList = L2 t k ∧ Below w.heap.size w wr ∧ Blk wr w.heap.size 25 #[.int .i64 t.tick, .slice CA t.cells.length cc, .slice RA t.rules.length rc, .slice HA_ t.chans.length hc]) (fun _ i _ => t.cells.length - (intOf i).toNat)
    case atStart => exact ⟨0, _, Nat.zero_le _, rfl, rfl, by rw [L2_zero, app_data, strB_data], HB2.out, HQ2.out⟩
    case round =>
      clear HB2 HQ2
      obtain ⟨k, X, hk, rfl, rfl, hX, hb, hq⟩ := hrel
      have HX := Lib.hid hX
      have HB := Lib.hid hb
      have HQ := Lib.hid hq
      have hbs := hb.size
      have hxs : X.size ≤ 50000000 := by
        have h1 := L2_len H6.out k
        rw [Lib.size_eq, hX]
        omega
      have cQ := hq.cells
      have lQ := hq.lt
      clear hX hb hq
      by_cases hlt : k < t.cells.length
      · obtain ⟨x, hx⟩ : ∃ x, t.cells[k]? = some x := ⟨_, List.getElem?_eq_getElem hlt⟩
        have HXC := Lib.hid hx
        have HCR := Lib.hid (HRt.out.1 x (List.mem_of_getElem? hx))
        have HC6 := Lib.hid (H6.out.2 x (List.mem_of_getElem? hx))
        obtain ⟨ad, rfl, hab, c0, c1, c2⟩ := HC.out.atw hx
        have k0 := (HB.out.cell hab).trans c0
        have k1 := (HB.out.cell (p := ⟨(ad.add (k * 3)).block, (ad.add (k * 3)).off + 1, none⟩) hab).trans c1
        have k2 := (HB.out.cell (p := ⟨(ad.add (k * 3)).block, (ad.add (k * 3)).off + 2, none⟩) hab).trans c2
        have hkl : (k : Int) < (t.cells.length : Int) := by omega
        clear c0 c1 c2 hx hab
        obtain ⟨kd, xv, xf⟩ := x
        dsimp only at k0 k1 k2
        obtain ⟨⟨ha, hb4⟩, hcz⟩ := HCR.out
        dsimp only at ha hb4 hcz
        rcases (by omega : kd = 1 ∨ kd = 2 ∨ kd = 3 ∨ kd = 4) with hk1 | hk1 | hk1 | hk1
        · subst hk1
          clear ha hb4 hcz
          go_wp2_with fail
          refine wp_world (fun U => Below wr.heap.size wr U ∧ Blk U wr.heap.size 44 #[.int .i64 1, .int .i64 xv, .int .i64 xf]) ⟨by go_grown, Blk.new _ _ _ _ rfl⟩ fun U0 ⟨hu, hqu⟩ => ?_
          have HU := Lib.hid hu
          have HP := Lib.hid hqu
          clear hu hqu k0 k1 k2 cQ lQ
          have hi1 : (strB (Lib.itoa xv)).size ≤ 21 := by
            have h := Lib.itoa_length_le xv HC6.out.1.1 HC6.out.1.2
            rw [Lib.size_eq, strB_data]
            exact h
          have hi2 : (strB (Lib.itoa xf)).size ≤ 21 := by
            have h := Lib.itoa_length_le xf HC6.out.2.1 HC6.out.2.2
            rw [Lib.size_eq, strB_data]
            exact h
          have g1 : ¬ 9223372036854775807 < X.size + 2 := by omega
          have g2 : ¬ 9223372036854775807 < X.size + 2 + (strB (Lib.itoa xv)).size := by omega
          have g3 : ¬ 9223372036854775807 < X.size + 2 + (strB (Lib.itoa xv)).size + 1 := by omega
          have g4 : ¬ 9223372036854775807 < X.size + 2 + (strB (Lib.itoa xv)).size + 1 + (strB (Lib.itoa xf)).size := by omega
          clear hi1 hi2
          refine wp_region_held_drew (S := fun U => ∀ i, U.cell? ⟨wr.heap.size, i, none⟩ = (#[.int .i64 1, .int .i64 xv, .int .i64 xf] : Array Value)[i]?) (by kernel_rfl) (by exact HP.out.cells) (fun hHeld => ?_)
          refine takeD 0 (some 33) (v := ?_) rfl rfl (by kernel_rfl) (by kernel_rfl) (by kernel_rfl) (fun _ _ _ h => h) (by rfl) ?_ (by assumption) ?_
          rotate_left
          · intro w hSw
            (try dsimp only at hSw)
            go_simp
            try with_reducible rfl
          try simp only [Act.put, List.setIfInBounds_toArray, List.set_cons_zero, List.set_cons_succ]
          refine takeD 1 (some 34) (v := ?_) rfl rfl (by kernel_rfl) (by kernel_rfl) (by kernel_rfl) (fun _ _ _ h => h) (by rfl) ?_ (by assumption) ?_
          rotate_left
          · intro w hSw
            (try dsimp only at hSw)
            go_simp
            try with_reducible rfl
          try simp only [Act.put, List.setIfInBounds_toArray, List.set_cons_zero, List.set_cons_succ]
          refine takeD 2 (some 35) (v := ?_) rfl rfl (by kernel_rfl) (by kernel_rfl) (by kernel_rfl) (fun _ _ _ h => h) (by rfl) ?_ (by assumption) ?_
          rotate_left
          · intro w hSw
            (try dsimp only at hSw)
            go_simp
            try with_reducible rfl
          try simp only [Act.put, List.setIfInBounds_toArray, List.set_cons_zero, List.set_cons_succ]
          refine takeD 3 (some 36) (v := ?_) rfl rfl (by kernel_rfl) (by kernel_rfl) (by kernel_rfl) (fun _ _ _ h => h) (by rfl) ?_ (by assumption) ?_
          rotate_left
          · intro w hSw
            (try dsimp only at hSw)
            go_simp
            try with_reducible rfl
          try simp only [Act.put, List.setIfInBounds_toArray, List.set_cons_zero, List.set_cons_succ]
          refine takeD 7 (some 40) (v := ?_) rfl rfl (by kernel_rfl) (by kernel_rfl) (by kernel_rfl) (fun _ _ _ h => h) (by rfl) ?_ (by assumption) ?_
          rotate_left
          · intro w hSw
            (try dsimp only at hSw)
            go_simp
            try with_reducible rfl
          try simp only [Act.put, List.setIfInBounds_toArray, List.set_cons_zero, List.set_cons_succ]
          refine takeD 8 (some 41) (v := ?_) rfl rfl (by kernel_rfl) (by kernel_rfl) (by kernel_rfl) (fun _ _ _ h => h) (by rfl) ?_ (by assumption) ?_
          rotate_left
          · intro w hSw
            (try dsimp only at hSw)
            go_simp
            try with_reducible rfl
          try simp only [Act.put, List.setIfInBounds_toArray, List.set_cons_zero, List.set_cons_succ]
          refine wpAnyH_ready (rs := [4]) (by kernel_rfl) (by simp) ?_
          refine AllReadyH.cons rfl (fun K hK => ?_) AllReadyH.nil
          rw [if_pos (by rfl)]
          go_simp
          go_at_call 28
          refine calls_world (fun W => Below U0.heap.size U0 W) (by first | exact below_drew1 _ | exact Below.refl _ _) fun V1 hv => ?_
          refine (itoa_any xv _ HC6.out.1 (HE.out.below (HB.out.trans ((Btrans HU.out hv).mono hbs)))).mono ?_
          rintro e U1 ⟨rfl, hk3⟩
          have HU := Lib.hid (Btrans (Btrans HU.out hv) hk3)
          have HP := Lib.hid ((HP.out.below hv).below hk3)
          have hS := HP.out.cells
          clear hk3 hv
          go_simp
          refine hK.out _ _ ?_ (fun hHeld2 => ?_)
          · clear hK; exact hS
          clear hK K hHeld hS
          have hHeld := hHeld2
          clear hHeld2
          try simp only [Act.put, List.setIfInBounds_toArray, List.set_cons_zero, List.set_cons_succ]
          refine takeD 5 (some 38) (v := ?_) rfl rfl (by kernel_rfl) (by kernel_rfl) (by kernel_rfl) (fun _ _ _ h => h) (by rfl) ?_ (by assumption) ?_
          rotate_left
          · intro w hSw
            (try dsimp only at hSw)
            go_simp
            try with_reducible rfl
          try simp only [Act.put, List.setIfInBounds_toArray, List.set_cons_zero, List.set_cons_succ]
          refine takeD 6 (some 39) (v := ?_) rfl rfl (by kernel_rfl) (by kernel_rfl) (by kernel_rfl) (fun _ _ _ h => h) (by rfl) ?_ (by assumption) ?_
          rotate_left
          · intro w hSw
            (try dsimp only at hSw)
            go_simp
            try with_reducible rfl
          try simp only [Act.put, List.setIfInBounds_toArray, List.set_cons_zero, List.set_cons_succ]
          refine wpAnyH_ready (rs := [9]) (by kernel_rfl) (by simp) ?_
          refine AllReadyH.cons rfl (fun K hK => ?_) AllReadyH.nil
          rw [if_pos (by rfl)]
          go_simp
          go_at_call 28
          refine calls_world (fun W => Below U1.heap.size U1 W) (by first | exact below_drew1 _ | exact Below.refl _ _) fun V2 hv => ?_
          refine (itoa_any xf _ HC6.out.2 (HE.out.below (HB.out.trans ((Btrans HU.out hv).mono hbs)))).mono ?_
          rintro e U2 ⟨rfl, hk3⟩
          have HU := Lib.hid (Btrans (Btrans HU.out hv) hk3)
          have HP := Lib.hid ((HP.out.below hv).below hk3)
          have hS := HP.out.cells
          clear hk3 hv
          go_simp
          refine hK.out _ _ ?_ (fun hHeld2 => ?_)
          · clear hK; exact hS
          clear hK K hHeld hS
          have hHeld := hHeld2
          clear hHeld2
          try simp only [Act.put, List.setIfInBounds_toArray, List.set_cons_zero, List.set_cons_succ]
          refine takeD 10 (some 43) (v := ?_) rfl rfl (by kernel_rfl) (by kernel_rfl) (by kernel_rfl) (fun _ _ _ h => h) (by rfl) ?_ (by assumption) ?_
          rotate_left
          · intro w hSw
            (try dsimp only at hSw)
            go_simp
            try with_reducible rfl
          try simp only [Act.put, List.setIfInBounds_toArray, List.set_cons_zero, List.set_cons_succ]
          refine takeD 11 (some 3) (v := ?_) rfl rfl (by kernel_rfl) (by kernel_rfl) (by kernel_rfl) (fun _ _ _ h => h) (by rfl) ?_ (by assumption) ?_
          rotate_left
          · intro w hSw
            (try dsimp only at hSw)
            go_simp
            try with_reducible rfl
          try simp only [Act.put, List.setIfInBounds_toArray, List.set_cons_zero, List.set_cons_succ]
          refine wpAnyH_done (by kernel_rfl) ?_ _
          clear hHeld
          have HB2 := Lib.hid (HB.out.trans (HU.out.mono hbs))
          have HQ2 := Lib.hid (HQ.out.below HU.out)
          have hX2 : (X ++ (⟨#[32, 118]⟩ : ByteArray) ++ strB (Lib.itoa xv) ++ (⟨#[64]⟩ : ByteArray) ++ strB (Lib.itoa xf)).data.toList = L2 t (k + 1) := by
            rw [L2_step HXC.out]
            simp only [app_data, strB_data, HX.out]
            simp [clW]
          have HX2 := Lib.hid hX2
          clear hX2
          go_wp2
          go_roundw
          case rel => exact ⟨k + 1, _, by omega, rfl, by go_num, HX2.out, HB2.out, HQ2.out⟩
          case measure => simp [intOf]; omega
        · subst hk1
          have hv : xv = 0 := by omega
          have hf : xf = 0 := by omega
          subst hv hf
          clear ha hb4 hcz
          have HX2 := Lib.hid (show (X ++ (⟨#[32, 109]⟩ : ByteArray)).data.toList = L2 t (k + 1) by rw [L2_step HXC.out, app_data, HX.out]; rfl)
          go_wp2
          go_roundw
          case rel => exact ⟨k + 1, _, by omega, rfl, by go_num, HX2.out, HB.out.trans (by go_grown), HQ.out.al _⟩
          case measure => simp [intOf]; omega
        · subst hk1
          have hv : xv = 0 := by omega
          have hf : xf = 0 := by omega
          subst hv hf
          clear ha hb4 hcz
          have HX2 := Lib.hid (show (X ++ (⟨#[32, 117]⟩ : ByteArray)).data.toList = L2 t (k + 1) by rw [L2_step HXC.out, app_data, HX.out]; rfl)
          go_wp2
          go_roundw
          case rel => exact ⟨k + 1, _, by omega, rfl, by go_num, HX2.out, HB.out.trans (by go_grown), HQ.out.al _⟩
          case measure => simp [intOf]; omega
        · subst hk1
          have hv : xv = 0 := by omega
          have hf : xf = 0 := by omega
          subst hv hf
          clear ha hb4 hcz
          have HX2 := Lib.hid (show (X ++ (⟨#[32, 114]⟩ : ByteArray)).data.toList = L2 t (k + 1) by rw [L2_step HXC.out, app_data, HX.out]; rfl)
          go_wp2
          go_roundw
          case rel => exact ⟨k + 1, _, by omega, rfl, by go_num, HX2.out, HB.out.trans (by go_grown), HQ.out.al _⟩
          case measure => simp [intOf]; omega
      · obtain rfl : k = t.cells.length := by omega
        have HB1 := Lib.hid HB.out
        have HQ1 := Lib.hid HQ.out
        have HX1 := Lib.hid (show (X ++ (⟨#[32, 47]⟩ : ByteArray)).data.toList = L2 t t.cells.length ++ [32, 47] ++ fl (t.rules.take 0) by rw [app_data, HX.out]; simp [fl])
        obtain ⟨u1, hu⟩ : ∃ u, u = wr := ⟨wr, rfl⟩
        subst hu
        have cQ := HQ1.out.cells
        have lQ := HQ1.out.lt
        go_wp2_with fail
        clear cQ lQ
        go_loopw [3, 6] (fun s i wr => ∃ (k : Nat) (X : ByteArray), k ≤ t.rules.length ∧ s = .string X ∧ i = .int .i64 k ∧ X.data.toList = L2 t t.cells.length ++ [32, 47] ++ fl (t.rules.take k) ∧ Below w.heap.size w wr ∧ Blk wr w.heap.size 25 #[.int .i64 t.tick, .slice CA t.cells.length cc, .slice RA t.rules.length rc, .slice HA_ t.chans.length hc]) (fun _ i _ => t.rules.length - (intOf i).toNat)
        case atStart => exact ⟨0, _, Nat.zero_le _, rfl, rfl, HX1.out, HB1.out, HQ1.out⟩
        case round =>
          clear HX HB HQ hbs hxs
          obtain ⟨k, X, hk, rfl, rfl, hX, hb, hq⟩ := hrel
          have HX := Lib.hid hX
          have HB := Lib.hid hb
          have HQ := Lib.hid hq
          have hbs := hb.size
          have hxs : X.size ≤ 50000000 := by
            have h1 := L2_len H6.out t.cells.length
            have h2 := fl_len t.rules
            have h3 := fl_len (t.rules.take k)
            rw [List.length_take] at h3
            rw [Lib.size_eq, hX]
            simp only [List.length_append, List.length_cons, List.length_nil]
            omega
          have cQ := hq.cells
          have lQ := hq.lt
          clear hX hb hq
          by_cases hlt : k < t.rules.length
          · obtain ⟨x, hx⟩ : ∃ x, t.rules[k]? = some x := ⟨_, List.getElem?_eq_getElem hlt⟩
            have HFL := Lib.hid (show fl (t.rules.take (k + 1)) = fl (t.rules.take k) ++ [32, alB x] by rw [List.take_add_one, hx]; exact fl_snoc _ _)
            obtain ⟨ad, rfl, hab, c0, c1⟩ := HR.out.atw hx
            have k0 := (HB.out.cell hab).trans c0
            have k1 := (HB.out.cell (p := ⟨(ad.add (k * 2)).block, (ad.add (k * 2)).off + 1, none⟩) hab).trans c1
            have hkl : (k : Int) < (t.rules.length : Int) := by omega
            clear c0 c1 hx hab
            obtain ⟨x1, x2⟩ := x
            go_wp2_with fail
            go_at_call 32
            refine (ralarm_any x1 x2 _).mono ?_
            rintro e U1 ⟨rfl, hk3⟩
            have HB2 := Lib.hid (Btrans HB.out hk3)
            have HQ2 := Lib.hid (HQ.out.below hk3)
            have HX2 := Lib.hid (show (X ++ (⟨#[32, alB (x1, x2)]⟩ : ByteArray)).data.toList = L2 t t.cells.length ++ [32, 47] ++ fl (t.rules.take (k + 1)) by rw [app_data, HX.out, HFL.out, List.append_assoc])
            clear hk3 k0 k1 cQ lQ
            go_wp2
            go_roundw
            case rel => exact ⟨k + 1, _, by omega, rfl, by go_num, HX2.out, HB2.out, HQ2.out⟩
            case measure => simp [intOf]; omega
          · obtain rfl : k = t.rules.length := by omega
            rw [List.take_length] at HX
            have HB2 := Lib.hid HB.out
            have HQ2 := Lib.hid HQ.out
            have HX2 := Lib.hid (show (X ++ (⟨#[32, 47]⟩ : ByteArray)).data.toList = L2 t t.cells.length ++ [32, 47] ++ fl t.rules ++ [32, 47] ++ fl (t.chans.take 0) by rw [app_data, HX.out]; simp [fl])
            obtain ⟨u2, hu⟩ : ∃ u, u = wr := ⟨wr, rfl⟩
            subst hu
            have cQ := HQ2.out.cells
            have lQ := HQ2.out.lt
            go_wp2_with fail
            clear cQ lQ
            go_loopw [3, 7] (fun s i wr => ∃ (k : Nat) (X : ByteArray), k ≤ t.chans.length ∧ s = .string X ∧ i = .int .i64 k ∧ X.data.toList = L2 t t.cells.length ++ [32, 47] ++ fl t.rules ++ [32, 47] ++ fl (t.chans.take k) ∧ Below w.heap.size w wr ∧ Blk wr w.heap.size 25 #[.int .i64 t.tick, .slice CA t.cells.length cc, .slice RA t.rules.length rc, .slice HA_ t.chans.length hc]) (fun _ i _ => t.chans.length - (intOf i).toNat)
            case atStart => exact ⟨0, _, Nat.zero_le _, rfl, rfl, HX2.out, HB2.out, HQ2.out⟩
            case round =>
              clear HX HB HQ hbs hxs
              obtain ⟨k, X, hk, rfl, rfl, hX, hb, hq⟩ := hrel
              have HX := Lib.hid hX
              have HB := Lib.hid hb
              have HQ := Lib.hid hq
              have hbs := hb.size
              have hxs : X.size ≤ 50000000 := by
                have h1 := L2_len H6.out t.cells.length
                have h2 := fl_len t.rules
                have h3 := fl_len (t.chans.take k)
                rw [List.length_take] at h3
                rw [Lib.size_eq, hX]
                simp only [List.length_append, List.length_cons, List.length_nil]
                omega
              have cQ := hq.cells
              have lQ := hq.lt
              clear hX hb hq
              by_cases hlt : k < t.chans.length
              · obtain ⟨x, hx⟩ : ∃ x, t.chans[k]? = some x := ⟨_, List.getElem?_eq_getElem hlt⟩
                have HFL := Lib.hid (show fl (t.chans.take (k + 1)) = fl (t.chans.take k) ++ [32, alB x] by rw [List.take_add_one, hx]; exact fl_snoc _ _)
                obtain ⟨ad, rfl, hab, c0, c1⟩ := HH.out.atw hx
                have k0 := (HB.out.cell hab).trans c0
                have k1 := (HB.out.cell (p := ⟨(ad.add (k * 2)).block, (ad.add (k * 2)).off + 1, none⟩) hab).trans c1
                have hkl : (k : Int) < (t.chans.length : Int) := by omega
                clear c0 c1 hx hab
                obtain ⟨x1, x2⟩ := x
                go_wp2_with fail
                go_at_call 32
                refine (ralarm_any x1 x2 _).mono ?_
                rintro e U1 ⟨rfl, hk3⟩
                have HB2 := Lib.hid (Btrans HB.out hk3)
                have HQ2 := Lib.hid (HQ.out.below hk3)
                have HX2 := Lib.hid (show (X ++ (⟨#[32, alB (x1, x2)]⟩ : ByteArray)).data.toList = L2 t t.cells.length ++ [32, 47] ++ fl t.rules ++ [32, 47] ++ fl (t.chans.take (k + 1)) by rw [app_data, HX.out, HFL.out, List.append_assoc])
                clear hk3 k0 k1 cQ lQ
                go_wp2
                go_roundw
                case rel => exact ⟨k + 1, _, by omega, rfl, by go_num, HX2.out, HB2.out, HQ2.out⟩
                case measure => simp [intOf]; omega
              · obtain rfl : k = t.chans.length := by omega
                rw [List.take_length] at HX
                have HF := Lib.hid (show X = strB (lineR t) from str_eq (by rw [HX.out, line_fl HRt.out]))
                go_wp2
                go_ret
                exact ⟨by rw [HF.out]; first | rfl | simp, HB.out⟩
  · rw [decide_eq_false hr]
    have HN := Lib.hid (show lineR t = [] from if_neg hr)
    clear hr
    go_wp2
    go_ret
    exact ⟨by rw [HN.out]; first | rfl | simp [strB], HB1.out⟩
end Go.Proofs.YtaelhgkodcgmnaaDoor
