/- Layer 23: the law RenderParts. -/
import Derived.Test.YtaelhgkodcgmnaaDoorRendAM
import Derived.Handy
import Derived.IntWalk
namespace Go.Proofs.YtaelhgkodcgmnaaDoor
open Go.ChangeShapes Go.WideShapes Go.ChangeAt Go.RowKit Go.Deep
open Go.Shelf
set_option linter.unusedVariables false
set_option linter.unusedSimpArgs false

def rest (t : Td) : List Str := t.cells.map clW ++ [47] :: (t.rules.map (fun a => [alB a]) ++ [47] :: t.chans.map (fun a => [alB a]))
theorem wds_rest (t : Td) : wds t = tickW :: Lib.itoa t.tick :: rest t := rfl
theorem rest_len (t : Td) : (rest t).length = 2 + t.cells.length + t.rules.length + t.chans.length := by
  simp [rest]
  omega
theorem words_of {t : Td} (h : tdR t) {ps : List ByteArray} (hD : D ps = spl 32 (strB (lineR t)).data.toList) : D ps = wds t := by
  rw [hD, strB_data]
  unfold lineR
  rw [if_pos h]
  exact spl_line t
theorem word_at {ps : List ByteArray} {ws : List Str} (hD : D ps = ws) {k : Nat} {p : ByteArray} (hp : ps[k]? = some p) : ws[k]? = some p.data.toList := by
  rw [← hD]
  unfold D
  rw [List.getElem?_map, hp]
  rfl
theorem itoa_inj {n m : Int} (hn : in64 n) (hm : in64 m) (h : Lib.itoa n = Lib.itoa m) : n = m := by
  have h1 := atoi_itoa hn
  rw [h, atoi_itoa hm] at h1
  injection h1 with h1
  exact h1.symm
theorem cmp_numbers {a b : ByteArray} {n m : Int} (ha : a.data.toList = Lib.itoa n) (hb : b.data.toList = Lib.itoa m) (hn : in64 n) (hm : in64 m) : (a.toList == b.toList) = (n == m) := by
  rw [toList_data, toList_data, ha, hb]
  by_cases h : n = m
  · subst h
    rw [beq_self_eq_true, beq_self_eq_true]
  · rw [beq_eq_false_iff_ne.2 h, beq_eq_false_iff_ne]
    exact fun e => h (itoa_inj hn hm e)
set_option maxRecDepth 100000 in
set_option maxHeartbeats 8000000 in
theorem walk_RenderParts (v : Value) (t : Td) (n : Int) (w : World) (hE : Env w) (h0 : ToldV w v t ∧ td64 t) (w1 : (Lit.int .u16 n).wf = true) :
    Calls Tryd.prog 8 #[v, .int .u16 n] w fun e w' => e = .returned (.bool true) ∧ Below w.heap.size w w' := by
  obtain ⟨hT, h6⟩ := h0
  obtain ⟨CA, cc, RA, rc, HA, hc, rfl⟩ := hT.shape
  have hn := bounds_u16 w1
  have HT := Lib.hid hT
  have HE := Lib.hid hE
  have H6 := Lib.hid h6
  have HU := Lib.hid (show ToldV w (.agg #[.int .i64 n, .slice CA t.cells.length cc, .slice RA t.rules.length rc, .slice HA t.chans.length hc]) ⟨n, t.cells, t.rules, t.chans⟩ by
    obtain ⟨vc, vr, vh, e, h1, h2, h3⟩ := hT
    injection e with e
    simp at e
    obtain ⟨e1, e2, e3⟩ := e
    subst e1 e2 e3
    exact ⟨_, _, _, rfl, h1, h2, h3⟩)
  clear hT hE h6 w1
  have hwn : IntKind.i64.wrap n = n := by rw [IntKind.wrap_i64]; omega
  go_enter Tryd.func8, Tryd.ntmps8
  go_wp2_with fail
  go_at_call 9
  refine calls_world (fun W => Below w.heap.size w W ∧ Blk W w.heap.size 25 #[.int .i64 t.tick, .slice CA t.cells.length cc, .slice RA t.rules.length rc, .slice HA t.chans.length hc]) ⟨by go_grown, Blk.new _ _ _ _ rfl⟩ fun W0 ⟨hb, hq⟩ => ?_
  refine (head_any _ (HE.out.below hb)).mono ?_
  rintro e W1 ⟨rfl, hk⟩
  have HB1 := Lib.hid (Btrans hb hk)
  have HQ1 := Lib.hid (hq.below hk)
  clear hb hq hk
  have cQ := HQ1.out.cells
  have lQ := HQ1.out.lt
  go_wp2_with fail
  go_at_call 10
  refine (great_any _ t _ (HT.out.below HB1.out)).mono ?_
  rintro e W2 ⟨rfl, hk⟩
  have HB2 := Lib.hid (Btrans HB1.out hk)
  have HQ2 := Lib.hid (HQ1.out.below hk)
  clear hk cQ lQ HB1 HQ1
  by_cases hs : smallT t
  · rw [great_no hs]
    have HS := Lib.hid hs
    clear hs
    have cQ := HQ2.out.cells
    have lQ := HQ2.out.lt
    go_wp2_with fail
    go_at_call 13
    refine (right_any _ t _ (HT.out.below HB2.out)).mono ?_
    rintro e W3 ⟨rfl, hk⟩
    have HB3 := Lib.hid (Btrans HB2.out hk)
    have HQ3 := Lib.hid (HQ2.out.below hk)
    clear hk cQ lQ HB2 HQ2
    by_cases hr : tdR t
    · rw [decide_eq_true hr]
      have HR := Lib.hid hr
      have HRU := Lib.hid (show tdR ⟨n, t.cells, t.rules, t.chans⟩ from ⟨hr.1, hn.1⟩)
      have HU6 := Lib.hid (show td64 ⟨n, t.cells, t.rules, t.chans⟩ from ⟨⟨(by show (-9223372036854775808 : Int) ≤ n; omega), (by show n ≤ (9223372036854775807 : Int); omega)⟩, H6.out.2⟩)
      have HUS := Lib.hid (show smallT ⟨n, t.cells, t.rules, t.chans⟩ from HS.out)
      clear hr
      have cQ := HQ3.out.cells
      have lQ := HQ3.out.lt
      go_wp2_with fail
      go_at_call 15
      refine calls_world (fun W => Below W3.heap.size W3 W ∧ Blk W W3.heap.size 25 #[.int .i64 n, .slice CA t.cells.length cc, .slice RA t.rules.length rc, .slice HA t.chans.length hc]) ⟨by go_grown, Blk.new _ _ _ _ (by first | rfl | simp)⟩ fun U3 ⟨hb, hp⟩ => ?_
      refine (line_any _ t _ (HT.out.below (Btrans HB3.out hb)) H6.out (HE.out.below (Btrans HB3.out hb)) (small_sz HS.out)).mono ?_
      rintro e W4 ⟨rfl, hk⟩
      have HB4 := Lib.hid (Btrans (Btrans HB3.out hb) hk)
      have HQ4 := Lib.hid ((HQ3.out.below hb).below hk)
      have HP4 := Lib.hid (hp.below hk)
      clear hb hp hk cQ lQ HQ3
      go_wp2_with fail
      go_at_call 21
      refine (split_any _ (by have := small_str HS.out H6.out; omega) _ (HE.out.below HB4.out)).mono ?_
      rintro e W5 ⟨⟨va, pa, rfl, hwa, hDa⟩, hk⟩
      obtain ⟨Aa, ca, rfl, _⟩ := hwa.1.len
      have HWA := Lib.hid hwa
      have HDA := Lib.hid (words_of HR.out hDa)
      have HB5 := Lib.hid (Btrans HB4.out hk)
      have HQ5 := Lib.hid (HQ4.out.below hk)
      have HP5 := Lib.hid (HP4.out.below hk)
      clear hk hwa hDa HB4 HQ4 HP4
      have cP := HP5.out.cells
      have lP := HP5.out.lt
      go_wp2_with fail
      go_at_call 15
      refine (line_any _ ⟨n, t.cells, t.rules, t.chans⟩ _ (HU.out.below HB5.out) HU6.out (HE.out.below HB5.out) (small_sz HS.out)).mono ?_
      rintro e W6 ⟨rfl, hk⟩
      have HB6 := Lib.hid (Btrans HB5.out hk)
      have HQ6 := Lib.hid (HQ5.out.below hk)
      have HWA6 := Lib.hid (HWA.out.below hk)
      clear hk cP lP HB5 HQ5 HP5 HWA
      go_wp2_with fail
      go_at_call 21
      refine (split_any _ (by have := small_str HUS.out HU6.out; omega) _ (HE.out.below HB6.out)).mono ?_
      rintro e W7 ⟨⟨vb, pb, rfl, hwb, hDb⟩, hk⟩
      obtain ⟨Ab, cb, rfl, _⟩ := hwb.1.len
      have HWB := Lib.hid hwb
      have HDB := Lib.hid (words_of HRU.out hDb)
      have HB7 := Lib.hid (Btrans HB6.out hk)
      have HQ7 := Lib.hid (HQ6.out.below hk)
      have HWA7 := Lib.hid (HWA6.out.below hk)
      have hla : pa.length = 4 + t.cells.length + t.rules.length + t.chans.length := by
        have h1 : (D pa).length = pa.length := by simp [D]
        rw [HDA.out, wds_rest] at h1
        simp [rest_len] at h1
        omega
      have hlb : pb.length = pa.length := by
        have h1 : (D pb).length = pb.length := by simp [D]
        rw [HDB.out, wds_rest] at h1
        simp [rest_len] at h1
        omega
      have HLA := Lib.hid hla
      have HLB := Lib.hid hlb
      have q1 : ((pa.length : Int) != 4 + (t.cells.length : Int) + (t.rules.length : Int) + (t.chans.length : Int)) = false := by simp; omega
      have q2 : ((pb.length : Int) != (pa.length : Int)) = false := by simp; omega
      have hsm := HS.out
      obtain ⟨g1, g2, g3⟩ := hsm
      clear hk hwb hDb hla hlb HB6 HQ6 HWA6
      have cQ := HQ7.out.cells
      have lQ := HQ7.out.lt
      go_wp2_with fail
      clear q1 q2 cQ lQ
      go_loopw [9] (fun i wr => ∃ k : Nat, k ≤ pa.length ∧ i = .int .i64 k ∧ Below W7.heap.size W7 wr) (fun i _ => pa.length - (intOf i).toNat)
      case atStart => exact ⟨0, Nat.zero_le _, rfl, Below.refl _ _⟩
      case round =>
        obtain ⟨k, hk, rfl, hb⟩ := hrel
        have HC := Lib.hid hb
        clear hb
        by_cases hlt : k < pa.length
        · obtain ⟨xa, hxa⟩ : ∃ p, pa[k]? = some p := ⟨_, List.getElem?_eq_getElem hlt⟩
          obtain ⟨xb, hxb⟩ : ∃ p, pb[k]? = some p := ⟨_, List.getElem?_eq_getElem (by have := HLB.out; omega)⟩
          have ha := word_at HDA.out hxa
          have hb := word_at HDB.out hxb
          obtain ⟨ada, e1, haa, ka⟩ := HWA7.out.1.at hxa
          obtain ⟨adb, e2, hbb, kb⟩ := HWB.out.1.at hxb
          subst e1 e2
          have k0 : ∀ V, Below wr.heap.size wr V → V.cell? (ada.add k) = some (.string xa) := fun V hV => ((HC.out.trans (hV.mono HC.out.size)).cell haa).trans ka
          have k1 : ∀ V, Below wr.heap.size wr V → V.cell? (adb.add k) = some (.string xb) := fun V hV => ((HC.out.trans (hV.mono HC.out.size)).cell hbb).trans kb
          have hka : (k : Int) < (pa.length : Int) := by omega
          have hkb : (k : Int) < (pb.length : Int) := by have := HLB.out; omega
          by_cases h1 : k = 1
          · subst h1
            have q3 : ((1 : Int) != 1) = false := rfl
            clear ha hb hxa hxb ka kb
            go_wp2_with fail
            refine wp_region_held_drew (S := fun V => Below wr.heap.size wr V) (by kernel_rfl) (by exact below_drew1 _) (fun hHeld => ?_)
            refine takeD 0 (some 57) (v := ?_) rfl rfl (by kernel_rfl) (by kernel_rfl) (by kernel_rfl) (fun _ _ _ h => h) (by rfl) ?_ (by assumption) ?_
            rotate_left
            · intro w hSw
              (try dsimp only at hSw)
              go_simp
              try with_reducible rfl
            try simp only [Act.put, List.setIfInBounds_toArray, List.set_cons_zero, List.set_cons_succ]
            refine takeD 1 (some 58) (v := ?_) rfl rfl (by kernel_rfl) (by kernel_rfl) (by kernel_rfl) (fun _ _ _ h => h) (by rfl) ?_ (by assumption) ?_
            rotate_left
            · intro w hSw
              (try dsimp only at hSw)
              go_simp
              try with_reducible rfl
            try simp only [Act.put, List.setIfInBounds_toArray, List.set_cons_zero, List.set_cons_succ]
            refine takeD 2 (some 59) (v := ?_) rfl rfl (by kernel_rfl) (by kernel_rfl) (by kernel_rfl) (fun _ _ _ h => h) (by rfl) ?_ (by assumption) ?_
            rotate_left
            · intro w hSw
              (try dsimp only at hSw)
              go_simp
              try with_reducible rfl
            try simp only [Act.put, List.setIfInBounds_toArray, List.set_cons_zero, List.set_cons_succ]
            refine skipD 3 (some 60) rfl rfl (by kernel_rfl) (by kernel_rfl) (by kernel_rfl) (fun _ _ _ h => h) (by rfl) (by assumption) ?_
            try simp only [Act.put, List.setIfInBounds_toArray, List.set_cons_zero, List.set_cons_succ]
            refine skipD 4 (some 61) rfl rfl (by kernel_rfl) (by kernel_rfl) (by kernel_rfl) (fun _ _ _ h => h) (by rfl) (by assumption) ?_
            try simp only [Act.put, List.setIfInBounds_toArray, List.set_cons_zero, List.set_cons_succ]
            refine skipD 5 (some 62) rfl rfl (by kernel_rfl) (by kernel_rfl) (by kernel_rfl) (fun _ _ _ h => h) (by rfl) (by assumption) ?_
            try simp only [Act.put, List.setIfInBounds_toArray, List.set_cons_zero, List.set_cons_succ]
            refine skipD 6 (some 63) rfl rfl (by kernel_rfl) (by kernel_rfl) (by kernel_rfl) (fun _ _ _ h => h) (by rfl) (by assumption) ?_
            try simp only [Act.put, List.setIfInBounds_toArray, List.set_cons_zero, List.set_cons_succ]
            refine skipD 7 (some 64) rfl rfl (by kernel_rfl) (by kernel_rfl) (by kernel_rfl) (fun _ _ _ h => h) (by rfl) (by assumption) ?_
            try simp only [Act.put, List.setIfInBounds_toArray, List.set_cons_zero, List.set_cons_succ]
            refine skipD 8 (some 65) rfl rfl (by kernel_rfl) (by kernel_rfl) (by kernel_rfl) (fun _ _ _ h => h) (by rfl) (by assumption) ?_
            try simp only [Act.put, List.setIfInBounds_toArray, List.set_cons_zero, List.set_cons_succ]
            refine skipD 9 (some 66) rfl rfl (by kernel_rfl) (by kernel_rfl) (by kernel_rfl) (fun _ _ _ h => h) (by rfl) (by assumption) ?_
            try simp only [Act.put, List.setIfInBounds_toArray, List.set_cons_zero, List.set_cons_succ]
            refine skipD 10 (some 67) rfl rfl (by kernel_rfl) (by kernel_rfl) (by kernel_rfl) (fun _ _ _ h => h) (by rfl) (by assumption) ?_
            try simp only [Act.put, List.setIfInBounds_toArray, List.set_cons_zero, List.set_cons_succ]
            refine skipD 11 (some 68) rfl rfl (by kernel_rfl) (by kernel_rfl) (by kernel_rfl) (fun _ _ _ h => h) (by rfl) (by assumption) ?_
            try simp only [Act.put, List.setIfInBounds_toArray, List.set_cons_zero, List.set_cons_succ]
            refine takeD 12 (some 69) (v := ?_) rfl rfl (by kernel_rfl) (by kernel_rfl) (by kernel_rfl) (fun _ _ _ h => h) (by rfl) ?_ (by assumption) ?_
            rotate_left
            · intro w hSw
              (try dsimp only at hSw)
              go_simp
              try with_reducible rfl
            try simp only [Act.put, List.setIfInBounds_toArray, List.set_cons_zero, List.set_cons_succ]
            refine wpAnyH_done (by kernel_rfl) ?_ _
            have HF := Lib.hid hHeld
            clear hHeld k0 k1
            go_wp2
            go_roundw
            case rel => exact ⟨1 + 1, by omega, by go_num, HC.out.trans (HF.out.mono HC.out.size)⟩
            case measure => simp [intOf]; omega
          · have q3 : ((k : Int) != 1) = true := by simp; omega
            have hcmp : (xa.toList == xb.toList) = true := by
              rw [toList_data, toList_data]
              rw [wds_rest] at ha hb
              have e : xa.data.toList = xb.data.toList := by
                match k, h1, ha, hb with
                | 0, _, ha, hb =>
                  have h1 := ha.symm.trans hb
                  injection h1
                | k + 2, _, ha, hb =>
                  have h1 := ha.symm.trans hb
                  injection h1
              rw [e]
              exact beq_self_eq_true _
            clear ha hb hxa hxb ka kb
            go_wp2_with fail
            refine wp_region_held_drew (S := fun V => Below wr.heap.size wr V) (by kernel_rfl) (by exact below_drew1 _) (fun hHeld => ?_)
            refine takeD 0 (some 57) (v := ?_) rfl rfl (by kernel_rfl) (by kernel_rfl) (by kernel_rfl) (fun _ _ _ h => h) (by rfl) ?_ (by assumption) ?_
            rotate_left
            · intro w hSw
              (try dsimp only at hSw)
              go_simp
              try with_reducible rfl
            try simp only [Act.put, List.setIfInBounds_toArray, List.set_cons_zero, List.set_cons_succ]
            refine takeD 1 (some 58) (v := ?_) rfl rfl (by kernel_rfl) (by kernel_rfl) (by kernel_rfl) (fun _ _ _ h => h) (by rfl) ?_ (by assumption) ?_
            rotate_left
            · intro w hSw
              (try dsimp only at hSw)
              go_simp
              try with_reducible rfl
            try simp only [Act.put, List.setIfInBounds_toArray, List.set_cons_zero, List.set_cons_succ]
            refine takeD 2 (some 59) (v := ?_) rfl rfl (by kernel_rfl) (by kernel_rfl) (by kernel_rfl) (fun _ _ _ h => h) (by rfl) ?_ (by assumption) ?_
            rotate_left
            · intro w hSw
              (try dsimp only at hSw)
              go_simp
              try with_reducible rfl
            try simp only [Act.put, List.setIfInBounds_toArray, List.set_cons_zero, List.set_cons_succ]
            refine takeD 3 (some 60) (v := ?_) rfl rfl (by kernel_rfl) (by kernel_rfl) (by kernel_rfl) (fun _ _ _ h => h) (by rfl) ?_ (by assumption) ?_
            rotate_left
            · intro w hSw
              (try dsimp only at hSw)
              go_simp
              try with_reducible rfl
            try simp only [Act.put, List.setIfInBounds_toArray, List.set_cons_zero, List.set_cons_succ]
            refine takeD 4 (some 61) (v := ?_) rfl rfl (by kernel_rfl) (by kernel_rfl) (by kernel_rfl) (fun _ _ _ h => h) (by rfl) ?_ (by assumption) ?_
            rotate_left
            · intro w hSw
              (try dsimp only at hSw)
              go_simp
              try with_reducible rfl
            try simp only [Act.put, List.setIfInBounds_toArray, List.set_cons_zero, List.set_cons_succ]
            refine takeD 5 (some 62) (v := ?_) rfl rfl (by kernel_rfl) (by kernel_rfl) (by kernel_rfl) (fun _ _ _ h => h) (by rfl) ?_ (by assumption) ?_
            rotate_left
            · intro w hSw
              (try dsimp only at hSw)
              go_simp
              try with_reducible rfl
            try simp only [Act.put, List.setIfInBounds_toArray, List.set_cons_zero, List.set_cons_succ]
            refine takeD 6 (some 63) (v := ?_) rfl rfl (by kernel_rfl) (by kernel_rfl) (by kernel_rfl) (fun _ _ _ h => h) (by rfl) ?_ (by assumption) ?_
            rotate_left
            · intro w hSw
              (try dsimp only at hSw)
              go_simp
              try with_reducible rfl
            try simp only [Act.put, List.setIfInBounds_toArray, List.set_cons_zero, List.set_cons_succ]
            refine takeD 7 (some 64) (v := ?_) rfl rfl (by kernel_rfl) (by kernel_rfl) (by kernel_rfl) (fun _ _ _ h => h) (by rfl) ?_ (by assumption) ?_
            rotate_left
            · intro w hSw
              (try dsimp only at hSw)
              go_simp
              try with_reducible rfl
            try simp only [Act.put, List.setIfInBounds_toArray, List.set_cons_zero, List.set_cons_succ]
            refine takeD 8 (some 65) (v := ?_) rfl rfl (by kernel_rfl) (by kernel_rfl) (by kernel_rfl) (fun _ _ _ h => h) (by rfl) ?_ (by assumption) ?_
            rotate_left
            · intro w hSw
              (try dsimp only at hSw)
              go_simp
              try with_reducible rfl
            try simp only [Act.put, List.setIfInBounds_toArray, List.set_cons_zero, List.set_cons_succ]
            refine takeD 9 (some 66) (v := ?_) rfl rfl (by kernel_rfl) (by kernel_rfl) (by kernel_rfl) (fun _ _ _ h => h) (by rfl) ?_ (by assumption) ?_
            rotate_left
            · intro w hSw
              (try dsimp only at hSw)
              go_simp
              try with_reducible rfl
            try simp only [Act.put, List.setIfInBounds_toArray, List.set_cons_zero, List.set_cons_succ]
            refine takeD 10 (some 67) (v := ?_) rfl rfl (by kernel_rfl) (by kernel_rfl) (by kernel_rfl) (fun _ _ _ h => h) (by rfl) ?_ (by assumption) ?_
            rotate_left
            · intro w hSw
              (try dsimp only at hSw)
              go_simp
              try with_reducible rfl
            try simp only [Act.put, List.setIfInBounds_toArray, List.set_cons_zero, List.set_cons_succ]
            refine takeD 11 (some 68) (v := ?_) rfl rfl (by kernel_rfl) (by kernel_rfl) (by kernel_rfl) (fun _ _ _ h => h) (by rfl) ?_ (by assumption) ?_
            rotate_left
            · intro w hSw
              (try dsimp only at hSw)
              go_simp
              try with_reducible rfl
            try simp only [Act.put, List.setIfInBounds_toArray, List.set_cons_zero, List.set_cons_succ]
            refine takeD 12 (some 69) (v := ?_) rfl rfl (by kernel_rfl) (by kernel_rfl) (by kernel_rfl) (fun _ _ _ h => h) (by rfl) ?_ (by assumption) ?_
            rotate_left
            · intro w hSw
              (try dsimp only at hSw)
              go_simp
              try with_reducible rfl
            try simp only [Act.put, List.setIfInBounds_toArray, List.set_cons_zero, List.set_cons_succ]
            refine wpAnyH_done (by kernel_rfl) ?_ _
            have HF := Lib.hid hHeld
            clear hHeld k0 k1
            go_wp2
            go_roundw
            case rel => exact ⟨k + 1, by omega, by go_num, HC.out.trans (HF.out.mono HC.out.size)⟩
            case measure => simp [intOf]; omega
        · obtain rfl : k = pa.length := by omega
          obtain ⟨xa, hxa⟩ : ∃ p, pa[1]? = some p := ⟨_, List.getElem?_eq_getElem (by have := HLA.out; omega)⟩
          obtain ⟨xb, hxb⟩ : ∃ p, pb[1]? = some p := ⟨_, List.getElem?_eq_getElem (by have := HLA.out; have := HLB.out; omega)⟩
          have ha := word_at HDA.out hxa
          have hb := word_at HDB.out hxb
          obtain ⟨ada, e1, haa, ka⟩ := HWA7.out.1.at hxa
          obtain ⟨adb, e2, hbb, kb⟩ := HWB.out.1.at hxb
          subst e1 e2
          rw [addkk _ _ (by decide)] at ka kb haa hbb
          have k0 : ∀ V, Below wr.heap.size wr V → V.cell? ⟨ada.block, ada.off + 1, none⟩ = some (.string xa) := fun V hV => ((HC.out.trans (hV.mono HC.out.size)).cell haa).trans ka
          have k1 : ∀ V, Below wr.heap.size wr V → V.cell? ⟨adb.block, adb.off + 1, none⟩ = some (.string xb) := fun V hV => ((HC.out.trans (hV.mono HC.out.size)).cell hbb).trans kb
          have k2 : ∀ V, Below wr.heap.size wr V → ∀ i, V.cell? ⟨w.heap.size, i, none⟩ = (#[.int .i64 t.tick, .slice CA t.cells.length cc, .slice RA t.rules.length rc, .slice HA t.chans.length hc] : Array Value)[i]? := fun V hV => (HQ7.out.below (HC.out.trans (hV.mono HC.out.size))).cells
          have hla1 : (1 : Int) < (pa.length : Int) := by have := HLA.out; omega
          have hlb1 : (1 : Int) < (pb.length : Int) := by have := HLA.out; have := HLB.out; omega
          have hcmp : (xa.toList == xb.toList) = (t.tick == n) := by
            rw [wds_rest] at ha hb
            injection ha with ha
            injection hb with hb
            exact cmp_numbers ha.symm hb.symm H6.out.1 HU6.out.1
          clear ha hb hxa hxb ka kb
          go_wp2_with fail
          refine wp_region_held_drew (S := fun V => Below wr.heap.size wr V) (by kernel_rfl) (by exact below_drew1 _) (fun hHeld => ?_)
          refine takeD 0 (some 70) (v := ?_) rfl rfl (by kernel_rfl) (by kernel_rfl) (by kernel_rfl) (fun _ _ _ h => h) (by rfl) ?_ (by assumption) ?_
          rotate_left
          · intro w hSw
            (try dsimp only at hSw)
            go_simp
            try with_reducible rfl
          try simp only [Act.put, List.setIfInBounds_toArray, List.set_cons_zero, List.set_cons_succ]
          refine takeD 1 (some 71) (v := ?_) rfl rfl (by kernel_rfl) (by kernel_rfl) (by kernel_rfl) (fun _ _ _ h => h) (by rfl) ?_ (by assumption) ?_
          rotate_left
          · intro w hSw
            (try dsimp only at hSw)
            go_simp
            try with_reducible rfl
          try simp only [Act.put, List.setIfInBounds_toArray, List.set_cons_zero, List.set_cons_succ]
          refine takeD 2 (some 72) (v := ?_) rfl rfl (by kernel_rfl) (by kernel_rfl) (by kernel_rfl) (fun _ _ _ h => h) (by rfl) ?_ (by assumption) ?_
          rotate_left
          · intro w hSw
            (try dsimp only at hSw)
            go_simp
            try with_reducible rfl
          try simp only [Act.put, List.setIfInBounds_toArray, List.set_cons_zero, List.set_cons_succ]
          refine takeD 3 (some 73) (v := ?_) rfl rfl (by kernel_rfl) (by kernel_rfl) (by kernel_rfl) (fun _ _ _ h => h) (by rfl) ?_ (by assumption) ?_
          rotate_left
          · intro w hSw
            (try dsimp only at hSw)
            go_simp
            try with_reducible rfl
          try simp only [Act.put, List.setIfInBounds_toArray, List.set_cons_zero, List.set_cons_succ]
          refine takeD 4 (some 74) (v := ?_) rfl rfl (by kernel_rfl) (by kernel_rfl) (by kernel_rfl) (fun _ _ _ h => h) (by rfl) ?_ (by assumption) ?_
          rotate_left
          · intro w hSw
            (try dsimp only at hSw)
            go_simp
            try with_reducible rfl
          try simp only [Act.put, List.setIfInBounds_toArray, List.set_cons_zero, List.set_cons_succ]
          refine takeD 5 (some 75) (v := ?_) rfl rfl (by kernel_rfl) (by kernel_rfl) (by kernel_rfl) (fun _ _ _ h => h) (by rfl) ?_ (by assumption) ?_
          rotate_left
          · intro w hSw
            (try dsimp only at hSw)
            go_simp
            try with_reducible rfl
          try simp only [Act.put, List.setIfInBounds_toArray, List.set_cons_zero, List.set_cons_succ]
          refine takeD 6 (some 76) (v := ?_) rfl rfl (by kernel_rfl) (by kernel_rfl) (by kernel_rfl) (fun _ _ _ h => h) (by rfl) ?_ (by assumption) ?_
          rotate_left
          · intro w hSw
            (try dsimp only at hSw)
            go_simp
            try with_reducible rfl
          try simp only [Act.put, List.setIfInBounds_toArray, List.set_cons_zero, List.set_cons_succ]
          refine takeD 7 (some 77) (v := ?_) rfl rfl (by kernel_rfl) (by kernel_rfl) (by kernel_rfl) (fun _ _ _ h => h) (by rfl) ?_ (by assumption) ?_
          rotate_left
          · intro w hSw
            (try dsimp only at hSw)
            go_simp
            try with_reducible rfl
          try simp only [Act.put, List.setIfInBounds_toArray, List.set_cons_zero, List.set_cons_succ]
          refine takeD 8 (some 78) (v := ?_) rfl rfl (by kernel_rfl) (by kernel_rfl) (by kernel_rfl) (fun _ _ _ h => h) (by rfl) ?_ (by assumption) ?_
          rotate_left
          · intro w hSw
            (try dsimp only at hSw)
            go_simp
            try with_reducible rfl
          try simp only [Act.put, List.setIfInBounds_toArray, List.set_cons_zero, List.set_cons_succ]
          refine takeD 9 (some 79) (v := ?_) rfl rfl (by kernel_rfl) (by kernel_rfl) (by kernel_rfl) (fun _ _ _ h => h) (by rfl) ?_ (by assumption) ?_
          rotate_left
          · intro w hSw
            (try dsimp only at hSw)
            go_simp
            try with_reducible rfl
          try simp only [Act.put, List.setIfInBounds_toArray, List.set_cons_zero, List.set_cons_succ]
          refine takeD 10 (some 80) (v := ?_) rfl rfl (by kernel_rfl) (by kernel_rfl) (by kernel_rfl) (fun _ _ _ h => h) (by rfl) ?_ (by assumption) ?_
          rotate_left
          · intro w hSw
            (try dsimp only at hSw)
            go_simp
            try with_reducible rfl
          try simp only [Act.put, List.setIfInBounds_toArray, List.set_cons_zero, List.set_cons_succ]
          refine takeD 11 (some 81) (v := ?_) rfl rfl (by kernel_rfl) (by kernel_rfl) (by kernel_rfl) (fun _ _ _ h => h) (by rfl) ?_ (by assumption) ?_
          rotate_left
          · intro w hSw
            (try dsimp only at hSw)
            go_simp
            try with_reducible rfl
          try simp only [Act.put, List.setIfInBounds_toArray, List.set_cons_zero, List.set_cons_succ]
          refine takeD 12 (some 82) (v := ?_) rfl rfl (by kernel_rfl) (by kernel_rfl) (by kernel_rfl) (fun _ _ _ h => h) (by rfl) ?_ (by assumption) ?_
          rotate_left
          · intro w hSw
            (try dsimp only at hSw)
            go_simp
            try with_reducible rfl
          try simp only [Act.put, List.setIfInBounds_toArray, List.set_cons_zero, List.set_cons_succ]
          refine takeD 13 (some 83) (v := ?_) rfl rfl (by kernel_rfl) (by kernel_rfl) (by kernel_rfl) (fun _ _ _ h => h) (by rfl) ?_ (by assumption) ?_
          rotate_left
          · intro w hSw
            (try dsimp only at hSw)
            go_simp
            try with_reducible rfl
          try simp only [Act.put, List.setIfInBounds_toArray, List.set_cons_zero, List.set_cons_succ]
          refine takeD 14 (some 84) (v := ?_) rfl rfl (by kernel_rfl) (by kernel_rfl) (by kernel_rfl) (fun _ _ _ h => h) (by rfl) ?_ (by assumption) ?_
          rotate_left
          · intro w hSw
            (try dsimp only at hSw)
            go_simp
            try with_reducible rfl
          try simp only [Act.put, List.setIfInBounds_toArray, List.set_cons_zero, List.set_cons_succ]
          refine takeD 15 (some 85) (v := ?_) rfl rfl (by kernel_rfl) (by kernel_rfl) (by kernel_rfl) (fun _ _ _ h => h) (by rfl) ?_ (by assumption) ?_
          rotate_left
          · intro w hSw
            (try dsimp only at hSw)
            go_simp
            try with_reducible rfl
          try simp only [Act.put, List.setIfInBounds_toArray, List.set_cons_zero, List.set_cons_succ]
          refine takeD 16 (some 4) (v := ?_) rfl rfl (by kernel_rfl) (by kernel_rfl) (by kernel_rfl) (fun _ _ _ h => h) (by rfl) ?_ (by assumption) ?_
          rotate_left
          · intro w hSw
            (try dsimp only at hSw)
            go_simp
            try with_reducible rfl
          try simp only [Act.put, List.setIfInBounds_toArray, List.set_cons_zero, List.set_cons_succ]
          refine wpAnyH_done (by kernel_rfl) ?_ _
          have HF := Lib.hid hHeld
          clear hHeld k0 k1 k2
          go_wp2
          go_ret
          exact ⟨by first | rfl | simp, HB7.out.trans ((HC.out.trans (HF.out.mono HC.out.size)).mono HB7.out.size)⟩
    · rw [decide_eq_false hr]
      clear hr
      go_wp2
      go_ret
      exact ⟨by rfl, HB3.out⟩
  · rw [great_yes hs]
    clear hs
    go_wp2
    go_ret
    exact ⟨by rfl, HB2.out⟩
end Go.Proofs.YtaelhgkodcgmnaaDoor
