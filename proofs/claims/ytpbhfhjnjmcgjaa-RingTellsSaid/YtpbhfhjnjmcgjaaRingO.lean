/- Layer 12: laws, walked. -/
import Derived.Test.YtpbhfhjnjmcgjaaRingW
namespace Go.Proofs.Ytpbhfhjnjmcgjaa
open Go.ChangeShapes Go.WideShapes Go.ChangeAt Go.RowKit
set_option linter.unusedVariables false
set_option linter.unusedSimpArgs false

def qG (G : List Int) : List (Int × Bool) := G.map fun x => (x, decide (0 < x))
theorem qG_len (G : List Int) : (qG G).length = G.length := by simp [qG]
theorem qG_at (G : List Int) (p : Nat) (x : Int) (h : G[p]? = some x) : (qG G)[p]? = some (x, decide (0 < x)) := by simp [qG, h]
theorem qG_putC (from_ K : Nat) (G : List Int) (hG : G.length = K) (p : Nat) (at_ : Int) (ha : at_ = (from_ : Int) + p) : putC from_ K (qG G) at_ = if K ≤ p then 7 else if 0 < G.getD p 0 then 8 else 9 := by
  subst ha
  unfold putC
  rw [if_neg (by omega)]
  by_cases h : K ≤ p
  · rw [if_pos h, if_pos (by omega)]
  · rw [if_neg h, if_neg (by omega), show ((from_ : Int) + p - from_).toNat = p by omega]
    have hx : G[p]? = some (G.getD p 0) := by rw [List.getD_eq_getElem?_getD, List.getElem?_eq_getElem (by omega)]; rfl
    rw [qG_at G p _ hx]
    simp
theorem qG_set (G : List Int) (p : Nat) (x : Int) (hx : 0 < x) : (qG G).set p (x, true) = qG (G.set p x) := by
  unfold qG
  rw [List.map_set]
  simp [hx]
theorem qG_putQ (from_ K : Nat) (G : List Int) (hG : G.length = K) (p : Nat) (at_ : Int) (ha : at_ = (from_ : Int) + p) (x : Int) (hx : 0 < x) (h : ¬ K ≤ p) (h0 : ¬ 0 < G.getD p 0) : putQ from_ K (qG G) at_ x = qG (G.set p x) := by
  unfold putQ
  rw [qG_putC from_ K G hG p at_ ha, if_neg h, if_neg h0, if_pos rfl]
  subst ha
  rw [show ((from_ : Int) + p - from_).toNat = p by omega]
  exact qG_set G p x hx
theorem qG_putN (from_ K : Nat) (G : List Int) (hG : G.length = K) (p : Nat) (at_ : Int) (ha : at_ = (from_ : Int) + p) (x : Int) (h : K ≤ p ∨ 0 < G.getD p 0) : putQ from_ K (qG G) at_ x = qG G := by
  unfold putQ
  rw [qG_putC from_ K G hG p at_ ha]
  by_cases h1 : K ≤ p
  · rw [if_pos h1]; rfl
  · rw [if_neg h1, if_pos (show 0 < G.getD p 0 by rcases h with h | h; exact absurd h h1; exact h)]; rfl
def iA (G : List Int) : Array Value := (G.map (Value.int .i64)).toArray
theorem iA_set (G : List Int) (p : Nat) (x : Int) : (iA G).setIfInBounds p (.int .i64 x) = iA (G.set p x) := by simp [iA, List.map_set]
def qD (G : List Int) (p : Nat) : List (Int × Bool) := (qG G).drop p ++ List.replicate (min p G.length) (0, false)
theorem qD_zero (G : List Int) : qD G 0 = qG G := by simp [qD]
theorem qD_lt (G : List Int) (p : Nat) (x : Int) (h : G[p]? = some x) : ∃ r, qD G p = (x, decide (0 < x)) :: r ∧ r ++ [(0, false)] = qD G (p + 1) := by
  have hp : p < G.length := (List.getElem?_eq_some_iff.1 h).1
  refine ⟨(qG G).drop (p + 1) ++ List.replicate p (0, false), ?_, ?_⟩
  · unfold qD
    rw [List.drop_eq_getElem_cons (by rw [qG_len]; exact hp), show min p G.length = p by omega]
    have := qG_at G p x h
    rw [List.getElem?_eq_getElem (by rw [qG_len]; exact hp)] at this
    rw [Option.some.inj this]
    rfl
  · unfold qD
    rw [show min (p + 1) G.length = p + 1 by omega, List.replicate_succ', List.append_assoc]
theorem qD_ge (G : List Int) (p : Nat) (h : G.length ≤ p) (h0 : 0 < G.length) : ∃ r, qD G p = (0, false) :: r ∧ r ++ [(0, false)] = qD G (p + 1) := by
  obtain ⟨m, hm⟩ : ∃ m, G.length = m + 1 := ⟨G.length - 1, by omega⟩
  refine ⟨List.replicate m (0, false), ?_, ?_⟩
  · unfold qD
    rw [List.drop_eq_nil_of_le (by rw [qG_len]; exact h), show min p G.length = m + 1 by omega]
    rfl
  · unfold qD
    rw [List.drop_eq_nil_of_le (by rw [qG_len]; omega), show min (p + 1) G.length = m + 1 by omega, List.replicate_succ']
    rfl
theorem info8 : (Try.prog.info? 3).map (fun i => (i.zero, i.size, i.bytes)) = some (some (.int .i64 0), 1, 8) := by kernel_rfl
theorem mkints (n : Nat) (hn : n ≤ 300) (w : World) : (Instr.makeSlice 34 (.int .i64 (n : Int)) (.int .i64 (n : Int))).run Try.prog w = .ok (.slice (some ⟨w.heap.size, 0, none⟩) n n) (w.alloc (.cells (iA (List.replicate n 0)) 3)) := by
  have h := run_make_rowN (P := Try.prog) 34 3 (.int .i64 0) 8 (k := 1) (by kernel_rfl) info8 .i64 .i64 n (by omega) (by omega) w
  have e2 : madeCells (Value.int .i64 0).cells (n * 1) = iA (List.replicate n 0) := by
    rw [madeCells_rep _ (.int .i64 0) _ (by intro i hi; simp [Value.cells] at hi; subst hi; rfl) (by decide)]
    simp [iA]
  rw [e2] at h
  exact h
theorem at_ints (G : List Int) (p : Nat) (h : p < G.length) : (iA G)[p]? = some (.int .i64 (G.getD p 0)) := by
  simp [iA, List.getElem?_eq_getElem h]

set_option maxRecDepth 100000 in
set_option maxHeartbeats 1000000 in
theorem walk_RingOnce (m f : Int) (v : Value) (l : List Int) (w : World) (h0 : (Lit.int .u8 m).wf = true) (h1 : (Lit.int .u16 f).wf = true) (h2 : Ints .u8 w v l) :
    Calls Try.prog 4 #[.int .u8 m, .int .u16 f, v] w fun e w' => e = .returned (.bool true) ∧ Below w.heap.size w w' := by
  have hm8 := bounds_u8 h0
  have hf16 := bounds_u16 h1
  obtain ⟨A, c, rfl, hc, hcm, hA⟩ := h2.shapeK
  have HC := Lib.hid hA
  have HWF := Lib.hid h2.2
  obtain ⟨K, hK⟩ : ∃ K : Nat, m % 9 + 1 = (K : Int) := ⟨(m % 9 + 1).toNat, by omega⟩
  obtain ⟨F, hF⟩ : ∃ F : Nat, f = (F : Int) := ⟨f.toNat, by omega⟩
  subst hF
  have hK1 : 1 ≤ K ∧ K ≤ 9 := by omega
  have hmk := mkints K (by omega)
  clear h0 h1 h2 hA
  go_enter Try.func4, Try.ntmps4
  go_wp2_with fail
  refine (head_any _).mono ?_
  rintro e W1 ⟨rfl, hk⟩
  have hb1 := hk
  clear hk
  by_cases hbig : 60 < l.length
  · have g1 : decide (((l.length : Nat) : Int) > 60) = true := decide_eq_true (by omega)
    go_wp2
    go_ret
    exact ⟨by first | rfl | simp, hb1⟩
  have g1 : decide (((l.length : Nat) : Int) > 60) = false := decide_eq_false (by omega)
  go_wp2_with fail
  try rw [hK]
  refine (newI_any K F _ (by omega) (by omega)).mono ?_
  rintro e W2 ⟨rb, gb, rfl, hR, hk, l1, l2⟩
  have hzz := hb1.size
  have hb2 := hb1.trans (hk.mono hb1.size)
  clear hk hb1
  have R2 := Lib.hid (show RingI W2 rb gb F K (List.replicate K (0, false)) from hR)
  clear hR
  have hrb : w.heap.size ≤ rb := by omega
  have hgb : w.heap.size ≤ gb := by omega
  have lrb := R2.out.head.lt
  have lgb : gb < W2.heap.size := R2.out.rest.elim fun _ hh => hh.1.lt
  clear l1 l2 hzz
  go_wp2_with fail
  have HG0 := Lib.hid (show Blk (W2.alloc (.cells (iA (List.replicate K 0)) 3)) W2.heap.size 3 (iA (List.replicate K 0)) from heap_at W2 _ _ rfl)
  have HR0 := Lib.hid (R2.out.below ((Below.refl _ _).alloc (Nat.le_refl _) (.cells (iA (List.replicate K 0)) 3)))
  have hb0 := Lib.hid (hb2.alloc hb2.size (.cells (iA (List.replicate K 0)) 3))
  have hzs := hb2.size
  obtain ⟨gg, hgg⟩ : ∃ gg, gg = W2.heap.size := ⟨_, rfl⟩
  rw [← hgg] at lrb lgb HG0 hzs
  rw [← hgg]
  clear hmk hgg
  go_loopw [11] (fun i wr => ∃ (k : Nat) (G : List Int), k ≤ l.length ∧ i = .int .i64 k ∧ Below w.heap.size w wr ∧ G.length = K ∧ (∀ x ∈ G, 0 ≤ x) ∧ RingI wr rb gb F K (qG G) ∧ Blk wr gg 3 (iA G)) (fun i _ => l.length - (intOf i).toNat)
  case atStart => exact ⟨0, List.replicate K 0, by omega, rfl, hb0.out, by simp, (fun x hx => by rw [List.eq_of_mem_replicate hx]; omega), by simpa [qG] using HR0.out, HG0.out⟩
  case round =>
    clear R2 hb2 HG0 HR0 hb0
    obtain ⟨k, G, hk, rfl, hb, hGl, hG0, hR, hGB⟩ := hrel
    have HR := Lib.hid hR
    have HGB := Lib.hid hGB
    have HG0 := Lib.hid hG0
    clear hR hGB hG0
    by_cases hlt : k < l.length
    · obtain ⟨y, hy⟩ : ∃ y, l[k]? = some y := ⟨_, List.getElem?_eq_getElem hlt⟩
      obtain ⟨ad, rfl, had, hcy⟩ := HC.out k y hy
      have hcy' : wr.cell? (ad.add k) = some (.int .u8 y) := by rw [hb.cell (by rw [block_add]; exact had)]; exact hcy
      have hy8 := bounds_u8 (HWF.out y (List.mem_of_getElem? hy))
      obtain ⟨p, hp⟩ : ∃ p : Nat, y % ((K : Int) + 3) = (p : Int) := ⟨(y % ((K : Int) + 3)).toNat, by have := Int.emod_nonneg y (show (K : Int) + 3 ≠ 0 by omega); omega⟩
      have hp12 : p < K + 3 := by have := Int.emod_lt_of_pos y (show 0 < (K : Int) + 3 by omega); omega
      have HPC := Lib.hid (qG_putC F K G hGl p ((F : Int) + p) rfl)
      clear hy hcy
      have cg0 := at_ints G
      have HP1 := Lib.hid (qG_putN F K G hGl p ((F : Int) + p) rfl ((k : Int) + 1))
      have HP2 := Lib.hid (qG_putQ F K G hGl p ((F : Int) + p) rfl ((k : Int) + 1) (by omega))
      go_wp2_with fail
      refine (putI_any rb gb _ K ((F : Int) + (p : Int)) ((k : Int) + 1) _ _ HR.out (by omega)).mono ?_
      rintro e W5 ⟨rfl, hR5, hO5⟩
      rw [HPC.out]
      have hb5 := Only.below hb hb.size hO5 (by simp; omega)
      have HR5 := Lib.hid hR5
      have HG5 := Lib.hid (HGB.out.only hO5 (by simp; omega))
      have hzb := hb5.size
      clear hR5 hO5
      by_cases hKp : K ≤ p
      · have f1 : decide ((p : Int) ≥ (K : Int)) = true := decide_eq_true (by omega)
        rw [if_pos hKp]
        have HR6 := Lib.hid (show RingI W5 rb gb F K (qG G) by have := HR5.out; rw [HP1.out (.inl hKp)] at this; exact this)
        clear cg0
        go_wp2
        go_roundw
        case rel => exact ⟨k + 1, G, by omega, by go_num, hb5, hGl, HG0.out, HR6.out, HG5.out⟩
        case measure => simp [intOf]; omega
      have f1 : decide ((p : Int) ≥ (K : Int)) = false := decide_eq_false (by omega)
      rw [if_neg hKp]
      have cg : W5.cell? ⟨gg, p, none⟩ = some (.int .i64 (G.getD p 0)) := by rw [HG5.out.cells]; exact cg0 p (by omega)
      have cf := HG5.out.froz p
      have hpK : (p : Int) < (K : Int) := by omega
      clear cg0
      by_cases h0 : 0 < G.getD p 0
      · rw [if_pos h0]
        have HR6 := Lib.hid (show RingI W5 rb gb F K (qG G) by have := HR5.out; rw [HP1.out (.inr h0)] at this; exact this)
        have f2 : decide (G.getD p 0 > 0) = true := decide_eq_true h0
        generalize G.getD p 0 = z at *
        go_wp2
        go_roundw
        case rel => exact ⟨k + 1, G, by omega, by go_num, hb5, hGl, HG0.out, HR6.out, HG5.out⟩
        case measure => simp [intOf]; omega
      · rw [if_neg h0]
        have HR6 := Lib.hid (show RingI W5 rb gb F K (qG (G.set p ((k : Int) + 1))) by have := HR5.out; rw [HP2.out (by omega) (by omega)] at this; exact this)
        have f2 : decide (G.getD p 0 > 0) = false := decide_eq_false h0
        generalize G.getD p 0 = z at *
        go_wp2
        go_roundw
        case rel =>
          refine ⟨k + 1, G.set p ((k : Int) + 1), by omega, by go_num, hb5.setCell (by show w.heap.size ≤ gg; omega) _, by simpa using hGl, ?_, HR6.out.only ((Only.refl [gg] _).setCell (by simp) _) (by simp; omega) (by simp; omega), ?_⟩
          · intro z hz
            rcases List.mem_or_eq_of_mem_set hz with h | h
            · exact HG0.out z h
            · omega
          · rw [← iA_set]
            exact HG5.out.set p _
        case measure => simp [intOf]; omega
    · have he : k = l.length := by omega
      subst he
      have HRz := Lib.hid (show RingI wr rb gb (F + 0) K (qD G 0) by rw [qD_zero]; exact HR.out)
      clear HR
      go_wp2_with fail
      go_loopw [14] (fun i wr => ∃ (p : Nat), p ≤ K + 3 ∧ i = .int .i64 p ∧ Below w.heap.size w wr ∧ RingI wr rb gb (F + p) K (qD G p) ∧ Blk wr gg 3 (iA G)) (fun i _ => K + 3 - (intOf i).toNat)
      case atStart => exact ⟨0, by omega, rfl, hb, HRz.out, HGB.out⟩
      case round =>
        clear HRz HGB hb
        obtain ⟨p, hp, rfl, hb, hR, hGB⟩ := hrel
        have HR := Lib.hid hR
        have HGB := Lib.hid hGB
        clear hR hGB
        by_cases hlt2 : p < K + 3
        · by_cases hpK : p < K
          · obtain ⟨r, hr1, hr2⟩ := qD_lt G p (G.getD p 0) (by rw [List.getD_eq_getElem?_getD, List.getElem?_eq_getElem (by omega)]; rfl)
            have hz0 := HG0.out (G.getD p 0) (by rw [List.getD_eq_getElem?_getD, List.getElem?_eq_getElem (by omega)]; exact List.getElem_mem _)
            have cg0 := at_ints G p (by omega)
            have HR1 := Lib.hid hr1
            have HR2 := Lib.hid hr2
            clear hr1 hr2
            go_wp2_with fail
            refine (takeI_any rb gb _ K _ _ HR.out (by omega) _ r HR1.out).mono ?_
            rintro e W5 ⟨rfl, hR5, hO5⟩
            rw [HR2.out, Nat.add_assoc] at hR5
            have hb5 := Only.below hb hb.size hO5 (by simp; omega)
            have HR5 := Lib.hid hR5
            have HG5 := Lib.hid (HGB.out.only hO5 (by simp; omega))
            have cg : W5.cell? ⟨gg, p, none⟩ = some (.int .i64 (G.getD p 0)) := by rw [HG5.out.cells]; exact cg0
            have f1 : decide ((p : Int) < (K : Int)) = true := decide_eq_true (by omega)
            have f3 : decide ((p : Int) ≥ (K : Int)) = false := decide_eq_false (by omega)
            have hpi : (p : Int) < (K : Int) := by omega
            clear hR5 hO5 cg0
            generalize G.getD p 0 = z at *
            by_cases h0 : 0 < z
            · have f2 : decide (z > 0) = true := decide_eq_true h0
              have f4 : decide (0 < z) = true := decide_eq_true h0
              dsimp only
              rw [f4]
              go_wp2
              go_roundw
              case rel => exact ⟨p + 1, by omega, by go_num, hb5, HR5.out, HG5.out⟩
              case measure => simp [intOf]; omega
            · have f2 : decide (z > 0) = false := decide_eq_false h0
              have f4 : decide (0 < z) = false := decide_eq_false h0
              dsimp only
              rw [f4]
              go_wp2
              go_roundw
              case rel => exact ⟨p + 1, by omega, by go_num, hb5, HR5.out, HG5.out⟩
              case measure => simp [intOf]; omega
          · obtain ⟨r, hr1, hr2⟩ := qD_ge G p (by omega) (by omega)
            have HR1 := Lib.hid hr1
            have HR2 := Lib.hid hr2
            clear hr1 hr2
            go_wp2_with fail
            refine (takeI_any rb gb _ K _ _ HR.out (by omega) _ r HR1.out).mono ?_
            rintro e W5 ⟨rfl, hR5, hO5⟩
            rw [HR2.out, Nat.add_assoc] at hR5
            have hb5 := Only.below hb hb.size hO5 (by simp; omega)
            have HR5 := Lib.hid hR5
            have HG5 := Lib.hid (HGB.out.only hO5 (by simp; omega))
            have f1 : decide ((p : Int) < (K : Int)) = false := decide_eq_false (by omega)
            have f3 : decide ((p : Int) ≥ (K : Int)) = true := decide_eq_true (by omega)
            clear hR5 hO5
            go_wp2
            go_roundw
            case rel => exact ⟨p + 1, by omega, by go_num, hb5, HR5.out, HG5.out⟩
            case measure => simp [intOf]; omega
        · have he : p = K + 3 := by omega
          subst he
          have hce : (((F + (K + 3) : Nat) : Int)) = (F : Int) + (K : Int) + 3 := by omega
          have HCE := Lib.hid hce
          clear hce
          go_wp2_with fail
          refine (fromI_any rb gb _ K _ _ HR.out).mono ?_
          rintro e W7 ⟨rfl, rfl⟩
          rw [HCE.out]
          go_wp2
          go_ret
          exact ⟨by first | rfl | simp, hb⟩
end Go.Proofs.Ytpbhfhjnjmcgjaa
