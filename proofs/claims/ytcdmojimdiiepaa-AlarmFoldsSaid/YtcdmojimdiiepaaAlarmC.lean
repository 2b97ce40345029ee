/- Layer 21: what a row of watched alarms tells. -/
import Derived.Test.YtcdmojimdiiepaaAlarmA
import Derived.Test.YtcdmojimdiiepaaAlarmB
import Derived.Test.YtcdmojimdiiepaaAlm
import Derived.StillTailTactics
import Derived.Handy
namespace Go.Proofs.Ytcdmojimdiiepaa
open Go.ChangeShapes Go.WideShapes Go.ChangeAt Go.RowKit
set_option linter.unusedVariables false
set_option linter.unusedSimpArgs false

set_option maxRecDepth 100000 in
set_option maxHeartbeats 2000000 in
theorem tick1_any (W0 : World) (b : Nat) (x : Wt) (pc : Nat) (CA : Option Addr) (cc : Nat) (cs : List Cl) (w : World) (hW : IsW W0 w b x) (hok : x.ok cs.length) (hpc : w.cell? ⟨pc, 0, none⟩ = some (.slice CA cs.length cc)) (hpl : pc < w.heap.size)
    (hc : RowN 3 w (.slice CA cs.length cc) cs.length (c3c cs)) (h0 : Below W0.heap.size W0 w) (hb : W0.heap.size ≤ b) (hne : ∀ ad, CA = some ad → ad.block ≠ b) :
    Calls Try.prog 40 #[wval (b, x), .pointer (some ⟨pc, 0, none⟩)] w fun e w' => e = .returned (.agg #[.bool (x.next cs).al.1, .bool (x.next cs).al.2]) ∧ IsW W0 w' b (x.next cs) ∧ Only [b] w w' := by
  have HL := Lib.hid hW.lt
  have HW := Lib.hid (hW.below ((Below.refl _ _).alloc (Nat.le_refl _) (.cells #[.bool false, .bool false] 53)))
  have HC := Lib.hid (hc.below ((Below.refl _ _).alloc (Nat.le_refl _) (.cells #[.bool false, .bool false] 53)))
  have H0 := Lib.hid (h0.trans ((show Below w.heap.size w (w.alloc (.cells #[.bool false, .bool false] 53)) from (Below.refl _ _).alloc (Nat.le_refl _) _).mono h0.size))
  have HR := Lib.hid (Blk.new w 53 #[.bool false, .bool false] w.heap.size rfl)
  have HO := Lib.hid (Only.of_below [b] (show Below w.heap.size w (w.alloc (.cells #[.bool false, .bool false] 53)) from (Below.refl _ _).alloc (Nat.le_refl _) _))
  clear hW hc h0
  cases x with
  | rule A rc h la l s a =>
    obtain ⟨y, HY⟩ : ∃ y, RowKit.Hid (y = (Wt.rule A rc h la l s a).next cs) := ⟨_, Lib.hid rfl⟩
    rw [← HY.out]
    show Calls _ _ #[.iface _ (.pointer (some ⟨b, 0, none⟩)), _] _ _
    go_enter Try.func40, Try.ntmps40
    go_wp2_with fail
    refine (rtick_any W0 b A rc h la l s a CA cc cs _ HW.out hok HC.out H0.out hb).mono ?_
    rintro e w1 ⟨rfl, hw1, ho1⟩
    rw [← HY.out] at hw1 ⊢
    have HW1 := Lib.hid hw1
    have HO1 := Lib.hid (HO.out.trans ho1)
    have HR1 := Lib.hid (HR.out.only ho1 (by simp; have := HL.out; omega))
    have cR := HR1.out.cells
    have fR := HR1.out.froz
    clear hw1 ho1
    go_wp2_with fail
    have hfin := (HO1.out.ownCell (p := ⟨w.heap.size, 0, none⟩) (Nat.le_refl _) (.bool y.al.1)).ownCell (p := ⟨w.heap.size, 1, none⟩) (Nat.le_refl _) (.bool y.al.2)
    have cS := ((HR1.out.set 0 (.bool y.al.1)).set 1 (.bool y.al.2)).cells
    refine bodyPost_ret (v := .agg #[.bool y.al.1, .bool y.al.2]) (by simp [results, Try.results40, go_sem, cS]) rfl ?_
    refine ⟨by first | rfl | simp, ?_, hfin⟩
    have hso : Only [w.heap.size] w1 ((w1.setCell ⟨w.heap.size, 0, none⟩ (.bool y.al.1)).setCell ⟨w.heap.size, 1, none⟩ (.bool y.al.2)) := ((Only.refl _ _).setCell (p := ⟨w.heap.size, 0, none⟩) (by simp) _).setCell (p := ⟨w.heap.size, 1, none⟩) (by simp) _
    exact HW1.out.only hso (by simp; have := HL.out; omega)
  | chan k ch s a =>
    obtain ⟨y, HY⟩ : ∃ y, RowKit.Hid (y = (Wt.chan k ch s a).next cs) := ⟨_, Lib.hid rfl⟩
    rw [← HY.out]
    show Calls _ _ #[.iface _ (.pointer (some ⟨b, 0, none⟩)), _] _ _
    go_enter Try.func40, Try.ntmps40
    go_wp2_with fail
    refine (ctick_any W0 b k ch s a CA cc cs _ HW.out hok HC.out hne).mono ?_
    rintro e w1 ⟨rfl, hw1, ho1⟩
    rw [← HY.out] at hw1 ⊢
    have HW1 := Lib.hid hw1
    have HO1 := Lib.hid (HO.out.trans ho1)
    have HR1 := Lib.hid (HR.out.only ho1 (by simp; have := HL.out; omega))
    have cR := HR1.out.cells
    have fR := HR1.out.froz
    clear hw1 ho1
    go_wp2_with fail
    have hfin := (HO1.out.ownCell (p := ⟨w.heap.size, 0, none⟩) (Nat.le_refl _) (.bool y.al.1)).ownCell (p := ⟨w.heap.size, 1, none⟩) (Nat.le_refl _) (.bool y.al.2)
    have cS := ((HR1.out.set 0 (.bool y.al.1)).set 1 (.bool y.al.2)).cells
    refine bodyPost_ret (v := .agg #[.bool y.al.1, .bool y.al.2]) (by simp [results, Try.results40, go_sem, cS]) rfl ?_
    refine ⟨by first | rfl | simp, ?_, hfin⟩
    have hso : Only [w.heap.size] w1 ((w1.setCell ⟨w.heap.size, 0, none⟩ (.bool y.al.1)).setCell ⟨w.heap.size, 1, none⟩ (.bool y.al.2)) := ((Only.refl _ _).setCell (p := ⟨w.heap.size, 0, none⟩) (by simp) _).setCell (p := ⟨w.heap.size, 1, none⟩) (by simp) _
    exact HW1.out.only hso (by simp; have := HL.out; omega)

def alTo (cs : List Cl) (q : List (Nat × Wt)) (k : Nat) : List (Bool × Bool) := (q.take k).map fun x => (x.2.next cs).al
theorem alTo_len (cs : List Cl) (q : List (Nat × Wt)) (k : Nat) (h : k ≤ q.length) : (alTo cs q k).length = k := by unfold alTo; rw [List.length_map, List.length_take]; omega
theorem alTo_succ (cs : List Cl) (q : List (Nat × Wt)) (k : Nat) (x : Nat × Wt) (h : q[k]? = some x) : alTo cs q (k + 1) = alTo cs q k ++ [((x.2.next cs).al.1, (x.2.next cs).al.2)] := by
  unfold alTo
  rw [List.take_add_one, h, List.map_append]
  rfl
theorem alTo_all (cs : List Cl) (q : List (Nat × Wt)) : alTo cs q q.length = q.map fun x => (x.2.next cs).al := by unfold alTo; rw [List.take_length]
def Part (W0 w : World) (cs : List Cl) (q : List (Nat × Wt)) (k : Nat) : Prop := ∀ (j : Nat) (y : Nat × Wt), q[j]? = some y → IsW W0 w y.1 (if j < k then y.2.next cs else y.2)
theorem Part.step {W0 w w' : World} {cs : List Cl} {q : List (Nat × Wt)} {k : Nat} {x : Nat × Wt} (h : Part W0 w cs q k) (hi : Inj q) (hx : q[k]? = some x) (ho : Only [x.1] w w') (hw : IsW W0 w' x.1 (x.2.next cs)) : Part W0 w' cs q (k + 1) := by
  intro j y hy
  by_cases hj : j = k
  · subst hj
    rw [hx] at hy
    injection hy with hy
    subst hy
    rw [if_pos (by omega)]
    exact hw
  · have h1 := h j y hy
    have h2 : (if j < k + 1 then y.2.next cs else y.2) = (if j < k then y.2.next cs else y.2) := by
      by_cases h3 : j < k
      · rw [if_pos h3, if_pos (by omega)]
      · rw [if_neg h3, if_neg (by omega)]
    rw [h2]
    refine h1.only ho ?_
    simp only [List.mem_singleton]
    intro he
    exact hj (hi j k y x hy hx he)
theorem Part.all {W0 w : World} {cs : List Cl} {q : List (Nat × Wt)} (h : Part W0 w cs q q.length) : AllW W0 w (q.map (nx cs)) := by
  intro j y hy
  rw [List.getElem?_map] at hy
  obtain ⟨z, hz, rfl⟩ := Option.map_eq_some_iff.1 hy
  have := h j z hz
  rw [if_pos (List.getElem?_eq_some_iff.1 hz).1] at this
  exact this
theorem Part.zero {W0 w : World} {cs : List Cl} {q : List (Nat × Wt)} (h : AllW W0 w q) : Part W0 w cs q 0 := fun j y hy => by rw [if_neg (by omega)]; exact h j y hy
set_option maxRecDepth 100000 in
set_option maxHeartbeats 4000000 in
theorem tell_any (W0 w : World) (q : List (Nat × Wt)) (A : Option Addr) (c pd pc : Nat) (CA : Option Addr) (cc : Nat) (cs : List Cl) (hq : AllW W0 w q) (hi : Inj q) (hok : ∀ x ∈ q, x.2.ok cs.length)
    (hrow : Row w (.slice A q.length c) (q.map wval)) (hA : ∀ ad, A = some ad → ad.block ∉ bl q) (hc : RowN 3 w (.slice CA cs.length cc) cs.length (c3c cs)) (hCA : ∀ ad, CA = some ad → ad.block ∉ bl q)
    (hpc : Blk w pc 35 #[.slice CA cs.length cc]) (hpc' : pc ∉ bl q) (hpd : Blk w pd 92 #[.func (.func 40) #[] #[.pointer (some ⟨pc, 0, none⟩)]]) (hpd' : pd ∉ bl q)
    (h0 : Below W0.heap.size W0 w) (hbase : ∀ b ∈ bl q, W0.heap.size ≤ b) (hlen : q.length ≤ 100000) :
    Calls Try.prog 60 #[.slice A q.length c, .pointer (some ⟨pd, 0, none⟩)] w fun e w' => ∃ v, e = .returned v ∧ RowF w.heap.size 2 w' v q.length (al2 (q.map fun x => (x.2.next cs).al)) ∧ AllW W0 w' (q.map (nx cs)) ∧ Only (bl q) w w' := by
  obtain ⟨A', c', e1, hc1, hc2, hA'⟩ := hrow
  injection e1 with e1 e3 e2
  clear e3
  subst e1 e2
  rw [List.length_map] at hc1
  unfold maxLen at hc2
  have HCL : RowKit.Hid (∀ k x, q[k]? = some x → ∃ ad, A = some ad ∧ ad.block < w.heap.size ∧ w.cell? (ad.add k) = some (wval x)) := Lib.hid (by
    intro k x hx
    have hk : k < q.length := (List.getElem?_eq_some_iff.1 hx).1
    rcases hA' with ⟨_, h0⟩ | ⟨ad, h1, h2, h3⟩
    · omega
    · exact ⟨ad, h1, h2 (by rw [List.length_map]; omega), h3 k _ (by rw [List.getElem?_map, hx]; rfl)⟩)
  have HNG : RowKit.Hid (w.heap.size ∉ bl q) := Lib.hid (by
    intro hm
    obtain ⟨y, hy, e⟩ := List.mem_map.1 hm
    obtain ⟨j, hj⟩ := List.getElem?_of_mem hy
    have := (hq j y hj).lt
    omega)
  have HQ0 := Lib.hid (Part.zero (cs := cs) hq)
  have HC := Lib.hid hc
  have HPC := Lib.hid hpc
  have HPD := Lib.hid hpd
  have H0 := Lib.hid h0
  have HI := Lib.hid hi
  have HOK := Lib.hid hok
  have HA := Lib.hid hA
  have HCA := Lib.hid hCA
  have HBA := Lib.hid hbase
  have hpcl := hpc.lt
  clear hA' hq hc hpc hpd h0 hi hok hA hCA hbase
  have hmk := fun w => run_make_rowN (P := Try.prog) 38 53 _ _ Try.underlying38 info39 .i64 .i64 q.length (by omega) (by omega) w
  rw [fill_zero] at hmk
  have u75 := Try.underlying75
  go_enter Try.func60, Try.ntmps60
  go_wp2_with fail
  go_loopw [12] (fun i wr => ∃ k : Nat, k ≤ q.length ∧ i = .int .i64 k ∧ Only (bl q) w wr ∧ Blk wr w.heap.size 53 (fillTo (alTo cs q k) q.length) ∧ Part W0 wr cs q k) (fun i _ => q.length - (intOf i).toNat)
  case atStart =>
    refine ⟨0, Nat.zero_le _, rfl, (Only.refl _ _).alloc _, Blk.new _ _ _ _ rfl, fun j y hy => (HQ0.out j y hy).below ((Below.refl _ _).alloc (Nat.le_refl _) _)⟩
  case round =>
    obtain ⟨k, hk, rfl, ho, hg, hp⟩ := hrel
    have HO := Lib.hid ho
    have HG := Lib.hid hg
    have HP := Lib.hid hp
    clear ho hg hp
    by_cases hlt : k < q.length
    · obtain ⟨x, hx⟩ : ∃ x, q[k]? = some x := ⟨_, List.getElem?_eq_getElem hlt⟩
      obtain ⟨ad, rfl, had, hcx⟩ := HCL.out k x hx
      have hcx' : wr.cell? (ad.add k) = some (wval x) := by rw [HO.out.cell (by rw [block_add]; exact had) (by rw [block_add]; exact HA.out ad rfl)]; exact hcx
      have HX := Lib.hid hx
      have hxm := mem_bl hx
      have HPD1 := Lib.hid (HPD.out.only HO.out hpd')
      have cD := HPD1.out.cells
      have hkl : (k : Int) < (q.length : Int) := by omega
      clear hx hcx
      go_wp2_with fail
      refine (tick1_any W0 x.1 x.2 pc CA cc cs _ (by have := HP.out k x HX.out; rw [if_neg (by omega)] at this; exact this) (HOK.out x (List.mem_of_getElem? HX.out)) (by rw [(HPC.out.only HO.out hpc').cells]; rfl) (Nat.lt_of_lt_of_le hpcl HO.out.size) (HC.out.only HO.out (fun a n' c' e => by injection e with e; exact HCA.out a e)) (Only.below H0.out H0.out.size HO.out HBA.out) (HBA.out _ hxm) (fun a e he => HCA.out a e (by rw [he]; exact hxm))).mono ?_
      rintro e w1 ⟨rfl, hw1, ho1⟩
      have HP1 := Lib.hid (HP.out.step HI.out HX.out ho1 hw1)
      have HO1 := Lib.hid (HO.out.trans (ho1.mono (t := bl q) (by simpa using hxm)))
      have HG1 := Lib.hid (HG.out.only ho1 (by simp; intro he; exact HNG.out (by rw [he]; exact hxm)))
      have HFI := Lib.hid (fill_at (alTo cs q k) q.length (by rw [alTo_len _ _ _ hk]; omega))
      have ha0 : w1.cell? ⟨w.heap.size, k * 2, none⟩ = some (.bool false) := by
        have := HFI.out.1
        rw [alTo_len _ _ _ hk] at this
        rw [HG1.out.cells, this]
      have ha1 : w1.cell? ⟨w.heap.size, k * 2 + 1, none⟩ = some (.bool false) := by
        have := HFI.out.2
        rw [alTo_len _ _ _ hk] at this
        rw [HG1.out.cells, this]
      have hf := HG1.out.froz
      have HST := Lib.hid (fill_step (alTo cs q k) q.length (x.2.next cs).al.1 (x.2.next cs).al.2 (by rw [alTo_len _ _ _ hk]; omega))
      clear hw1 ho1 hcx' cD
      go_wp2
      go_roundw
      case rel =>
        refine ⟨k + 1, by omega, by go_num, (HO1.out.ownCell (p := ⟨w.heap.size, k * 2, none⟩) (Nat.le_refl _) _).ownCell (p := ⟨w.heap.size, k * 2 + 1, none⟩) (Nat.le_refl _) _, ?_, ?_⟩
        · have h := (HG1.out.set (k * 2) (.bool (x.2.next cs).al.1)).set (k * 2 + 1) (.bool (x.2.next cs).al.2)
          have h2 := HST.out
          rw [alTo_len _ _ _ hk] at h2
          rw [h2, ← alTo_succ cs q k x HX.out] at h
          exact h
        · intro j y hy
          have hso : Only [w.heap.size] w1 _ := ((Only.refl _ _).setCell (p := ⟨w.heap.size, k * 2, none⟩) (by simp) (.bool (x.2.next cs).al.1)).setCell (p := ⟨w.heap.size, k * 2 + 1, none⟩) (by simp) (.bool (x.2.next cs).al.2)
          exact (HP1.out j y hy).only hso (by simp; intro he; exact HNG.out (by rw [← he]; exact mem_bl hy))
      case measure => simp [intOf]; omega
    · obtain rfl : k = q.length := by omega
      go_wp2
      go_returns
      refine ⟨_, rfl, ⟨RowN.of_blk HG.out ?_ ?_ (Nat.le_refl _) (by unfold maxLen; omega), ?_⟩, HP.out.all, HO.out⟩
      · unfold fillTo
        rw [alTo_len _ _ _ (Nat.le_refl _), alTo_all]
        simp
        rw [List.take_of_length_le (by rw [al2_len, List.length_map]; exact Nat.le_refl _)]
      · rw [al2_len, List.length_map]
      · intro ad n' c' e
        injection e with e
        injection e with e
        subst e
        exact Nat.le_refl _
end Go.Proofs.Ytcdmojimdiiepaa
