/- Layer 18: what is said. -/
import Derived.Test.YtcdmojimdiiepaaRuleCV
import Derived.Test.YtcdmojimdiiepaaReg
import Derived.Defers
import Derived.Recover
import Derived.Laws.Pointers
import Derived.WideMake
import Derived.Laws.EntriesVeiled
import Derived.WalkLawsBesides
namespace Go.Proofs.Ytcdmojimdiiepaa
open Go.ChangeShapes Go.WideShapes Go.ChangeAt Go.RowKit
set_option linter.unusedVariables false
set_option linter.unusedSimpArgs false

theorem run_look {P : Program} (W : World) (mty kt et : TypeId) (r clock : Nat) (es : Array MapEntry) (n : Int) (val : Value) (i : Nat) (hm : P.underlying mty = some (.map kt et)) (hk : P.underlying kt = some (.int .i64)) (hb : W.heap[r]? = some (.map es clock)) (hf : Instr.findNow (.int .i64) (.int .i64 n) es.toList 0 = some (some (i, val))) :
    (Instr.lookup mty (.map (some r)) (.int .i64 n) true).run P W = .ok (.tuple #[val, .bool true]) W := by
  have hc : ∀ e, (Instr.checkKey e 10000 kt (.int .i64 n)).run P W = .ok () W := fun e => MapKept.run_checkKey (k := .int .i64 n) hk (by simp [MapKept.IsKey]) e 9999
  simp [Instr.lookup, run_underlying hm, MapKept.run_getObj_map hb, hc, MapKept.run_findKey hk hf, Result.andThen]
theorem catch_panicking (p q : Addr) (x : Int) (b : Bool) (u : TypeId) (pv : Value) (older : List PanicEntry) (w : World) (hne : p.block ≠ q.block) (hc : w.cell? p = some (.int .i64 x)) (hz : w.frozen? p = false) (hc2 : w.cell? q = some (.bool b)) (hz2 : w.frozen? q = false) :
    CallsD Try.prog 65 #[.pointer (some p), .pointer (some q)] (.panicking ({ v := .iface u pv, recovered := false } :: older)) w fun e u' w' =>
      e = .returned (.tuple #[]) ∧ u' = .panicking ({ v := .iface u pv, recovered := true } :: older) ∧ w' = (w.setCell p (.int .i64 0)).setCell q (.bool false) := by
  have hc3 : (w.setCell p (.int .i64 0)).cell? q = some (.bool b) := by rw [World.cell?_setCell_other _ _ _ _ (fun h => hne (by rw [h]))]; exact hc2
  have hz3 : (w.setCell p (.int .i64 0)).frozen? q = false := by rw [World.frozen?_setCell]; exact hz2
  refine callsD_of_wpS Try.func65 rfl fun c₀ cs hu => ?_
  apply wpS_seq
  apply wpS_region
  simp [wpOpsS, go_sem, recoverD, hu, Try.ntmps65, Exit.thenS]
  refine wpS_cond (t := true) (by simp [Act.eval, Array.replicate]) ?_
  simp only [if_true]
  apply wpS_region
  simp [wpOpsS, go_sem, hc, hz, hc3, hz3, bodyPostS, results, Try.results65]
theorem catch_idle (p q : Addr) (w : World) :
    CallsD Try.prog 65 #[.pointer (some p), .pointer (some q)] .returning w fun e u' w' => e = .returned (.tuple #[]) ∧ u' = .returning ∧ w' = w := by
  refine callsD_of_wpS Try.func65 rfl fun c₀ cs hu => ?_
  apply wpS_seq
  apply wpS_region
  simp [wpOpsS, go_sem, recoverD, hu, Try.ntmps65, Exit.thenS]
  refine wpS_cond (t := false) (by simp [Act.eval, Array.replicate]) ?_
  simp only [Bool.false_eq_true, if_false]
  refine wpS_of_wp (wp_skip ?_)
  cases c₀
  simp_all [bodyPostS, results, Try.results65]
theorem Below.alloc0 {B : Nat} {a w : World} (h : Below B a w) (hB : B ≤ w.heap.size) (o : Obj) : Below B a (w.alloc o) := h.alloc hB o

set_option maxRecDepth 100000 in
set_option maxHeartbeats 16000000 in
theorem saidR_any (w : World) (A : Option Addr) (rc : Nat) (hold : Int) (latch : Bool) (l : List T) (hrow : RowN 3 w (.slice A l.length rc) l.length (c3c l)) (hl : l.length ≤ 100) (hop : ∀ t ∈ l, 1 ≤ t.1 ∧ t.1 ≤ 5) :
    Calls Try.prog 44 #[.agg #[.slice A l.length rc, .int .i64 hold, .bool latch], (.func (.func 56) #[] #[])] w fun e w' => e = .returned (.tuple #[.int .i64 (saidO (fun t => limO t (0, 0, 0)) l).1, .bool (saidO (fun t => limO t (0, 0, 0)) l).2]) ∧ Below w.heap.size w w' := by
  have hmf : ∀ (fn : Fn) (first cap : Array Value) (w : World), (Instr.makeFunc fn first cap).run Try.prog w = .ok (.func fn first cap) w := fun _ _ _ _ => rfl
  have HROW := Lib.hid hrow
  have HOP := Lib.hid hop
  clear hrow hop
  go_enter_defers Try.func44, Try.ntmps44
  go_wp2_with fail
  refine calls_world (fun W => Below w.heap.size w W ∧ Blk W (w.heap.size + 1) 3 #[.int .i64 0] ∧ Blk W (w.heap.size + 1 + 1) 4 #[.bool false] ∧ Blk W w.heap.size 50 #[.slice A l.length rc, .int .i64 hold, .bool latch]) ⟨by go_grown, ((Blk.new _ _ _ _ (by simp)).al _), Blk.new _ _ _ _ (by simp), ((Blk.new _ _ _ _ rfl).al _).al _⟩ fun W1 ⟨hb1, ht1, hi1, hr1⟩ => ?_
  have HT1 := Lib.hid ht1
  have HI1 := Lib.hid hi1
  have HR1 := Lib.hid hr1
  clear ht1 hi1 hr1
  refine (works_any 56 #[] W1).mono ?_
  rintro e W2 ⟨mb, cb, wa, wb, rfl, hws, hk⟩
  have hb2 := Btrans hb1 hk
  have HT2 := Lib.hid (HT1.out.below hk)
  have HI2 := Lib.hid (HI1.out.below hk)
  have hr2 := HR1.out.below hk
  have HWS2 := Lib.hid hws
  have hx2 := hr2.cells
  have lx2 := hr2.lt
  have lt2 := HT2.out.lt
  have li2 := HI2.out.lt
  have lw2 := hws.lt
  clear hk hws hb1 HT1 HI1 HR1
  go_wp2_with fail
  clear hx2
  obtain ⟨b0, hb0⟩ : ∃ b, b = W2.heap.size := ⟨_, rfl⟩
  rw [← hb0] at lx2 lt2 li2 lw2 ⊢
  have hbz := hb2.size
  have hwb0 : w.heap.size ≤ b0 := by omega
  have hal := (Below.refl b0 W2).alloc (by omega) (.cells #[.slice none 0 0] 122)
  have hp0 : Pile (W2.alloc (.cells #[.slice none 0 0] 122)) b0 b0 [] := ⟨⟨none, 0, Blk.new _ _ _ _ hb0, own_nil _ _⟩, Nat.le_refl _⟩
  have hz0 : b0 ≤ (W2.alloc (.cells #[.slice none 0 0] 122)).heap.size := by simp; omega
  have HP0 := Lib.hid hp0
  have HT3 := Lib.hid (HT2.out.keep hal (by omega))
  have HI3 := Lib.hid (HI2.out.keep hal (by omega))
  have HW3 := Lib.hid (HWS2.out.below hal (by omega) (by omega) (by omega) (by omega))
  have hb3 := hb2.trans (hal.mono hwb0)
  clear hp0 hal HT2 HI2 HWS2 hb2 hbz hb0
  go_loopw [18] (fun i wr => ∃ (j : Nat) (p : List Int), j ≤ l.length ∧ i = .int .i64 j ∧ evalP (fun t => limO t (0, 0, 0)) (l.take j) [] = some p ∧ (∀ a ∈ p, Tr a) ∧ p.length ≤ j ∧ Below w.heap.size w wr ∧ Blk wr (w.heap.size + 1) 3 #[.int .i64 0] ∧ Blk wr (w.heap.size + 1 + 1) 4 #[.bool false] ∧ Works wr (.func (.func 56) #[] #[]) mb cb wa wb ∧ Pile wr b0 b0 p ∧ b0 ≤ wr.heap.size) (fun i _ => l.length - (intOf i).toNat)
  case atStart => exact ⟨0, [], by omega, rfl, rfl, by simp, by simp, hb3, HT3.out, HI3.out, HW3.out, HP0.out, hz0⟩
  case round =>
    clear hb3 HT3 HI3 HW3 HP0 hz0
    obtain ⟨j, p, hj, rfl, hev, htr, hpl, hb, hT, hI, hW, hP, hz⟩ := hrel
    have HEV := Lib.hid hev
    have HTR := Lib.hid htr
    have HT := Lib.hid hT
    have HI := Lib.hid hI
    have HW := Lib.hid hW
    have HP := Lib.hid hP
    clear hev htr hT hI hW hP
    by_cases hlt : j < l.length
    · obtain ⟨t, ht⟩ : ∃ t, l[j]? = some t := ⟨_, List.getElem?_eq_getElem hlt⟩
      obtain ⟨ad, rfl, had, c0, c1, c2⟩ := row3_at HROW.out ht
      have e0 : wr.cell? (ad.add (j * 3)) = some (.int .i64 t.1) := by rw [hb.cell (by rw [block_add]; exact had)]; exact c0
      have e1 : wr.cell? ⟨(ad.add (j * 3)).block, (ad.add (j * 3)).off + 1, none⟩ = some (.int .i64 t.2.1) := by rw [hb.cell (by show (ad.add (j * 3)).block < _; rw [block_add]; exact had)]; exact c1
      have e2 : wr.cell? ⟨(ad.add (j * 3)).block, (ad.add (j * 3)).off + 2, none⟩ = some (.int .i64 t.2.2) := by rw [hb.cell (by show (ad.add (j * 3)).block < _; rw [block_add]; exact had)]; exact c2
      have hjl : (j : Int) < (l.length : Int) := by omega
      have htk : l.take (j + 1) = l.take j ++ [t] := by rw [List.take_add_one, ht]; rfl
      have hst : evalP (fun t => limO t (0, 0, 0)) (l.take (j + 1)) [] = (stepP (fun t => limO t (0, 0, 0)) t p) := by
        rw [htk, evalP_app, HEV.out]
        show (stepP (fun t => limO t (0, 0, 0)) t p).bind (evalP (fun t => limO t (0, 0, 0)) []) = _
        cases stepP (fun t => limO t (0, 0, 0)) t p <;> rfl
      have hno : stepP (fun t => limO t (0, 0, 0)) t p = none → saidO (fun t => limO t (0, 0, 0)) l = (0, false) := by
        intro hn
        have e : evalP (fun t => limO t (0, 0, 0)) l [] = none := by
          rw [← List.take_append_drop (j + 1) l, evalP_app, hst, hn]
          rfl
        unfold saidO
        rw [e]
      have HST := Lib.hid hst
      have HNO := Lib.hid hno
      have hm := HOP.out t (List.mem_of_getElem? ht)
      obtain ⟨op, ch, n⟩ := t
      dsimp only at e0 e1 e2 hm
      have hall := HW.out
      have hmapA : ∀ o, (wr.alloc o).heap[mb]? = _ := fun o => ((Below.refl _ _).alloc (Nat.le_refl _) o).block mb hall.lt.2.2.2 |>.trans hall.map
      have HAL := Lib.hid ((Below.refl wr.heap.size wr).alloc (Nat.le_refl _) (.cells #[.int .i64 op, .int .i64 ch, .int .i64 n] 103))
      have HALB := Lib.hid ((Below.refl b0 wr).alloc hz (.cells #[.int .i64 op, .int .i64 ch, .int .i64 n] 103))
      clear c0 c1 c2 ht htk hst hno
      have hop5 : op = 1 ∨ op = 2 ∨ op = 3 ∨ op = 4 ∨ op = 5 := by omega
      clear hm
      rcases hop5 with rfl | rfl | rfl | rfl | rfl
      · have hlc : isLim (1, ch, n) = true := rfl
        have hlk : ∀ o, (Instr.lookup 119 (.map (some mb)) (.int .i64 1) true).run Try.prog (wr.alloc o) = .ok (.tuple #[.func (.func 76) #[] #[.pointer (some ⟨cb, 0, none⟩), .pointer (some ⟨wa, 0, none⟩)], .bool true]) (wr.alloc o) := fun o => run_look _ _ _ _ _ _ _ _ _ 0 uM Try.underlying3 (hmapA o) rfl
        go_wp2_with fail
        refine (wlimR1 _ b0 b0 p ch n cb wa (HP.out.below HAL.out) (by omega) (by simp; omega) (by rw [HAL.out.cell (p := ⟨cb, 0, none⟩) hall.lt.1]; exact hall.cell) (by rw [HAL.out.cell (p := ⟨wa, 0, none⟩) hall.lt.2.1]; exact hall.above) (by have := hall.lt; simp; omega) (by have := hall.lt; simp; omega)).mono ?_
        rintro e w6 ⟨rfl, hp6, hk6⟩
        have hb6 := hb.trans ((HALB.out.trans hk6).mono hwb0)
        have HT6 := Lib.hid (HT.out.keep (HALB.out.trans hk6) (by omega))
        have HI6 := Lib.hid (HI.out.keep (HALB.out.trans hk6) (by omega))
        have HW6 := Lib.hid (HW.out.below (HALB.out.trans hk6) (by omega) (by omega) (by omega) (by omega))
        have hz6 := Nat.le_trans hz (HALB.out.trans hk6).size
        have HP6 := Lib.hid hp6
        have HEV6 := Lib.hid (HST.out.trans rfl)
        have HTR6 := Lib.hid (show ∀ a ∈ limO (1, ch, n) (0, 0, 0) :: p, Tr a from fun a ha => by rcases List.mem_cons.1 ha with rfl | ha; exact lim_tr _ _; exact HTR.out a ha)
        clear hp6 hk6 hlk hmapA e0 e1 e2 hb hall
        go_wp2
        go_roundw
        case rel => exact ⟨j + 1, _, by omega, by go_num, HEV6.out, HTR6.out, by simp at hpl ⊢; omega, hb6, HT6.out, HI6.out, HW6.out, HP6.out, hz6⟩
        case measure => simp [intOf]; omega
      · have hlc : isLim (2, ch, n) = true := rfl
        have hlk : ∀ o, (Instr.lookup 119 (.map (some mb)) (.int .i64 2) true).run Try.prog (wr.alloc o) = .ok (.tuple #[.func (.func 76) #[] #[.pointer (some ⟨cb, 0, none⟩), .pointer (some ⟨wb, 0, none⟩)], .bool true]) (wr.alloc o) := fun o => run_look _ _ _ _ _ _ _ _ _ 1 uM Try.underlying3 (hmapA o) rfl
        go_wp2_with fail
        refine (wlimR2 _ b0 b0 p ch n cb wb (HP.out.below HAL.out) (by omega) (by simp; omega) (by rw [HAL.out.cell (p := ⟨cb, 0, none⟩) hall.lt.1]; exact hall.cell) (by rw [HAL.out.cell (p := ⟨wb, 0, none⟩) hall.lt.2.2.1]; exact hall.under) (by have := hall.lt; simp; omega) (by have := hall.lt; simp; omega)).mono ?_
        rintro e w6 ⟨rfl, hp6, hk6⟩
        have hb6 := hb.trans ((HALB.out.trans hk6).mono hwb0)
        have HT6 := Lib.hid (HT.out.keep (HALB.out.trans hk6) (by omega))
        have HI6 := Lib.hid (HI.out.keep (HALB.out.trans hk6) (by omega))
        have HW6 := Lib.hid (HW.out.below (HALB.out.trans hk6) (by omega) (by omega) (by omega) (by omega))
        have hz6 := Nat.le_trans hz (HALB.out.trans hk6).size
        have HP6 := Lib.hid hp6
        have HEV6 := Lib.hid (HST.out.trans rfl)
        have HTR6 := Lib.hid (show ∀ a ∈ limO (2, ch, n) (0, 0, 0) :: p, Tr a from fun a ha => by rcases List.mem_cons.1 ha with rfl | ha; exact lim_tr _ _; exact HTR.out a ha)
        clear hp6 hk6 hlk hmapA e0 e1 e2 hb hall
        go_wp2
        go_roundw
        case rel => exact ⟨j + 1, _, by omega, by go_num, HEV6.out, HTR6.out, by simp at hpl ⊢; omega, hb6, HT6.out, HI6.out, HW6.out, HP6.out, hz6⟩
        case measure => simp [intOf]; omega
      · have hlk : ∀ o, (Instr.lookup 119 (.map (some mb)) (.int .i64 3) true).run Try.prog (wr.alloc o) = .ok (.tuple #[.func (.func 81) #[] #[], .bool true]) (wr.alloc o) := fun o => run_look _ _ _ _ _ _ _ _ _ 2 uM Try.underlying3 (hmapA o) rfl
        go_wp2_with fail
        match p, HEV, HTR, HP, HST, HNO, hpl with
        | [], HEV, HTR, HP, HST, HNO, hpl =>
          refine (wand_zero _ b0 b0 3 ch n (HP.out.below HAL.out) (by simp; omega)).mono ?_
          rintro e w6 ⟨rfl, hk6⟩
          have hb6 := hb.trans ((HALB.out.trans hk6).mono hwb0)
          have HT6 := Lib.hid (HT.out.keep (HALB.out.trans hk6) (by omega))
          have HI6 := Lib.hid (HI.out.keep (HALB.out.trans hk6) (by omega))
          have HS := Lib.hid (HNO.out rfl)
          clear hk6 hlk hmapA e0 e1 e2 hb hall
          go_wp2
          refine leaves_cons (f := 65) (args := #[.pointer (some ⟨w.heap.size + 1, 0, none⟩), .pointer (some ⟨w.heap.size + 1 + 1, 0, none⟩)]) (by simp) (by simp [go_sem]) ?_
          refine (catch_panicking ⟨w.heap.size + 1, 0, none⟩ ⟨w.heap.size + 1 + 1, 0, none⟩ 0 false _ _ [] w6 (by simp) (by rw [HT6.out.cells]; rfl) (HT6.out.froz 0) (by rw [HI6.out.cells]; rfl) (HI6.out.froz 0)).mono ?_
          rintro e u' w'' ⟨rfl, rfl, rfl⟩
          have hqt := ((HT6.out.set 0 (.int .i64 0)).setO (c := w.heap.size + 1 + 1) (by omega) 0 (.bool false)).cells
          have hqi := ((HI6.out.setO (c := w.heap.size + 1) (by omega) 0 (.int .i64 0)).set 0 (.bool false)).cells
          have hbx := (hb6.setCell (p := ⟨w.heap.size + 1, 0, none⟩) (by show w.heap.size ≤ w.heap.size + 1; omega) (.int .i64 0)).setCell (p := ⟨w.heap.size + 1 + 1, 0, none⟩) (by show w.heap.size ≤ w.heap.size + 1 + 1; omega) (.bool false)
          simp [Leaves, settle, results, Try.results44, go_sem, hqt, hqi, HS.out]
          exact hbx
        | [a], HEV, HTR, HP, HST, HNO, hpl =>
          refine (wand_one _ b0 b0 a 3 ch n (HP.out.below HAL.out) (by simp; omega)).mono ?_
          rintro e w6 ⟨rfl, hk6⟩
          have hb6 := hb.trans ((HALB.out.trans hk6).mono hwb0)
          have HT6 := Lib.hid (HT.out.keep (HALB.out.trans hk6) (by omega))
          have HI6 := Lib.hid (HI.out.keep (HALB.out.trans hk6) (by omega))
          have HS := Lib.hid (HNO.out rfl)
          clear hk6 hlk hmapA e0 e1 e2 hb hall
          go_wp2
          refine leaves_cons (f := 65) (args := #[.pointer (some ⟨w.heap.size + 1, 0, none⟩), .pointer (some ⟨w.heap.size + 1 + 1, 0, none⟩)]) (by simp) (by simp [go_sem]) ?_
          refine (catch_panicking ⟨w.heap.size + 1, 0, none⟩ ⟨w.heap.size + 1 + 1, 0, none⟩ 0 false _ _ [] w6 (by simp) (by rw [HT6.out.cells]; rfl) (HT6.out.froz 0) (by rw [HI6.out.cells]; rfl) (HI6.out.froz 0)).mono ?_
          rintro e u' w'' ⟨rfl, rfl, rfl⟩
          have hqt := ((HT6.out.set 0 (.int .i64 0)).setO (c := w.heap.size + 1 + 1) (by omega) 0 (.bool false)).cells
          have hqi := ((HI6.out.setO (c := w.heap.size + 1) (by omega) 0 (.int .i64 0)).set 0 (.bool false)).cells
          have hbx := (hb6.setCell (p := ⟨w.heap.size + 1, 0, none⟩) (by show w.heap.size ≤ w.heap.size + 1; omega) (.int .i64 0)).setCell (p := ⟨w.heap.size + 1 + 1, 0, none⟩) (by show w.heap.size ≤ w.heap.size + 1 + 1; omega) (.bool false)
          simp [Leaves, settle, results, Try.results44, go_sem, hqt, hqi, HS.out]
          exact hbx
        | a :: b :: p, HEV, HTR, HP, HST, HNO, hpl =>
          refine (wand_two _ b0 b0 a b p 3 ch n (HP.out.below HAL.out) (by simp at hpl; omega) (by simp; omega) (HTR.out a (by simp)) (HTR.out b (by simp))).mono ?_
          rintro e w6 ⟨rfl, hp6, hk6⟩
          have hb6 := hb.trans ((HALB.out.trans hk6).mono hwb0)
          have HT6 := Lib.hid (HT.out.keep (HALB.out.trans hk6) (by omega))
          have HI6 := Lib.hid (HI.out.keep (HALB.out.trans hk6) (by omega))
          have HW6 := Lib.hid (HW.out.below (HALB.out.trans hk6) (by omega) (by omega) (by omega) (by omega))
          have hz6 := Nat.le_trans hz (HALB.out.trans hk6).size
          have HP6 := Lib.hid hp6
          have HEV6 := Lib.hid (HST.out.trans rfl)
          have HTR6 := Lib.hid (show ∀ z ∈ and3 a b :: p, Tr z from fun z hz => by rcases List.mem_cons.1 hz with rfl | hz; exact and_tr _ _ (HTR.out a (by simp)) (HTR.out b (by simp)); exact HTR.out z (by simp [hz]))
          clear hp6 hk6 hlk hmapA e0 e1 e2 hb hall
          go_wp2
          go_roundw
          case rel => exact ⟨j + 1, _, by omega, by go_num, HEV6.out, HTR6.out, by simp at hpl ⊢; omega, hb6, HT6.out, HI6.out, HW6.out, HP6.out, hz6⟩
          case measure => simp [intOf]; omega
      · have hlk : ∀ o, (Instr.lookup 119 (.map (some mb)) (.int .i64 4) true).run Try.prog (wr.alloc o) = .ok (.tuple #[.func (.func 83) #[] #[], .bool true]) (wr.alloc o) := fun o => run_look _ _ _ _ _ _ _ _ _ 3 uM Try.underlying3 (hmapA o) rfl
        go_wp2_with fail
        match p, HEV, HTR, HP, HST, HNO, hpl with
        | [], HEV, HTR, HP, HST, HNO, hpl =>
          refine (wor_zero _ b0 b0 4 ch n (HP.out.below HAL.out) (by simp; omega)).mono ?_
          rintro e w6 ⟨rfl, hk6⟩
          have hb6 := hb.trans ((HALB.out.trans hk6).mono hwb0)
          have HT6 := Lib.hid (HT.out.keep (HALB.out.trans hk6) (by omega))
          have HI6 := Lib.hid (HI.out.keep (HALB.out.trans hk6) (by omega))
          have HS := Lib.hid (HNO.out rfl)
          clear hk6 hlk hmapA e0 e1 e2 hb hall
          go_wp2
          refine leaves_cons (f := 65) (args := #[.pointer (some ⟨w.heap.size + 1, 0, none⟩), .pointer (some ⟨w.heap.size + 1 + 1, 0, none⟩)]) (by simp) (by simp [go_sem]) ?_
          refine (catch_panicking ⟨w.heap.size + 1, 0, none⟩ ⟨w.heap.size + 1 + 1, 0, none⟩ 0 false _ _ [] w6 (by simp) (by rw [HT6.out.cells]; rfl) (HT6.out.froz 0) (by rw [HI6.out.cells]; rfl) (HI6.out.froz 0)).mono ?_
          rintro e u' w'' ⟨rfl, rfl, rfl⟩
          have hqt := ((HT6.out.set 0 (.int .i64 0)).setO (c := w.heap.size + 1 + 1) (by omega) 0 (.bool false)).cells
          have hqi := ((HI6.out.setO (c := w.heap.size + 1) (by omega) 0 (.int .i64 0)).set 0 (.bool false)).cells
          have hbx := (hb6.setCell (p := ⟨w.heap.size + 1, 0, none⟩) (by show w.heap.size ≤ w.heap.size + 1; omega) (.int .i64 0)).setCell (p := ⟨w.heap.size + 1 + 1, 0, none⟩) (by show w.heap.size ≤ w.heap.size + 1 + 1; omega) (.bool false)
          simp [Leaves, settle, results, Try.results44, go_sem, hqt, hqi, HS.out]
          exact hbx
        | [a], HEV, HTR, HP, HST, HNO, hpl =>
          refine (wor_one _ b0 b0 a 4 ch n (HP.out.below HAL.out) (by simp; omega)).mono ?_
          rintro e w6 ⟨rfl, hk6⟩
          have hb6 := hb.trans ((HALB.out.trans hk6).mono hwb0)
          have HT6 := Lib.hid (HT.out.keep (HALB.out.trans hk6) (by omega))
          have HI6 := Lib.hid (HI.out.keep (HALB.out.trans hk6) (by omega))
          have HS := Lib.hid (HNO.out rfl)
          clear hk6 hlk hmapA e0 e1 e2 hb hall
          go_wp2
          refine leaves_cons (f := 65) (args := #[.pointer (some ⟨w.heap.size + 1, 0, none⟩), .pointer (some ⟨w.heap.size + 1 + 1, 0, none⟩)]) (by simp) (by simp [go_sem]) ?_
          refine (catch_panicking ⟨w.heap.size + 1, 0, none⟩ ⟨w.heap.size + 1 + 1, 0, none⟩ 0 false _ _ [] w6 (by simp) (by rw [HT6.out.cells]; rfl) (HT6.out.froz 0) (by rw [HI6.out.cells]; rfl) (HI6.out.froz 0)).mono ?_
          rintro e u' w'' ⟨rfl, rfl, rfl⟩
          have hqt := ((HT6.out.set 0 (.int .i64 0)).setO (c := w.heap.size + 1 + 1) (by omega) 0 (.bool false)).cells
          have hqi := ((HI6.out.setO (c := w.heap.size + 1) (by omega) 0 (.int .i64 0)).set 0 (.bool false)).cells
          have hbx := (hb6.setCell (p := ⟨w.heap.size + 1, 0, none⟩) (by show w.heap.size ≤ w.heap.size + 1; omega) (.int .i64 0)).setCell (p := ⟨w.heap.size + 1 + 1, 0, none⟩) (by show w.heap.size ≤ w.heap.size + 1 + 1; omega) (.bool false)
          simp [Leaves, settle, results, Try.results44, go_sem, hqt, hqi, HS.out]
          exact hbx
        | a :: b :: p, HEV, HTR, HP, HST, HNO, hpl =>
          refine (wor_two _ b0 b0 a b p 4 ch n (HP.out.below HAL.out) (by simp at hpl; omega) (by simp; omega) (HTR.out a (by simp)) (HTR.out b (by simp))).mono ?_
          rintro e w6 ⟨rfl, hp6, hk6⟩
          have hb6 := hb.trans ((HALB.out.trans hk6).mono hwb0)
          have HT6 := Lib.hid (HT.out.keep (HALB.out.trans hk6) (by omega))
          have HI6 := Lib.hid (HI.out.keep (HALB.out.trans hk6) (by omega))
          have HW6 := Lib.hid (HW.out.below (HALB.out.trans hk6) (by omega) (by omega) (by omega) (by omega))
          have hz6 := Nat.le_trans hz (HALB.out.trans hk6).size
          have HP6 := Lib.hid hp6
          have HEV6 := Lib.hid (HST.out.trans rfl)
          have HTR6 := Lib.hid (show ∀ z ∈ or3 a b :: p, Tr z from fun z hz => by rcases List.mem_cons.1 hz with rfl | hz; exact or_tr _ _ (HTR.out a (by simp)) (HTR.out b (by simp)); exact HTR.out z (by simp [hz]))
          clear hp6 hk6 hlk hmapA e0 e1 e2 hb hall
          go_wp2
          go_roundw
          case rel => exact ⟨j + 1, _, by omega, by go_num, HEV6.out, HTR6.out, by simp at hpl ⊢; omega, hb6, HT6.out, HI6.out, HW6.out, HP6.out, hz6⟩
          case measure => simp [intOf]; omega
      · have hlk : ∀ o, (Instr.lookup 119 (.map (some mb)) (.int .i64 5) true).run Try.prog (wr.alloc o) = .ok (.tuple #[.func (.func 85) #[] #[], .bool true]) (wr.alloc o) := fun o => run_look _ _ _ _ _ _ _ _ _ 4 uM Try.underlying3 (hmapA o) rfl
        go_wp2_with fail
        match p, HEV, HTR, HP, HST, HNO, hpl with
        | [], HEV, HTR, HP, HST, HNO, hpl =>
          refine (wnot_zero _ b0 b0 5 ch n (HP.out.below HAL.out) (by simp; omega)).mono ?_
          rintro e w6 ⟨rfl, hk6⟩
          have hb6 := hb.trans ((HALB.out.trans hk6).mono hwb0)
          have HT6 := Lib.hid (HT.out.keep (HALB.out.trans hk6) (by omega))
          have HI6 := Lib.hid (HI.out.keep (HALB.out.trans hk6) (by omega))
          have HS := Lib.hid (HNO.out rfl)
          clear hk6 hlk hmapA e0 e1 e2 hb hall
          go_wp2
          refine leaves_cons (f := 65) (args := #[.pointer (some ⟨w.heap.size + 1, 0, none⟩), .pointer (some ⟨w.heap.size + 1 + 1, 0, none⟩)]) (by simp) (by simp [go_sem]) ?_
          refine (catch_panicking ⟨w.heap.size + 1, 0, none⟩ ⟨w.heap.size + 1 + 1, 0, none⟩ 0 false _ _ [] w6 (by simp) (by rw [HT6.out.cells]; rfl) (HT6.out.froz 0) (by rw [HI6.out.cells]; rfl) (HI6.out.froz 0)).mono ?_
          rintro e u' w'' ⟨rfl, rfl, rfl⟩
          have hqt := ((HT6.out.set 0 (.int .i64 0)).setO (c := w.heap.size + 1 + 1) (by omega) 0 (.bool false)).cells
          have hqi := ((HI6.out.setO (c := w.heap.size + 1) (by omega) 0 (.int .i64 0)).set 0 (.bool false)).cells
          have hbx := (hb6.setCell (p := ⟨w.heap.size + 1, 0, none⟩) (by show w.heap.size ≤ w.heap.size + 1; omega) (.int .i64 0)).setCell (p := ⟨w.heap.size + 1 + 1, 0, none⟩) (by show w.heap.size ≤ w.heap.size + 1 + 1; omega) (.bool false)
          simp [Leaves, settle, results, Try.results44, go_sem, hqt, hqi, HS.out]
          exact hbx
        | a :: p, HEV, HTR, HP, HST, HNO, hpl =>
          refine (wnot_one _ b0 b0 a p 5 ch n (HP.out.below HAL.out) (by simp at hpl; omega) (by simp; omega) (HTR.out a (by simp))).mono ?_
          rintro e w6 ⟨rfl, hp6, hk6⟩
          have hb6 := hb.trans ((HALB.out.trans hk6).mono hwb0)
          have HT6 := Lib.hid (HT.out.keep (HALB.out.trans hk6) (by omega))
          have HI6 := Lib.hid (HI.out.keep (HALB.out.trans hk6) (by omega))
          have HW6 := Lib.hid (HW.out.below (HALB.out.trans hk6) (by omega) (by omega) (by omega) (by omega))
          have hz6 := Nat.le_trans hz (HALB.out.trans hk6).size
          have HP6 := Lib.hid hp6
          have HEV6 := Lib.hid (HST.out.trans rfl)
          have HTR6 := Lib.hid (show ∀ z ∈ not3 a :: p, Tr z from fun z hz => by rcases List.mem_cons.1 hz with rfl | hz; exact tr_not3 _ (HTR.out a (by simp)); exact HTR.out z (by simp [hz]))
          clear hp6 hk6 hlk hmapA e0 e1 e2 hb hall
          go_wp2
          go_roundw
          case rel => exact ⟨j + 1, _, by omega, by go_num, HEV6.out, HTR6.out, by simp at hpl ⊢; omega, hb6, HT6.out, HI6.out, HW6.out, HP6.out, hz6⟩
          case measure => simp [intOf]; omega
    · have he : j = l.length := by omega
      subst he
      have hev := HEV.out
      rw [List.take_length] at hev
      have HE := Lib.hid hev
      clear hev
      match p, HP, HE with
      | [], HP, HE =>
        have HS := Lib.hid (show saidO (fun t => limO t (0, 0, 0)) l = (0, false) by unfold saidO; rw [HE.out])
        go_wp2_with fail
        refine (take_none _ b0 b0 HP.out).mono ?_
        rintro e w6 ⟨rfl, hk6⟩
        have hb6 := hb.trans (hk6.mono hwb0)
        have HT6 := Lib.hid (HT.out.keep hk6 (by omega))
        have HI6 := Lib.hid (HI.out.keep hk6 (by omega))
        clear hk6 hb
        go_wp2
        refine leaves_cons (f := 65) (args := #[.pointer (some ⟨w.heap.size + 1, 0, none⟩), .pointer (some ⟨w.heap.size + 1 + 1, 0, none⟩)]) (by simp) (by simp [go_sem]) ?_
        refine (catch_panicking ⟨w.heap.size + 1, 0, none⟩ ⟨w.heap.size + 1 + 1, 0, none⟩ 0 false _ _ [] w6 (by simp) (by rw [HT6.out.cells]; rfl) (HT6.out.froz 0) (by rw [HI6.out.cells]; rfl) (HI6.out.froz 0)).mono ?_
        rintro e u' w'' ⟨rfl, rfl, rfl⟩
        have hqt := ((HT6.out.set 0 (.int .i64 0)).setO (c := w.heap.size + 1 + 1) (by omega) 0 (.bool false)).cells
        have hqi := ((HI6.out.setO (c := w.heap.size + 1) (by omega) 0 (.int .i64 0)).set 0 (.bool false)).cells
        have hbx := (hb6.setCell (p := ⟨w.heap.size + 1, 0, none⟩) (by show w.heap.size ≤ w.heap.size + 1; omega) (.int .i64 0)).setCell (p := ⟨w.heap.size + 1 + 1, 0, none⟩) (by show w.heap.size ≤ w.heap.size + 1 + 1; omega) (.bool false)
        simp [Leaves, settle, results, Try.results44, go_sem, hqt, hqi, HS.out]
        exact hbx
      | x :: q, HP, HE =>
        go_wp2_with fail
        refine (take_some _ b0 b0 q x HP.out (by simp at hpl; omega)).mono ?_
        rintro e w6 ⟨rfl, hp6, hk6⟩
        have hb6 := hb.trans (hk6.mono hwb0)
        have HT6 := Lib.hid (HT.out.keep hk6 (by omega))
        have HI6 := Lib.hid (HI.out.keep hk6 (by omega))
        obtain ⟨PA, pc, hpb, _⟩ := hp6.ex
        have hxp := hpb.cells
        have hxt := HT6.out.cells
        have hft := HT6.out.froz
        have hxi := HI6.out.cells
        have hfi := HI6.out.froz
        have hpl6 := hpb.lt
        have hne1 : b0 ≠ w.heap.size + 1 := by omega
        clear hk6 hb hp6
        match q, HE with
        | [], HE =>
          have HS := Lib.hid (show saidO (fun t => limO t (0, 0, 0)) l = (x, true) by unfold saidO; rw [HE.out])
          go_wp2
          refine leaves_cons (f := 65) (args := #[.pointer (some ⟨w.heap.size + 1, 0, none⟩), .pointer (some ⟨w.heap.size + 1 + 1, 0, none⟩)]) (by simp) (by simp [go_sem]) ?_
          refine (catch_idle ⟨w.heap.size + 1, 0, none⟩ ⟨w.heap.size + 1 + 1, 0, none⟩ _).mono ?_
          rintro e u' w'' ⟨rfl, rfl, rfl⟩
          have hqt := (((HT6.out.set 0 (.int .i64 x)).set 0 (.int .i64 x)).setO (c := w.heap.size + 1 + 1) (by omega) 0 (.bool true)).cells
          have hqi := (((HI6.out.setO (c := w.heap.size + 1) (by omega) 0 (.int .i64 x)).setO (c := w.heap.size + 1) (by omega) 0 (.int .i64 x)).set 0 (.bool true)).cells
          have hbx := ((hb6.setCell (p := ⟨w.heap.size + 1, 0, none⟩) (by show w.heap.size ≤ w.heap.size + 1; omega) (.int .i64 x)).setCell (p := ⟨w.heap.size + 1, 0, none⟩) (by show w.heap.size ≤ w.heap.size + 1; omega) (.int .i64 x)).setCell (p := ⟨w.heap.size + 1 + 1, 0, none⟩) (by show w.heap.size ≤ w.heap.size + 1 + 1; omega) (.bool true)
          clear hxt hft hxi hfi
          simp [Leaves, settle, results, Try.results44, go_sem, hqt, hqi, HS.out]
          exact hbx
        | y :: q, HE =>
          have HS := Lib.hid (show saidO (fun t => limO t (0, 0, 0)) l = (0, false) by unfold saidO; rw [HE.out])
          have hgt : decide ((((y :: q).length : Nat) : Int) > 0) = true := decide_eq_true (by rw [List.length_cons]; omega)
          go_wp2
          refine leaves_cons (f := 65) (args := #[.pointer (some ⟨w.heap.size + 1, 0, none⟩), .pointer (some ⟨w.heap.size + 1 + 1, 0, none⟩)]) (by simp) (by simp [go_sem]) ?_
          have HT7 := HT6.out.set 0 (.int .i64 x)
          have HI7 := HI6.out.setO (c := w.heap.size + 1) (by omega) 0 (.int .i64 x)
          refine (catch_panicking ⟨w.heap.size + 1, 0, none⟩ ⟨w.heap.size + 1 + 1, 0, none⟩ x false _ _ [] _ (by simp) (by rw [HT7.cells]; rfl) (HT7.froz 0) (by rw [HI7.cells]; rfl) (HI7.froz 0)).mono ?_
          rintro e u' w'' ⟨rfl, rfl, rfl⟩
          have hqt := ((HT7.set 0 (.int .i64 0)).setO (c := w.heap.size + 1 + 1) (by omega) 0 (.bool false)).cells
          have hqi := ((HI7.setO (c := w.heap.size + 1) (by omega) 0 (.int .i64 0)).set 0 (.bool false)).cells
          have hbx := ((hb6.setCell (p := ⟨w.heap.size + 1, 0, none⟩) (by show w.heap.size ≤ w.heap.size + 1; omega) (.int .i64 x)).setCell (p := ⟨w.heap.size + 1, 0, none⟩) (by show w.heap.size ≤ w.heap.size + 1; omega) (.int .i64 0)).setCell (p := ⟨w.heap.size + 1 + 1, 0, none⟩) (by show w.heap.size ≤ w.heap.size + 1 + 1; omega) (.bool false)
          clear hxt hft hxi hfi
          simp [Leaves, settle, results, Try.results44, go_sem, hqt, hqi, HS.out]
          exact hbx

set_option maxRecDepth 100000 in
set_option maxHeartbeats 16000000 in
theorem saidS_any (w : World) (A : Option Addr) (rc : Nat) (hold : Int) (latch : Bool) (l : List T) (hrow : RowN 3 w (.slice A l.length rc) l.length (c3c l)) (hl : l.length ≤ 100) (hop : ∀ t ∈ l, 1 ≤ t.1 ∧ t.1 ≤ 5) (ub uc : Nat) (UA : Option Addr) (cs : List Cl) (hu : w.cell? ⟨ub, 0, none⟩ = some (.slice UA cs.length uc)) (hul : ub < w.heap.size) (hurow : RowN 3 w (.slice UA cs.length uc) cs.length (c3c cs)) (hin : ∀ t ∈ l, isLim t = true → 0 ≤ t.2.1 ∧ t.2.1 < (cs.length : Int)) :
    Calls Try.prog 44 #[.agg #[.slice A l.length rc, .int .i64 hold, .bool latch], (.func (.func 45) #[] #[.pointer (some ⟨ub, 0, none⟩)])] w fun e w' => e = .returned (.tuple #[.int .i64 (saidO (gOf cs) l).1, .bool (saidO (gOf cs) l).2]) ∧ Below w.heap.size w w' := by
  have hmf : ∀ (fn : Fn) (first cap : Array Value) (w : World), (Instr.makeFunc fn first cap).run Try.prog w = .ok (.func fn first cap) w := fun _ _ _ _ => rfl
  have HROW := Lib.hid hrow
  have HOP := Lib.hid hop
  have HU := Lib.hid hu
  have HUR := Lib.hid hurow
  have HIN := Lib.hid hin
  clear hu hurow hin
  clear hrow hop
  go_enter_defers Try.func44, Try.ntmps44
  go_wp2_with fail
  refine calls_world (fun W => Below w.heap.size w W ∧ Blk W (w.heap.size + 1) 3 #[.int .i64 0] ∧ Blk W (w.heap.size + 1 + 1) 4 #[.bool false] ∧ Blk W w.heap.size 50 #[.slice A l.length rc, .int .i64 hold, .bool latch]) ⟨by go_grown, ((Blk.new _ _ _ _ (by simp)).al _), Blk.new _ _ _ _ (by simp), ((Blk.new _ _ _ _ rfl).al _).al _⟩ fun W1 ⟨hb1, ht1, hi1, hr1⟩ => ?_
  have HT1 := Lib.hid ht1
  have HI1 := Lib.hid hi1
  have HR1 := Lib.hid hr1
  clear ht1 hi1 hr1
  refine (works_any 45 #[.pointer (some ⟨ub, 0, none⟩)] W1).mono ?_
  rintro e W2 ⟨mb, cb, wa, wb, rfl, hws, hk⟩
  have hb2 := Btrans hb1 hk
  have HT2 := Lib.hid (HT1.out.below hk)
  have HI2 := Lib.hid (HI1.out.below hk)
  have hr2 := HR1.out.below hk
  have HWS2 := Lib.hid hws
  have hx2 := hr2.cells
  have lx2 := hr2.lt
  have lt2 := HT2.out.lt
  have li2 := HI2.out.lt
  have lw2 := hws.lt
  clear hk hws hb1 HT1 HI1 HR1
  go_wp2_with fail
  clear hx2
  obtain ⟨b0, hb0⟩ : ∃ b, b = W2.heap.size := ⟨_, rfl⟩
  rw [← hb0] at lx2 lt2 li2 lw2 ⊢
  have hbz := hb2.size
  have hwb0 : w.heap.size ≤ b0 := by omega
  have hal := (Below.refl b0 W2).alloc (by omega) (.cells #[.slice none 0 0] 122)
  have hp0 : Pile (W2.alloc (.cells #[.slice none 0 0] 122)) b0 b0 [] := ⟨⟨none, 0, Blk.new _ _ _ _ hb0, own_nil _ _⟩, Nat.le_refl _⟩
  have hz0 : b0 ≤ (W2.alloc (.cells #[.slice none 0 0] 122)).heap.size := by simp; omega
  have HP0 := Lib.hid hp0
  have HT3 := Lib.hid (HT2.out.keep hal (by omega))
  have HI3 := Lib.hid (HI2.out.keep hal (by omega))
  have HW3 := Lib.hid (HWS2.out.below hal (by omega) (by omega) (by omega) (by omega))
  have hb3 := hb2.trans (hal.mono hwb0)
  clear hp0 hal HT2 HI2 HWS2 hb2 hbz hb0
  go_loopw [18] (fun i wr => ∃ (j : Nat) (p : List Int), j ≤ l.length ∧ i = .int .i64 j ∧ evalP (gOf cs) (l.take j) [] = some p ∧ (∀ a ∈ p, Tr a) ∧ p.length ≤ j ∧ Below w.heap.size w wr ∧ Blk wr (w.heap.size + 1) 3 #[.int .i64 0] ∧ Blk wr (w.heap.size + 1 + 1) 4 #[.bool false] ∧ Works wr (.func (.func 45) #[] #[.pointer (some ⟨ub, 0, none⟩)]) mb cb wa wb ∧ Pile wr b0 b0 p ∧ b0 ≤ wr.heap.size) (fun i _ => l.length - (intOf i).toNat)
  case atStart => exact ⟨0, [], by omega, rfl, rfl, by simp, by simp, hb3, HT3.out, HI3.out, HW3.out, HP0.out, hz0⟩
  case round =>
    clear hb3 HT3 HI3 HW3 HP0 hz0
    obtain ⟨j, p, hj, rfl, hev, htr, hpl, hb, hT, hI, hW, hP, hz⟩ := hrel
    have HEV := Lib.hid hev
    have HTR := Lib.hid htr
    have HT := Lib.hid hT
    have HI := Lib.hid hI
    have HW := Lib.hid hW
    have HP := Lib.hid hP
    clear hev htr hT hI hW hP
    by_cases hlt : j < l.length
    · obtain ⟨t, ht⟩ : ∃ t, l[j]? = some t := ⟨_, List.getElem?_eq_getElem hlt⟩
      obtain ⟨ad, rfl, had, c0, c1, c2⟩ := row3_at HROW.out ht
      have e0 : wr.cell? (ad.add (j * 3)) = some (.int .i64 t.1) := by rw [hb.cell (by rw [block_add]; exact had)]; exact c0
      have e1 : wr.cell? ⟨(ad.add (j * 3)).block, (ad.add (j * 3)).off + 1, none⟩ = some (.int .i64 t.2.1) := by rw [hb.cell (by show (ad.add (j * 3)).block < _; rw [block_add]; exact had)]; exact c1
      have e2 : wr.cell? ⟨(ad.add (j * 3)).block, (ad.add (j * 3)).off + 2, none⟩ = some (.int .i64 t.2.2) := by rw [hb.cell (by show (ad.add (j * 3)).block < _; rw [block_add]; exact had)]; exact c2
      have hjl : (j : Int) < (l.length : Int) := by omega
      have htk : l.take (j + 1) = l.take j ++ [t] := by rw [List.take_add_one, ht]; rfl
      have hst : evalP (gOf cs) (l.take (j + 1)) [] = (stepP (gOf cs) t p) := by
        rw [htk, evalP_app, HEV.out]
        show (stepP (gOf cs) t p).bind (evalP (gOf cs) []) = _
        cases stepP (gOf cs) t p <;> rfl
      have hno : stepP (gOf cs) t p = none → saidO (gOf cs) l = (0, false) := by
        intro hn
        have e : evalP (gOf cs) l [] = none := by
          rw [← List.take_append_drop (j + 1) l, evalP_app, hst, hn]
          rfl
        unfold saidO
        rw [e]
      have HST := Lib.hid hst
      have HNO := Lib.hid hno
      have hm := HOP.out t (List.mem_of_getElem? ht)
      have HTI := Lib.hid (HIN.out t (List.mem_of_getElem? ht))
      obtain ⟨op, ch, n⟩ := t
      dsimp only at e0 e1 e2 hm
      have hall := HW.out
      have hmapA : ∀ o, (wr.alloc o).heap[mb]? = _ := fun o => ((Below.refl _ _).alloc (Nat.le_refl _) o).block mb hall.lt.2.2.2 |>.trans hall.map
      have HAL := Lib.hid ((Below.refl wr.heap.size wr).alloc (Nat.le_refl _) (.cells #[.int .i64 op, .int .i64 ch, .int .i64 n] 103))
      have HALB := Lib.hid ((Below.refl b0 wr).alloc hz (.cells #[.int .i64 op, .int .i64 ch, .int .i64 n] 103))
      clear c0 c1 c2 ht htk hst hno
      have hop5 : op = 1 ∨ op = 2 ∨ op = 3 ∨ op = 4 ∨ op = 5 := by omega
      clear hm
      rcases hop5 with rfl | rfl | rfl | rfl | rfl
      · have hlc : isLim (1, ch, n) = true := rfl
        have hlk : ∀ o, (Instr.lookup 119 (.map (some mb)) (.int .i64 1) true).run Try.prog (wr.alloc o) = .ok (.tuple #[.func (.func 76) #[] #[.pointer (some ⟨cb, 0, none⟩), .pointer (some ⟨wa, 0, none⟩)], .bool true]) (wr.alloc o) := fun o => run_look _ _ _ _ _ _ _ _ _ 0 uM Try.underlying3 (hmapA o) rfl
        go_wp2_with fail
        obtain ⟨cn, rfl⟩ : ∃ cn : Nat, ch = (cn : Int) := ⟨ch.toNat, by have := (HTI.out hlc).1; omega⟩
        have hcl := (HTI.out hlc).2
        have HCA := Lib.hid (show cs[cn]? = some (cs.getD cn (0, 0, 0)) by rw [List.getD_eq_getElem?_getD, List.getElem?_eq_getElem (by omega)]; rfl)
        clear hcl
        refine (wlimS1 _ b0 b0 p cn n cb wa (HP.out.below HAL.out) (by omega) (by simp; omega) ub uc UA cs (cs.getD cn (0, 0, 0)) (by rw [(hb.trans (HAL.out.mono hb.size)).cell (p := ⟨ub, 0, none⟩) hul]; exact HU.out) (by have := hb.size; simp; omega) (HUR.out.below (hb.trans (HAL.out.mono hb.size))) HCA.out (by rw [HAL.out.cell (p := ⟨cb, 0, none⟩) hall.lt.1]; exact hall.cell) (by rw [HAL.out.cell (p := ⟨wa, 0, none⟩) hall.lt.2.1]; exact hall.above) (by have := hall.lt; simp; omega) (by have := hall.lt; simp; omega)).mono ?_
        rintro e w6 ⟨rfl, hp6, hk6⟩
        have hb6 := hb.trans ((HALB.out.trans hk6).mono hwb0)
        have HT6 := Lib.hid (HT.out.keep (HALB.out.trans hk6) (by omega))
        have HI6 := Lib.hid (HI.out.keep (HALB.out.trans hk6) (by omega))
        have HW6 := Lib.hid (HW.out.below (HALB.out.trans hk6) (by omega) (by omega) (by omega) (by omega))
        have hz6 := Nat.le_trans hz (HALB.out.trans hk6).size
        have HP6 := Lib.hid hp6
        have HEV6 := Lib.hid (HST.out.trans rfl)
        have HTR6 := Lib.hid (show ∀ a ∈ limO (1, (cn : Int), n) (cs.getD cn (0, 0, 0)) :: p, Tr a from fun a ha => by rcases List.mem_cons.1 ha with rfl | ha; exact lim_tr _ _; exact HTR.out a ha)
        clear hp6 hk6 hlk hmapA e0 e1 e2 hb hall
        go_wp2
        go_roundw
        case rel => exact ⟨j + 1, _, by omega, by go_num, HEV6.out, HTR6.out, by simp at hpl ⊢; omega, hb6, HT6.out, HI6.out, HW6.out, HP6.out, hz6⟩
        case measure => simp [intOf]; omega
      · have hlc : isLim (2, ch, n) = true := rfl
        have hlk : ∀ o, (Instr.lookup 119 (.map (some mb)) (.int .i64 2) true).run Try.prog (wr.alloc o) = .ok (.tuple #[.func (.func 76) #[] #[.pointer (some ⟨cb, 0, none⟩), .pointer (some ⟨wb, 0, none⟩)], .bool true]) (wr.alloc o) := fun o => run_look _ _ _ _ _ _ _ _ _ 1 uM Try.underlying3 (hmapA o) rfl
        go_wp2_with fail
        obtain ⟨cn, rfl⟩ : ∃ cn : Nat, ch = (cn : Int) := ⟨ch.toNat, by have := (HTI.out hlc).1; omega⟩
        have hcl := (HTI.out hlc).2
        have HCA := Lib.hid (show cs[cn]? = some (cs.getD cn (0, 0, 0)) by rw [List.getD_eq_getElem?_getD, List.getElem?_eq_getElem (by omega)]; rfl)
        clear hcl
        refine (wlimS2 _ b0 b0 p cn n cb wb (HP.out.below HAL.out) (by omega) (by simp; omega) ub uc UA cs (cs.getD cn (0, 0, 0)) (by rw [(hb.trans (HAL.out.mono hb.size)).cell (p := ⟨ub, 0, none⟩) hul]; exact HU.out) (by have := hb.size; simp; omega) (HUR.out.below (hb.trans (HAL.out.mono hb.size))) HCA.out (by rw [HAL.out.cell (p := ⟨cb, 0, none⟩) hall.lt.1]; exact hall.cell) (by rw [HAL.out.cell (p := ⟨wb, 0, none⟩) hall.lt.2.2.1]; exact hall.under) (by have := hall.lt; simp; omega) (by have := hall.lt; simp; omega)).mono ?_
        rintro e w6 ⟨rfl, hp6, hk6⟩
        have hb6 := hb.trans ((HALB.out.trans hk6).mono hwb0)
        have HT6 := Lib.hid (HT.out.keep (HALB.out.trans hk6) (by omega))
        have HI6 := Lib.hid (HI.out.keep (HALB.out.trans hk6) (by omega))
        have HW6 := Lib.hid (HW.out.below (HALB.out.trans hk6) (by omega) (by omega) (by omega) (by omega))
        have hz6 := Nat.le_trans hz (HALB.out.trans hk6).size
        have HP6 := Lib.hid hp6
        have HEV6 := Lib.hid (HST.out.trans rfl)
        have HTR6 := Lib.hid (show ∀ a ∈ limO (2, (cn : Int), n) (cs.getD cn (0, 0, 0)) :: p, Tr a from fun a ha => by rcases List.mem_cons.1 ha with rfl | ha; exact lim_tr _ _; exact HTR.out a ha)
        clear hp6 hk6 hlk hmapA e0 e1 e2 hb hall
        go_wp2
        go_roundw
        case rel => exact ⟨j + 1, _, by omega, by go_num, HEV6.out, HTR6.out, by simp at hpl ⊢; omega, hb6, HT6.out, HI6.out, HW6.out, HP6.out, hz6⟩
        case measure => simp [intOf]; omega
      · have hlk : ∀ o, (Instr.lookup 119 (.map (some mb)) (.int .i64 3) true).run Try.prog (wr.alloc o) = .ok (.tuple #[.func (.func 81) #[] #[], .bool true]) (wr.alloc o) := fun o => run_look _ _ _ _ _ _ _ _ _ 2 uM Try.underlying3 (hmapA o) rfl
        go_wp2_with fail
        match p, HEV, HTR, HP, HST, HNO, hpl with
        | [], HEV, HTR, HP, HST, HNO, hpl =>
          refine (wand_zero _ b0 b0 3 ch n (HP.out.below HAL.out) (by simp; omega)).mono ?_
          rintro e w6 ⟨rfl, hk6⟩
          have hb6 := hb.trans ((HALB.out.trans hk6).mono hwb0)
          have HT6 := Lib.hid (HT.out.keep (HALB.out.trans hk6) (by omega))
          have HI6 := Lib.hid (HI.out.keep (HALB.out.trans hk6) (by omega))
          have HS := Lib.hid (HNO.out rfl)
          clear hk6 hlk hmapA e0 e1 e2 hb hall
          go_wp2
          refine leaves_cons (f := 65) (args := #[.pointer (some ⟨w.heap.size + 1, 0, none⟩), .pointer (some ⟨w.heap.size + 1 + 1, 0, none⟩)]) (by simp) (by simp [go_sem]) ?_
          refine (catch_panicking ⟨w.heap.size + 1, 0, none⟩ ⟨w.heap.size + 1 + 1, 0, none⟩ 0 false _ _ [] w6 (by simp) (by rw [HT6.out.cells]; rfl) (HT6.out.froz 0) (by rw [HI6.out.cells]; rfl) (HI6.out.froz 0)).mono ?_
          rintro e u' w'' ⟨rfl, rfl, rfl⟩
          have hqt := ((HT6.out.set 0 (.int .i64 0)).setO (c := w.heap.size + 1 + 1) (by omega) 0 (.bool false)).cells
          have hqi := ((HI6.out.setO (c := w.heap.size + 1) (by omega) 0 (.int .i64 0)).set 0 (.bool false)).cells
          have hbx := (hb6.setCell (p := ⟨w.heap.size + 1, 0, none⟩) (by show w.heap.size ≤ w.heap.size + 1; omega) (.int .i64 0)).setCell (p := ⟨w.heap.size + 1 + 1, 0, none⟩) (by show w.heap.size ≤ w.heap.size + 1 + 1; omega) (.bool false)
          simp [Leaves, settle, results, Try.results44, go_sem, hqt, hqi, HS.out]
          exact hbx
        | [a], HEV, HTR, HP, HST, HNO, hpl =>
          refine (wand_one _ b0 b0 a 3 ch n (HP.out.below HAL.out) (by simp; omega)).mono ?_
          rintro e w6 ⟨rfl, hk6⟩
          have hb6 := hb.trans ((HALB.out.trans hk6).mono hwb0)
          have HT6 := Lib.hid (HT.out.keep (HALB.out.trans hk6) (by omega))
          have HI6 := Lib.hid (HI.out.keep (HALB.out.trans hk6) (by omega))
          have HS := Lib.hid (HNO.out rfl)
          clear hk6 hlk hmapA e0 e1 e2 hb hall
          go_wp2
          refine leaves_cons (f := 65) (args := #[.pointer (some ⟨w.heap.size + 1, 0, none⟩), .pointer (some ⟨w.heap.size + 1 + 1, 0, none⟩)]) (by simp) (by simp [go_sem]) ?_
          refine (catch_panicking ⟨w.heap.size + 1, 0, none⟩ ⟨w.heap.size + 1 + 1, 0, none⟩ 0 false _ _ [] w6 (by simp) (by rw [HT6.out.cells]; rfl) (HT6.out.froz 0) (by rw [HI6.out.cells]; rfl) (HI6.out.froz 0)).mono ?_
          rintro e u' w'' ⟨rfl, rfl, rfl⟩
          have hqt := ((HT6.out.set 0 (.int .i64 0)).setO (c := w.heap.size + 1 + 1) (by omega) 0 (.bool false)).cells
          have hqi := ((HI6.out.setO (c := w.heap.size + 1) (by omega) 0 (.int .i64 0)).set 0 (.bool false)).cells
          have hbx := (hb6.setCell (p := ⟨w.heap.size + 1, 0, none⟩) (by show w.heap.size ≤ w.heap.size + 1; omega) (.int .i64 0)).setCell (p := ⟨w.heap.size + 1 + 1, 0, none⟩) (by show w.heap.size ≤ w.heap.size + 1 + 1; omega) (.bool false)
          simp [Leaves, settle, results, Try.results44, go_sem, hqt, hqi, HS.out]
          exact hbx
        | a :: b :: p, HEV, HTR, HP, HST, HNO, hpl =>
          refine (wand_two _ b0 b0 a b p 3 ch n (HP.out.below HAL.out) (by simp at hpl; omega) (by simp; omega) (HTR.out a (by simp)) (HTR.out b (by simp))).mono ?_
          rintro e w6 ⟨rfl, hp6, hk6⟩
          have hb6 := hb.trans ((HALB.out.trans hk6).mono hwb0)
          have HT6 := Lib.hid (HT.out.keep (HALB.out.trans hk6) (by omega))
          have HI6 := Lib.hid (HI.out.keep (HALB.out.trans hk6) (by omega))
          have HW6 := Lib.hid (HW.out.below (HALB.out.trans hk6) (by omega) (by omega) (by omega) (by omega))
          have hz6 := Nat.le_trans hz (HALB.out.trans hk6).size
          have HP6 := Lib.hid hp6
          have HEV6 := Lib.hid (HST.out.trans rfl)
          have HTR6 := Lib.hid (show ∀ z ∈ and3 a b :: p, Tr z from fun z hz => by rcases List.mem_cons.1 hz with rfl | hz; exact and_tr _ _ (HTR.out a (by simp)) (HTR.out b (by simp)); exact HTR.out z (by simp [hz]))
          clear hp6 hk6 hlk hmapA e0 e1 e2 hb hall
          go_wp2
          go_roundw
          case rel => exact ⟨j + 1, _, by omega, by go_num, HEV6.out, HTR6.out, by simp at hpl ⊢; omega, hb6, HT6.out, HI6.out, HW6.out, HP6.out, hz6⟩
          case measure => simp [intOf]; omega
      · have hlk : ∀ o, (Instr.lookup 119 (.map (some mb)) (.int .i64 4) true).run Try.prog (wr.alloc o) = .ok (.tuple #[.func (.func 83) #[] #[], .bool true]) (wr.alloc o) := fun o => run_look _ _ _ _ _ _ _ _ _ 3 uM Try.underlying3 (hmapA o) rfl
        go_wp2_with fail
        match p, HEV, HTR, HP, HST, HNO, hpl with
        | [], HEV, HTR, HP, HST, HNO, hpl =>
          refine (wor_zero _ b0 b0 4 ch n (HP.out.below HAL.out) (by simp; omega)).mono ?_
          rintro e w6 ⟨rfl, hk6⟩
          have hb6 := hb.trans ((HALB.out.trans hk6).mono hwb0)
          have HT6 := Lib.hid (HT.out.keep (HALB.out.trans hk6) (by omega))
          have HI6 := Lib.hid (HI.out.keep (HALB.out.trans hk6) (by omega))
          have HS := Lib.hid (HNO.out rfl)
          clear hk6 hlk hmapA e0 e1 e2 hb hall
          go_wp2
          refine leaves_cons (f := 65) (args := #[.pointer (some ⟨w.heap.size + 1, 0, none⟩), .pointer (some ⟨w.heap.size + 1 + 1, 0, none⟩)]) (by simp) (by simp [go_sem]) ?_
          refine (catch_panicking ⟨w.heap.size + 1, 0, none⟩ ⟨w.heap.size + 1 + 1, 0, none⟩ 0 false _ _ [] w6 (by simp) (by rw [HT6.out.cells]; rfl) (HT6.out.froz 0) (by rw [HI6.out.cells]; rfl) (HI6.out.froz 0)).mono ?_
          rintro e u' w'' ⟨rfl, rfl, rfl⟩
          have hqt := ((HT6.out.set 0 (.int .i64 0)).setO (c := w.heap.size + 1 + 1) (by omega) 0 (.bool false)).cells
          have hqi := ((HI6.out.setO (c := w.heap.size + 1) (by omega) 0 (.int .i64 0)).set 0 (.bool false)).cells
          have hbx := (hb6.setCell (p := ⟨w.heap.size + 1, 0, none⟩) (by show w.heap.size ≤ w.heap.size + 1; omega) (.int .i64 0)).setCell (p := ⟨w.heap.size + 1 + 1, 0, none⟩) (by show w.heap.size ≤ w.heap.size + 1 + 1; omega) (.bool false)
          simp [Leaves, settle, results, Try.results44, go_sem, hqt, hqi, HS.out]
          exact hbx
        | [a], HEV, HTR, HP, HST, HNO, hpl =>
          refine (wor_one _ b0 b0 a 4 ch n (HP.out.below HAL.out) (by simp; omega)).mono ?_
          rintro e w6 ⟨rfl, hk6⟩
          have hb6 := hb.trans ((HALB.out.trans hk6).mono hwb0)
          have HT6 := Lib.hid (HT.out.keep (HALB.out.trans hk6) (by omega))
          have HI6 := Lib.hid (HI.out.keep (HALB.out.trans hk6) (by omega))
          have HS := Lib.hid (HNO.out rfl)
          clear hk6 hlk hmapA e0 e1 e2 hb hall
          go_wp2
          refine leaves_cons (f := 65) (args := #[.pointer (some ⟨w.heap.size + 1, 0, none⟩), .pointer (some ⟨w.heap.size + 1 + 1, 0, none⟩)]) (by simp) (by simp [go_sem]) ?_
          refine (catch_panicking ⟨w.heap.size + 1, 0, none⟩ ⟨w.heap.size + 1 + 1, 0, none⟩ 0 false _ _ [] w6 (by simp) (by rw [HT6.out.cells]; rfl) (HT6.out.froz 0) (by rw [HI6.out.cells]; rfl) (HI6.out.froz 0)).mono ?_
          rintro e u' w'' ⟨rfl, rfl, rfl⟩
          have hqt := ((HT6.out.set 0 (.int .i64 0)).setO (c := w.heap.size + 1 + 1) (by omega) 0 (.bool false)).cells
          have hqi := ((HI6.out.setO (c := w.heap.size + 1) (by omega) 0 (.int .i64 0)).set 0 (.bool false)).cells
          have hbx := (hb6.setCell (p := ⟨w.heap.size + 1, 0, none⟩) (by show w.heap.size ≤ w.heap.size + 1; omega) (.int .i64 0)).setCell (p := ⟨w.heap.size + 1 + 1, 0, none⟩) (by show w.heap.size ≤ w.heap.size + 1 + 1; omega) (.bool false)
          simp [Leaves, settle, results, Try.results44, go_sem, hqt, hqi, HS.out]
          exact hbx
        | a :: b :: p, HEV, HTR, HP, HST, HNO, hpl =>
          refine (wor_two _ b0 b0 a b p 4 ch n (HP.out.below HAL.out) (by simp at hpl; omega) (by simp; omega) (HTR.out a (by simp)) (HTR.out b (by simp))).mono ?_
          rintro e w6 ⟨rfl, hp6, hk6⟩
          have hb6 := hb.trans ((HALB.out.trans hk6).mono hwb0)
          have HT6 := Lib.hid (HT.out.keep (HALB.out.trans hk6) (by omega))
          have HI6 := Lib.hid (HI.out.keep (HALB.out.trans hk6) (by omega))
          have HW6 := Lib.hid (HW.out.below (HALB.out.trans hk6) (by omega) (by omega) (by omega) (by omega))
          have hz6 := Nat.le_trans hz (HALB.out.trans hk6).size
          have HP6 := Lib.hid hp6
          have HEV6 := Lib.hid (HST.out.trans rfl)
          have HTR6 := Lib.hid (show ∀ z ∈ or3 a b :: p, Tr z from fun z hz => by rcases List.mem_cons.1 hz with rfl | hz; exact or_tr _ _ (HTR.out a (by simp)) (HTR.out b (by simp)); exact HTR.out z (by simp [hz]))
          clear hp6 hk6 hlk hmapA e0 e1 e2 hb hall
          go_wp2
          go_roundw
          case rel => exact ⟨j + 1, _, by omega, by go_num, HEV6.out, HTR6.out, by simp at hpl ⊢; omega, hb6, HT6.out, HI6.out, HW6.out, HP6.out, hz6⟩
          case measure => simp [intOf]; omega
      · have hlk : ∀ o, (Instr.lookup 119 (.map (some mb)) (.int .i64 5) true).run Try.prog (wr.alloc o) = .ok (.tuple #[.func (.func 85) #[] #[], .bool true]) (wr.alloc o) := fun o => run_look _ _ _ _ _ _ _ _ _ 4 uM Try.underlying3 (hmapA o) rfl
        go_wp2_with fail
        match p, HEV, HTR, HP, HST, HNO, hpl with
        | [], HEV, HTR, HP, HST, HNO, hpl =>
          refine (wnot_zero _ b0 b0 5 ch n (HP.out.below HAL.out) (by simp; omega)).mono ?_
          rintro e w6 ⟨rfl, hk6⟩
          have hb6 := hb.trans ((HALB.out.trans hk6).mono hwb0)
          have HT6 := Lib.hid (HT.out.keep (HALB.out.trans hk6) (by omega))
          have HI6 := Lib.hid (HI.out.keep (HALB.out.trans hk6) (by omega))
          have HS := Lib.hid (HNO.out rfl)
          clear hk6 hlk hmapA e0 e1 e2 hb hall
          go_wp2
          refine leaves_cons (f := 65) (args := #[.pointer (some ⟨w.heap.size + 1, 0, none⟩), .pointer (some ⟨w.heap.size + 1 + 1, 0, none⟩)]) (by simp) (by simp [go_sem]) ?_
          refine (catch_panicking ⟨w.heap.size + 1, 0, none⟩ ⟨w.heap.size + 1 + 1, 0, none⟩ 0 false _ _ [] w6 (by simp) (by rw [HT6.out.cells]; rfl) (HT6.out.froz 0) (by rw [HI6.out.cells]; rfl) (HI6.out.froz 0)).mono ?_
          rintro e u' w'' ⟨rfl, rfl, rfl⟩
          have hqt := ((HT6.out.set 0 (.int .i64 0)).setO (c := w.heap.size + 1 + 1) (by omega) 0 (.bool false)).cells
          have hqi := ((HI6.out.setO (c := w.heap.size + 1) (by omega) 0 (.int .i64 0)).set 0 (.bool false)).cells
          have hbx := (hb6.setCell (p := ⟨w.heap.size + 1, 0, none⟩) (by show w.heap.size ≤ w.heap.size + 1; omega) (.int .i64 0)).setCell (p := ⟨w.heap.size + 1 + 1, 0, none⟩) (by show w.heap.size ≤ w.heap.size + 1 + 1; omega) (.bool false)
          simp [Leaves, settle, results, Try.results44, go_sem, hqt, hqi, HS.out]
          exact hbx
        | a :: p, HEV, HTR, HP, HST, HNO, hpl =>
          refine (wnot_one _ b0 b0 a p 5 ch n (HP.out.below HAL.out) (by simp at hpl; omega) (by simp; omega) (HTR.out a (by simp))).mono ?_
          rintro e w6 ⟨rfl, hp6, hk6⟩
          have hb6 := hb.trans ((HALB.out.trans hk6).mono hwb0)
          have HT6 := Lib.hid (HT.out.keep (HALB.out.trans hk6) (by omega))
          have HI6 := Lib.hid (HI.out.keep (HALB.out.trans hk6) (by omega))
          have HW6 := Lib.hid (HW.out.below (HALB.out.trans hk6) (by omega) (by omega) (by omega) (by omega))
          have hz6 := Nat.le_trans hz (HALB.out.trans hk6).size
          have HP6 := Lib.hid hp6
          have HEV6 := Lib.hid (HST.out.trans rfl)
          have HTR6 := Lib.hid (show ∀ z ∈ not3 a :: p, Tr z from fun z hz => by rcases List.mem_cons.1 hz with rfl | hz; exact tr_not3 _ (HTR.out a (by simp)); exact HTR.out z (by simp [hz]))
          clear hp6 hk6 hlk hmapA e0 e1 e2 hb hall
          go_wp2
          go_roundw
          case rel => exact ⟨j + 1, _, by omega, by go_num, HEV6.out, HTR6.out, by simp at hpl ⊢; omega, hb6, HT6.out, HI6.out, HW6.out, HP6.out, hz6⟩
          case measure => simp [intOf]; omega
    · have he : j = l.length := by omega
      subst he
      have hev := HEV.out
      rw [List.take_length] at hev
      have HE := Lib.hid hev
      clear hev
      match p, HP, HE with
      | [], HP, HE =>
        have HS := Lib.hid (show saidO (gOf cs) l = (0, false) by unfold saidO; rw [HE.out])
        go_wp2_with fail
        refine (take_none _ b0 b0 HP.out).mono ?_
        rintro e w6 ⟨rfl, hk6⟩
        have hb6 := hb.trans (hk6.mono hwb0)
        have HT6 := Lib.hid (HT.out.keep hk6 (by omega))
        have HI6 := Lib.hid (HI.out.keep hk6 (by omega))
        clear hk6 hb
        go_wp2
        refine leaves_cons (f := 65) (args := #[.pointer (some ⟨w.heap.size + 1, 0, none⟩), .pointer (some ⟨w.heap.size + 1 + 1, 0, none⟩)]) (by simp) (by simp [go_sem]) ?_
        refine (catch_panicking ⟨w.heap.size + 1, 0, none⟩ ⟨w.heap.size + 1 + 1, 0, none⟩ 0 false _ _ [] w6 (by simp) (by rw [HT6.out.cells]; rfl) (HT6.out.froz 0) (by rw [HI6.out.cells]; rfl) (HI6.out.froz 0)).mono ?_
        rintro e u' w'' ⟨rfl, rfl, rfl⟩
        have hqt := ((HT6.out.set 0 (.int .i64 0)).setO (c := w.heap.size + 1 + 1) (by omega) 0 (.bool false)).cells
        have hqi := ((HI6.out.setO (c := w.heap.size + 1) (by omega) 0 (.int .i64 0)).set 0 (.bool false)).cells
        have hbx := (hb6.setCell (p := ⟨w.heap.size + 1, 0, none⟩) (by show w.heap.size ≤ w.heap.size + 1; omega) (.int .i64 0)).setCell (p := ⟨w.heap.size + 1 + 1, 0, none⟩) (by show w.heap.size ≤ w.heap.size + 1 + 1; omega) (.bool false)
        simp [Leaves, settle, results, Try.results44, go_sem, hqt, hqi, HS.out]
        exact hbx
      | x :: q, HP, HE =>
        go_wp2_with fail
        refine (take_some _ b0 b0 q x HP.out (by simp at hpl; omega)).mono ?_
        rintro e w6 ⟨rfl, hp6, hk6⟩
        have hb6 := hb.trans (hk6.mono hwb0)
        have HT6 := Lib.hid (HT.out.keep hk6 (by omega))
        have HI6 := Lib.hid (HI.out.keep hk6 (by omega))
        obtain ⟨PA, pc, hpb, _⟩ := hp6.ex
        have hxp := hpb.cells
        have hxt := HT6.out.cells
        have hft := HT6.out.froz
        have hxi := HI6.out.cells
        have hfi := HI6.out.froz
        have hpl6 := hpb.lt
        have hne1 : b0 ≠ w.heap.size + 1 := by omega
        clear hk6 hb hp6
        match q, HE with
        | [], HE =>
          have HS := Lib.hid (show saidO (gOf cs) l = (x, true) by unfold saidO; rw [HE.out])
          go_wp2
          refine leaves_cons (f := 65) (args := #[.pointer (some ⟨w.heap.size + 1, 0, none⟩), .pointer (some ⟨w.heap.size + 1 + 1, 0, none⟩)]) (by simp) (by simp [go_sem]) ?_
          refine (catch_idle ⟨w.heap.size + 1, 0, none⟩ ⟨w.heap.size + 1 + 1, 0, none⟩ _).mono ?_
          rintro e u' w'' ⟨rfl, rfl, rfl⟩
          have hqt := (((HT6.out.set 0 (.int .i64 x)).set 0 (.int .i64 x)).setO (c := w.heap.size + 1 + 1) (by omega) 0 (.bool true)).cells
          have hqi := (((HI6.out.setO (c := w.heap.size + 1) (by omega) 0 (.int .i64 x)).setO (c := w.heap.size + 1) (by omega) 0 (.int .i64 x)).set 0 (.bool true)).cells
          have hbx := ((hb6.setCell (p := ⟨w.heap.size + 1, 0, none⟩) (by show w.heap.size ≤ w.heap.size + 1; omega) (.int .i64 x)).setCell (p := ⟨w.heap.size + 1, 0, none⟩) (by show w.heap.size ≤ w.heap.size + 1; omega) (.int .i64 x)).setCell (p := ⟨w.heap.size + 1 + 1, 0, none⟩) (by show w.heap.size ≤ w.heap.size + 1 + 1; omega) (.bool true)
          clear hxt hft hxi hfi
          simp [Leaves, settle, results, Try.results44, go_sem, hqt, hqi, HS.out]
          exact hbx
        | y :: q, HE =>
          have HS := Lib.hid (show saidO (gOf cs) l = (0, false) by unfold saidO; rw [HE.out])
          have hgt : decide ((((y :: q).length : Nat) : Int) > 0) = true := decide_eq_true (by rw [List.length_cons]; omega)
          go_wp2
          refine leaves_cons (f := 65) (args := #[.pointer (some ⟨w.heap.size + 1, 0, none⟩), .pointer (some ⟨w.heap.size + 1 + 1, 0, none⟩)]) (by simp) (by simp [go_sem]) ?_
          have HT7 := HT6.out.set 0 (.int .i64 x)
          have HI7 := HI6.out.setO (c := w.heap.size + 1) (by omega) 0 (.int .i64 x)
          refine (catch_panicking ⟨w.heap.size + 1, 0, none⟩ ⟨w.heap.size + 1 + 1, 0, none⟩ x false _ _ [] _ (by simp) (by rw [HT7.cells]; rfl) (HT7.froz 0) (by rw [HI7.cells]; rfl) (HI7.froz 0)).mono ?_
          rintro e u' w'' ⟨rfl, rfl, rfl⟩
          have hqt := ((HT7.set 0 (.int .i64 0)).setO (c := w.heap.size + 1 + 1) (by omega) 0 (.bool false)).cells
          have hqi := ((HI7.setO (c := w.heap.size + 1) (by omega) 0 (.int .i64 0)).set 0 (.bool false)).cells
          have hbx := ((hb6.setCell (p := ⟨w.heap.size + 1, 0, none⟩) (by show w.heap.size ≤ w.heap.size + 1; omega) (.int .i64 x)).setCell (p := ⟨w.heap.size + 1, 0, none⟩) (by show w.heap.size ≤ w.heap.size + 1; omega) (.int .i64 0)).setCell (p := ⟨w.heap.size + 1 + 1, 0, none⟩) (by show w.heap.size ≤ w.heap.size + 1 + 1; omega) (.bool false)
          clear hxt hft hxi hfi
          simp [Leaves, settle, results, Try.results44, go_sem, hqt, hqi, HS.out]
          exact hbx
end Go.Proofs.Ytcdmojimdiiepaa
