/- Layer 14: the packets of a tick, in order: walked. -/
import Derived.Test.YtgklbmhihfmagaaBatchG
import Derived.Handy
import Derived.Laws.EntriesVeiled
namespace Go.Proofs.Ytgklbmhihfmagaa
open Go.Sort Go.Lib Go.ChangeShapes Go.WideShapes Go.ChangeAt Go.RowKit Go.Deep
set_option linter.unusedVariables false
set_option linter.unusedSimpArgs false

theorem ERow_atw {w : World} {E : List En} {A : Option Addr} {n c : Nat} (h : RowN 9 w (.slice A n c) n (tk f9 E)) {i : Nat} {e : En} (hi : E[i]? = some e) :
    ∃ ad, A = some ad ∧ (ad.add (i * 9)).block < w.heap.size ∧ w.cell? (ad.add (i * 9)) = some (.int .i64 e.x.p.dev) ∧ ∀ j u, 0 < j → (f9 e)[j]? = some u → w.cell? ⟨(ad.add (i * 9)).block, (ad.add (i * 9)).off + j, none⟩ = some u := by
  obtain ⟨ad, c', e', hb, h0, hc⟩ := RowN.atw f9_len (by decide) h hi
  injection e' with e4 e5 e6
  exact ⟨ad, e4, hb, h0 _ rfl, hc⟩
theorem mkP (n : Nat) (hn : n ≤ 1000) (w : World) : (Instr.makeSlice 23 (.int .i64 (n : Int)) (.int .i64 (n : Int))).run Try.prog w = .ok (.slice (some ⟨w.heap.size, 0, none⟩) n n) (w.alloc (.cells (tk f6 (List.replicate n (default : PV))).toArray 31)) := by
  have h := run_make_rowN (k := 6) 23 31 (.agg #[.int .i64 0, .int .i64 0, .int .i64 0, .int .i64 0, .int .i64 0, .slice none 0 0]) 64 Try.underlying23 (by kernel_rfl) .i64 .i64 n (by omega) (by omega) w
  have hm := made_tk f6_len (by decide) #[.int .i64 0, .int .i64 0, .int .i64 0, .int .i64 0, .int .i64 0, .slice none 0 0] (default : PV) rfl n
  rw [h, ← hm]
  rfl
theorem Blk.some_ {w : World} {g j : Nat} {t : TypeId} {c : Array Value} (h : Blk w g t c) (hj : j < c.size) : ∃ u, w.cell? ⟨g, j, none⟩ = some u := ⟨c[j], by rw [h.cells, Array.getElem?_eq_getElem hj]⟩
theorem info6 : (Try.prog.info? 31).map (·.size) = some 6 := by kernel_rfl
theorem Blk.there {w : World} {b o n : Nat} {t : TypeId} {cs : Array Value} (h : Blk w b t cs) (hn : o + n ≤ cs.size) : w.there b o n := fun j hj => ⟨by rw [h.cells, Array.getElem?_eq_getElem (by omega)]; rfl, h.froz _⟩
theorem set_next {E : List En} {k n : Nat} {e : En} (hE : E.length = n) (he : E[k]? = some e) : ((E.take k).map En.x ++ List.replicate (n - k) (default : PV)).set k e.x = (E.take (k + 1)).map En.x ++ List.replicate (n - (k + 1)) default := by
  have hk : k < n := by rw [← hE]; exact (List.getElem?_eq_some_iff.1 he).1
  have hlen : ((E.take k).map En.x).length = k := by simp; omega
  rw [List.set_append_right _ _ (by omega), hlen, Nat.sub_self, List.take_add_one, he, List.map_append, show n - k = (n - (k + 1)) + 1 by omega, List.replicate_succ, List.set_cons_zero]
  simp
set_option maxRecDepth 100000 in
set_option maxHeartbeats 8000000 in
theorem order_any (vt vl : Value) (ts : List TV) (l : List PV) (w : World) (h0 : TRow w vt ts) (h1 : PRow w vl l) (hr : ∀ x ∈ l, x.p.right) (hT : ∀ t ∈ ts, TkOk t.t) (hl : l.length ≤ 1000) :
    Calls Try.prog 12 #[vt, vl] w fun e w' => ∃ v L, e = .returned v ∧ PRow w' v L ∧ (L.map PV.p = ordR (ts.map TV.t) (l.map PV.p) ∧ ∀ x ∈ L, x ∈ l) ∧ Below w.heap.size w w' := by
  have HP := Lib.hid h1
  have HRi := Lib.hid hr
  have H0 := Lib.hid h0
  have HTk := Lib.hid hT
  have hol := onceL_len l
  have hmk := mkP (onceL l).length (by omega)
  clear h0 h1 hr hT
  go_enter Try.func12, Try.ntmps12
  go_wp2_with fail
  refine (once_any vt vl ts l w H0.out HP.out HRi.out HTk.out hl).mono ?_
  rintro e W1 ⟨v, rfl, hO, hb1⟩
  obtain ⟨EA, ec, rfl⟩ := own_shape hO
  have HO := Lib.hid hO
  have HB1 := Lib.hid hb1
  have hs1 := hb1.size
  clear hO hb1
  go_wp2_with fail
  refine calls_world (fun W => Below W1.heap.size W1 W ∧ Blk W W1.heap.size 53 #[.func (.func 22) #[] #[]]) ⟨by go_grown, Blk.new _ _ _ _ rfl⟩ fun W2 ⟨hb2, hq2⟩ => ?_
  have hs2 := hb2.size
  refine (sort_any (ts := ts.map TV.t) HRi.out hl EA ec W1.heap.size (w.heap.size + 1) W2 (own_below HO.out hb2) (hq2.cells 0) hq2.lt (fun g hg e => by have := own_lt HO.out hg; omega) (by have := hq2.lt; omega)).mono ?_
  rintro e W3 ⟨rfl, E, hb3, hE, hm⟩
  have HE := Lib.hid hE
  have HM := Lib.hid hm
  have HB3 := Lib.hid (((HB1.out.trans (hb2.mono hs1)).trans (hb3.mono (by omega))))
  have hel : E.length = (onceL l).length := hm.2.2
  have HEL := Lib.hid hel
  clear hb2 hq2 hb3 hE hm HO HB1 hel
  go_wp2_with fail
  obtain ⟨P, hP⟩ : ∃ P, P = W3.heap.size := ⟨_, rfl⟩
  refine wp_world (fun W => Below W3.heap.size W3 W ∧ Blk W W3.heap.size 31 (tk f6 ((E.take 0).map En.x ++ List.replicate ((onceL l).length - 0) default)).toArray) ⟨by go_grown, Blk.new _ _ _ _ rfl⟩ fun W4 ⟨hb4, hq4⟩ => ?_
  rw [← hP] at hq4 ⊢
  have HB4 := Lib.hid (Btrans HB3.out hb4)
  have HE4 := Lib.hid (HE.out.below hb4)
  have hE3 := Lib.hid (show ∀ i e, E[i]? = some e → ∃ ad, EA = some ad ∧ (ad.add (i * 9)).block < P ∧ W4.cell? (ad.add (i * 9)) = some (.int .i64 e.x.p.dev) ∧ ∀ j u, 0 < j → (f9 e)[j]? = some u → W4.cell? ⟨(ad.add (i * 9)).block, (ad.add (i * 9)).off + j, none⟩ = some u from fun i e he => by
    obtain ⟨ad, e1, e2, e3, e4⟩ := ERow_atw HE.out he
    refine ⟨ad, e1, by rw [hP]; exact e2, (hb4.cell e2).trans e3, fun j u hj hu => (hb4.cell (p := ⟨(ad.add (i * 9)).block, (ad.add (i * 9)).off + j, none⟩) e2).trans (e4 j u hj hu)⟩)
  have HQ4 := Lib.hid hq4
  have hPl : P < W4.heap.size := hq4.lt
  have hPw : w.heap.size ≤ P := by rw [hP]; exact HB3.out.size
  have HPP := Lib.hid hP
  clear hb4 hq4 HE HB3 hP hmk
  go_loopw [21] (fun i wr => ∃ k : Nat, k ≤ (onceL l).length ∧ i = .int .i64 k ∧ Only [P] W4 wr ∧ Blk wr P 31 (tk f6 ((E.take k).map En.x ++ List.replicate ((onceL l).length - k) default)).toArray) (fun i _ => (onceL l).length - (intOf i).toNat)
  case atStart => exact ⟨0, by omega, rfl, Only.refl _ _, HQ4.out⟩
  case round =>
    obtain ⟨k, hk, rfl, hon, hq⟩ := hrel
    have HN := Lib.hid hon
    have HQ := Lib.hid hq
    have hPr := hq.lt
    clear hon hq
    by_cases hlt : k < (onceL l).length
    · obtain ⟨e, he⟩ : ∃ e, E[k]? = some e := ⟨_, List.getElem?_eq_getElem (by rw [HEL.out]; exact hlt)⟩
      obtain ⟨ad, rfl, hab, c0, cj⟩ := hE3.out k e he
      have hin : ∀ o, (⟨(ad.add (k * 9)).block, o, none⟩ : Addr).block < W4.heap.size := fun o => Nat.lt_trans hab hPl
      have hnP : (ad.add (k * 9)).block ∉ [P] := by simp; omega
      have k0 := (HN.out.cell (Nat.lt_trans hab hPl) hnP).trans c0
      have k1 := (HN.out.cell (hin ((ad.add (k * 9)).off + 1)) hnP).trans (cj 1 _ (by decide) rfl)
      have k2 := (HN.out.cell (hin ((ad.add (k * 9)).off + 2)) hnP).trans (cj 2 _ (by decide) rfl)
      have k3 := (HN.out.cell (hin ((ad.add (k * 9)).off + 3)) hnP).trans (cj 3 _ (by decide) rfl)
      have k4 := (HN.out.cell (hin ((ad.add (k * 9)).off + 4)) hnP).trans (cj 4 _ (by decide) rfl)
      have k5 := (HN.out.cell (hin ((ad.add (k * 9)).off + 5)) hnP).trans (cj 5 _ (by decide) rfl)
      have k6 := (HN.out.cell (hin ((ad.add (k * 9)).off + 6)) hnP).trans (cj 6 _ (by decide) rfl)
      have k7 := (HN.out.cell (hin ((ad.add (k * 9)).off + 7)) hnP).trans (cj 7 _ (by decide) rfl)
      have k8 := (HN.out.cell (hin ((ad.add (k * 9)).off + 8)) hnP).trans (cj 8 _ (by decide) rfl)
      unfold PV.vs at k5
      have hjl : (k : Int) < ((onceL l).length : Int) := by omega
      have HSN := Lib.hid (set_next (k := k) (n := (onceL l).length) HEL.out he)
      have HLN := Lib.hid (show ((E.take k).map En.x ++ List.replicate ((onceL l).length - k) default).length = (onceL l).length by simp [HEL.out]; omega)
      clear c0 cj hin hnP he hab
      have hi6 := info6
      have hsz : k * 6 + 6 ≤ (tk f6 ((E.take k).map En.x ++ List.replicate ((onceL l).length - k) default)).toArray.size := by rw [List.size_toArray, tk_len f6_len, HLN.out]; omega
      obtain ⟨u0, z0⟩ := HQ.out.some_ (j := k * 6) (by omega)
      obtain ⟨u1, z1⟩ := HQ.out.some_ (j := k * 6 + 1) (by omega)
      obtain ⟨u2, z2⟩ := HQ.out.some_ (j := k * 6 + 2) (by omega)
      obtain ⟨u3, z3⟩ := HQ.out.some_ (j := k * 6 + 3) (by omega)
      obtain ⟨u4, z4⟩ := HQ.out.some_ (j := k * 6 + 4) (by omega)
      obtain ⟨u5, z5⟩ := HQ.out.some_ (j := k * 6 + 5) (by omega)
      have fz := HQ.out.froz
      clear hsz hi6
      go_wp2
      go_roundw
      case rel => exact ⟨k + 1, by omega, by go_num, by first | exact ((((((HN.out.setCell (p := ⟨P, k * 6, none⟩) (by simp) _).setCell (p := ⟨P, k * 6 + 1, none⟩) (by simp) _).setCell (p := ⟨P, k * 6 + 2, none⟩) (by simp) _).setCell (p := ⟨P, k * 6 + 3, none⟩) (by simp) _).setCell (p := ⟨P, k * 6 + 4, none⟩) (by simp) _).setCell (p := ⟨P, k * 6 + 5, none⟩) (by simp) _).trans (Only.of_below _ (by go_grown)) | exact (((((((HN.out.trans (Only.of_below _ (by go_grown))).setCell (p := ⟨P, k * 6, none⟩) (by simp) _).setCell (p := ⟨P, k * 6 + 1, none⟩) (by simp) _).setCell (p := ⟨P, k * 6 + 2, none⟩) (by simp) _).setCell (p := ⟨P, k * 6 + 3, none⟩) (by simp) _).setCell (p := ⟨P, k * 6 + 4, none⟩) (by simp) _).setCell (p := ⟨P, k * 6 + 5, none⟩) (by simp) _), by rw [← HSN.out, ← setMany_tk f6_len _ k e.x (by rw [HLN.out]; exact hlt)]; first | exact ((((((HQ.out.set (k * 6) _).set (k * 6 + 1) _).set (k * 6 + 2) _).set (k * 6 + 3) _).set (k * 6 + 4) _).set (k * 6 + 5) _).al _ | exact (((((((HQ.out.al _).set (k * 6) _).set (k * 6 + 1) _).set (k * 6 + 2) _).set (k * 6 + 3) _).set (k * 6 + 4) _).set (k * 6 + 5) _)⟩
      case measure => simp [intOf]; omega
    · obtain rfl : k = (onceL l).length := by omega
      have hL : ((E.take (onceL l).length).map En.x ++ List.replicate ((onceL l).length - (onceL l).length) default) = E.map En.x := by rw [Nat.sub_self, List.take_of_length_le (by rw [HEL.out]; exact Nat.le_refl _)]; simp
      have hQ := HQ.out
      rw [hL] at hQ
      have hLl : (E.map En.x).length = (onceL l).length := by rw [List.length_map, HEL.out]
      have hBw : Below w.heap.size w wr := Only.below HB4.out (by omega) HN.out (by intro x hx; simp at hx; omega)
      have HQ5 := Lib.hid hQ
      have HL5 := Lib.hid hLl
      have HB5 := Lib.hid hBw
      clear hL hQ hLl hBw HQ HN
      go_wp2
      go_ret
      refine ⟨.slice (some ⟨P, 0, none⟩) (onceL l).length (onceL l).length, E.map En.x, by simp, ⟨⟨_, _, by rw [HL5.out]⟩, by rw [HL5.out]; exact RowN.of_blk HQ5.out (List.take_of_length_le (by simp only [List.toList_toArray]; rw [tk_len f6_len, HL5.out]; exact Nat.le_refl _)) (by rw [tk_len f6_len, HL5.out]) (Nat.le_refl _) (by unfold maxLen; omega), fun x hx => ?_⟩, ⟨?_, fun x hx => ?_⟩, HB5.out⟩
      · obtain ⟨e, he, rfl⟩ := List.mem_map.1 hx
        exact (HP.out.2.2 _ (HM.out.2.1 e he)).below HB5.out
      · rw [List.map_map]
        exact HM.out.1
      · obtain ⟨e, he, rfl⟩ := List.mem_map.1 hx
        exact HM.out.2.1 e he
end Go.Proofs.Ytgklbmhihfmagaa
