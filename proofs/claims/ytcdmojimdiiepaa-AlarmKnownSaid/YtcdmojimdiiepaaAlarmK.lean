/- Layer 21: what is known stays known. -/
import Derived.Test.YtcdmojimdiiepaaAlarmL
import Derived.Test.YtcdmojimdiiepaaAlarmZ
import Derived.Test.YtcdmojimdiiepaaAlm
import Derived.StillTailTactics
import Derived.Handy
namespace Go.Proofs.Ytcdmojimdiiepaa
open Go.ChangeShapes Go.WideShapes Go.ChangeAt Go.RowKit
set_option linter.unusedVariables false
set_option linter.unusedSimpArgs false

def fillV (v : Int) (a : Cl) : Cl := if a.1 = 1 then a else (1, v, 0)
theorem fillV_at (cs : List Cl) (v : Int) (i : Nat) (h : i < cs.length) : (cs.map (fillV v)).getD i (0, 0, 0) = fillV v (cs.getD i (0, 0, 0)) := by
  rw [List.getD_eq_getElem?_getD, List.getD_eq_getElem?_getD, List.getElem?_map, List.getElem?_eq_getElem h]
  rfl
theorem known_saysV {l : List T} {cs : List Cl} (v : Int) (htr : ∀ t ∈ l, tRight t (cs.length : Int) = true) (hev : evalN l 0 = some 1) :
    saysR l cs = 3 ∨ saysR l cs = saysR l (cs.map (fillV v)) := by
  obtain ⟨x, hx, hx2⟩ := said_some (g := gOf cs) hev
  obtain ⟨y, hy, hy2⟩ := said_some (g := gOf (cs.map (fillV v))) hev
  have hle : ∀ t ∈ l, isLim t = true → le3 (gOf cs t) (gOf (cs.map (fillV v)) t) := by
    intro t ht hl
    obtain ⟨h1, h2⟩ := tright_ch (htr t ht) hl
    unfold gOf
    rw [fillV_at _ _ _ (by omega)]
    by_cases hk : (cs.getD t.2.1.toNat (0, 0, 0)).1 = 1
    · right
      unfold fillV
      rw [if_pos hk]
    · left
      exact lim_unknown _ _ hk
  obtain ⟨q, hq, hq2⟩ := eval_mono _ _ l hle [] [] trivial [x] hx
  rw [hy] at hq
  injection hq with hq
  subst hq
  unfold saysR
  rw [hx2, hy2]
  exact hq2.1
def Wt.src : Wt → Option (List T)
  | .rule _ _ _ _ l _ _ => some l
  | .chan .. => none
theorem src_next (cs : List Cl) (x : Wt) : (x.next cs).src = x.src := by cases x <;> rfl
theorem next_same {x : Wt} {l : List T} {cs ds : List Cl} (h : x.src = some l) (hs : saysR l cs = saysR l ds) : x.next cs = x.next ds := by
  cases x with
  | rule A rc hd la m s a =>
    injection h with h
    subst h
    show Wt.rule A rc hd la m (pstep hd la s (saysR m cs) a) false = Wt.rule A rc hd la m (pstep hd la s (saysR m ds) a) false
    rw [hs]
  | chan => cases h
/-- each alarm is of its own rule -/
def Src (rs : List Rl) (L : List Wt) : Prop := L.map Wt.src = rs.map fun r => some r.l
theorem Src.next {rs : List Rl} {L : List Wt} (cs : List Cl) (h : Src rs L) : Src rs (L.map (Wt.next cs)) := by
  unfold Src
  rw [List.map_map, ← h]
  exact List.map_congr_left fun x _ => src_next cs x
theorem Src.new (rs : List Rl) : Src rs (newL rs) := by unfold Src newL; rw [List.map_map]; rfl
theorem Src.at_ {rs : List Rl} {L : List Wt} {k : Nat} {r : Rl} (h : Src rs L) (hr : rs[k]? = some r) : ∃ x, L[k]? = some x ∧ x.src = some r.l := by
  have h2 : (L.map Wt.src)[k]? = some (some r.l) := by rw [h, List.getElem?_map, hr]; rfl
  rw [List.getElem?_map] at h2
  exact Option.map_eq_some_iff.1 h2
theorem next_all {rs : List Rl} {L : List Wt} {cs ds : List Cl} (h : Src rs L) (hs : ∀ r ∈ rs, saysR r.l cs = saysR r.l ds) : L.map (Wt.next cs) = L.map (Wt.next ds) := by
  apply List.ext_getElem?
  intro i
  rw [List.getElem?_map, List.getElem?_map]
  cases hx : L[i]? with
  | none => rfl
  | some x =>
    have hl : i < rs.length := by
      have h3 := congrArg List.length h
      rw [List.length_map, List.length_map] at h3
      have := (List.getElem?_eq_some_iff.1 hx).1
      omega
    obtain ⟨x', hx', hs'⟩ := h.at_ (List.getElem?_eq_getElem hl)
    rw [hx] at hx'
    injection hx' with hx'
    subst hx'
    exact congrArg some (next_same hs' (hs _ (List.getElem_mem hl)))
theorem SS.tickN {W0 w : World} {lo hi pb : Nat} {L M : List Wt} (CA : Option Addr) (cc : Nat) (cs : List Cl) (n : Nat) (hnn : cs.length = n) (h : SS W0 w lo hi pb L M) (hL : ∀ x ∈ L, x.ok n) (hM : ∀ x ∈ M, x.ok n)
    (hc : RowN 3 w (.slice CA n cc) n (c3c cs)) (hCA : FrC lo hi CA) (hn : M.length = n) (h0 : Below W0.heap.size W0 w) (hl1 : L.length ≤ 100000) (hl2 : M.length ≤ 100000) :
    Calls Try.prog 20 #[.pointer (some ⟨pb, 0, none⟩), .slice CA n cc] w fun e w' => ∃ va vb, e = .returned (.tuple #[va, vb]) ∧ RowF w.heap.size 2 w' va L.length (al2 (L.map fun x => (x.next cs).al)) ∧
      RowF w.heap.size 2 w' vb M.length (al2 (M.map fun x => (x.next cs).al)) ∧ SS W0 w' lo hi pb (L.map (Wt.next cs)) (M.map (Wt.next cs)) ∧ Fr lo hi w w' := by
  subst hnn
  exact SS.tick CA cc cs h hL hM hc hCA hn.symm h0 hl1 hl2
theorem elC : Elem Try.prog 35 55 3 24 := Elem.mk' (z := .agg #[.int .i64 0, .int .i64 0, .int .i64 0]) (by kernel_rfl) (by kernel_rfl) rfl (by decide)
set_option maxRecDepth 100000 in
set_option maxHeartbeats 4000000 in
theorem walkH_AlarmKnown (hd : Hd) (vc : Value) (z : Cf × List Rl) (vl : Value) (l : List Ol) (v : Int) (w : World) (h0 : ConfV w vc z) (h1 : OpsV w vl l) (w2 : (Lit.int .i64 v).wf = true) :
    Calls Try.prog 7 #[vc, vl, .int .i64 v] w fun e w' => e = .returned (.bool true) ∧ Below w.heap.size w w' := by
  obtain ⟨c, rs⟩ := z
  have hc0 : ConfR w vc c rs := h0
  obtain ⟨sA, sn, scap, RA, rc, rfl, hrc, hrr0, htt0⟩ := hc0.shape
  have HC := Lib.hid hc0
  clear h0 hc0
  have HRR := Lib.hid hrr0
  have HTT := Lib.hid htt0
  clear hrr0 htt0
  have OXV := Lib.hid h1
  obtain ⟨OXA, OXc, rfl, hOXr, hOXt⟩ := h1
  have OXR := Lib.hid hOXr
  have OXT := Lib.hid hOXt
  have hOXcap := hOXr.caps.1
  clear hOXr hOXt
  clear w2
  go_enter Try.func7, Try.ntmps7
  go_wp2_with fail
  refine calls_world (fun W => Below w.heap.size w W ∧ Blk W w.heap.size 25 #[.int .i64 c.P, .int .i64 c.H, .int .i64 c.C, .int .i64 c.Mn, .int .i64 c.Mx, .int .i64 c.Rho, .int .i64 c.Bd, .int .i64 c.Win, .int .i64 c.St, .slice sA sn scap, .slice RA rs.length rc]) ⟨by go_grown, Blk.new _ _ _ _ rfl⟩ fun W1 ⟨hb1, hq1⟩ => ?_
  have HB1 := Lib.hid hb1
  have HQ1 := Lib.hid hq1
  clear hb1 hq1
  refine (hd W1).mono ?_
  rintro e W2 ⟨rfl, hk⟩
  (try clear cQ); (try clear lQ)
  have HB2 := Lib.hid (Btrans HB1.out hk)
  have HQ2 := Lib.hid (HQ1.out.below hk)
  clear hk HB1 HQ1
  have cQ := HQ2.out.cells
  have lQ := HQ2.out.lt
  go_wp2_with fail
  refine (great21_any _ c rs _ (HC.out.below HB2.out)).mono ?_
  rintro e W3 ⟨rfl, hk⟩
  obtain ⟨ga, hga⟩ : ∃ b, b = greatA c rs := ⟨_, rfl⟩
  rw [← hga]
  (try clear cQ); (try clear lQ)
  have HB3 := Lib.hid (Btrans HB2.out hk)
  have HQ3 := Lib.hid (HQ2.out.below hk)
  clear hk HB2 HQ2
  have HGA := Lib.hid hga
  clear hga
  have cQ := HQ3.out.cells
  have lQ := HQ3.out.lt
  cases ga with
  | true =>
    go_wp2
    go_ret
    exact ⟨by first | rfl | simp, HB3.out⟩
  | false =>
  go_wp2_with fail
  refine (greatO_any _ l _ (OXV.out.below HB3.out)).mono ?_
  rintro e W4 ⟨rfl, hk⟩
  obtain ⟨go0, hgo0⟩ : ∃ b, b = greatO l := ⟨_, rfl⟩
  rw [← hgo0]
  (try clear cQ); (try clear lQ)
  have HB4 := Lib.hid (Btrans HB3.out hk)
  have HQ4 := Lib.hid (HQ3.out.below hk)
  clear hk HB3 HQ3
  have HGO0 := Lib.hid hgo0
  clear hgo0
  have cQ := HQ4.out.cells
  have lQ := HQ4.out.lt
  cases go0 with
  | true =>
    go_wp2
    go_ret
    exact ⟨by first | rfl | simp, HB4.out⟩
  | false =>
  go_wp2_with fail
  have HN25 := Lib.hid (great_n HGA.out.symm)
  refine (rright21_any _ c rs _ (HC.out.below HB4.out) (Nat.le_trans HN25.out (by decide))).mono ?_
  rintro e W5 ⟨rfl, hk⟩
  obtain ⟨ri, hri⟩ : ∃ b, b = rightA c rs := ⟨_, rfl⟩
  rw [← hri]
  (try clear cQ); (try clear lQ)
  have HB5 := Lib.hid (Btrans HB4.out hk)
  have HQ5 := Lib.hid (HQ4.out.below hk)
  clear hk HB4 HQ4
  have HRI := Lib.hid hri
  clear hri
  have cQ := HQ5.out.cells
  have lQ := HQ5.out.lt
  cases ri with
  | false =>
    go_wp2
    go_ret
    exact ⟨by first | rfl | simp, HB5.out⟩
  | true =>
  have HRN := Lib.hid (right_n HRI.out.symm)
  have HOL := Lib.hid (newL_ok HRI.out.symm)
  have HOM := Lib.hid (newM_ok HRI.out.symm)
  have hr8 : rs.length ≤ 8 := HRN.out.1
  have hn25 : (chansOf c.rows).length ≤ 2500 := HN25.out
  have hn0 : 0 < (chansOf c.rows).length := HRN.out.2.2.2.1
  have hst : 1 ≤ c.St ∧ c.St ≤ 1000 := ⟨HRN.out.2.1, HRN.out.2.2.1⟩
  obtain ⟨N, HNE⟩ : ∃ N, RowKit.Hid (N = (chansOf c.rows).length) := ⟨_, Lib.hid rfl⟩
  have HOL2 := Lib.hid (show ∀ x ∈ newL rs, x.ok N by rw [HNE.out]; exact HOL.out)
  have HOM2 := Lib.hid (show ∀ x ∈ newM c, x.ok N by rw [HNE.out]; exact HOM.out)
  have HML := Lib.hid (show (newM c).length = N by rw [newM_len, HNE.out])
  have hN25 : N ≤ 2500 := by rw [HNE.out]; exact hn25
  have hN0 : 0 < N := by rw [HNE.out]; exact hn0
  clear HOL HOM hn25 hn0
  go_wp2_with fail
  refine (rmany_any _ c _ (HC.out.conf.below HB5.out) (Nat.le_trans HN25.out (by decide))).mono ?_
  rintro e W6 ⟨rfl, hk⟩
  (try clear cQ); (try clear lQ)
  have HB6 := Lib.hid (Btrans HB5.out hk)
  have HQ6 := Lib.hid (HQ5.out.below hk)
  clear hk HB5 HQ5
  have cQ := HQ6.out.cells
  have lQ := HQ6.out.lt
  rw [← HNE.out]
  go_wp2_with fail
  refine (SS.new w _ _ c rs HC.out HB6.out (Nat.le_trans HN25.out (by decide)) (by omega)).mono ?_
  rintro e W7 ⟨pb, rfl, hS, hk⟩
  (try clear cQ); (try clear lQ)
  obtain ⟨lo, hi, hlo, hS, hlh, hle⟩ : ∃ lo hi, w.heap.size < lo ∧ SS w W7 lo hi pb (newL rs) (newM c) ∧ W6.heap.size = lo ∧ W7.heap.size = hi := ⟨_, _, HQ6.out.lt, hS, rfl, rfl⟩
  have HB7 := Lib.hid (Btrans HB6.out hk)
  have HQ7 := Lib.hid (HQ6.out.below hk)
  have HS7 := Lib.hid hS
  clear hS hk HB6 HQ6
  have cQ := HQ7.out.cells
  have lQ := HQ7.out.lt
  go_wp2_with fail
  refine (SS.new w _ _ c rs HC.out HB7.out (Nat.le_trans HN25.out (by decide)) (by omega)).mono ?_
  rintro e W8 ⟨pb2, rfl, hS, hk⟩
  (try clear cQ); (try clear lQ)
  obtain ⟨lo2, hi2, hlo2, hS2, hlh2, hle2⟩ : ∃ lo hi, w.heap.size < lo ∧ SS w W8 lo hi pb2 (newL rs) (newM c) ∧ W7.heap.size = lo ∧ W8.heap.size = hi := ⟨_, _, HQ7.out.lt, hS, rfl, rfl⟩
  have HB8 := Lib.hid (Btrans HB7.out hk)
  have HQ8 := Lib.hid (HQ7.out.below hk)
  have HS8 := Lib.hid (HS7.out.below hk)
  have HS28 := Lib.hid hS2
  clear hS hS2 hk HB7 HQ7 HS7
  have cQ := HQ8.out.cells
  have lQ := HQ8.out.lt
  go_wp2_with fail
  have hdis : hi ≤ lo2 := by rw [← hlh2, ← hle]; exact Nat.le_refl _
  clear hlh hle hlh2 hle2
  have hl60 : l.length ≤ 60 := by
    have h := HGO0.out
    unfold greatO at h
    have h2 := (Bool.or_eq_false_iff.1 h.symm).1
    simpa using h2
  go_loopw [11] (fun i wr => ∃ j : Nat, j ≤ l.length ∧ i = .int .i64 j ∧ Below w.heap.size w wr ∧ Blk wr w.heap.size 25 #[.int .i64 c.P, .int .i64 c.H, .int .i64 c.C, .int .i64 c.Mn, .int .i64 c.Mx, .int .i64 c.Rho, .int .i64 c.Bd, .int .i64 c.Win, .int .i64 c.St, .slice sA sn scap, .slice RA rs.length rc] ∧ ∃ L M M2, SS w wr lo hi pb L M ∧ SS w wr lo2 hi2 pb2 L M2 ∧ (∀ x ∈ L, x.ok N) ∧ (∀ x ∈ M, x.ok N) ∧ (∀ x ∈ M2, x.ok N) ∧ M.length = N ∧ M2.length = N ∧ L.length = rs.length ∧ Src rs L) (fun i _ => l.length - (intOf i).toNat)
  case atStart => exact ⟨0, by omega, rfl, HB8.out, HQ8.out, _, _, _, HS8.out, HS28.out, HOL2.out, HOM2.out, HOM2.out, HML.out, HML.out, newL_len rs, Src.new rs⟩
  case round =>
    clear cQ lQ HB8 HQ8 HS8 HS28
    obtain ⟨j, hj, rfl, hb, hq, L, M, M2, hS, hS2, hL, hM, hM2, hMl, hMl2, hLl, hSr⟩ := hrel
    have HB20 := Lib.hid hb
    have HQ20 := Lib.hid hq
    have Sa20 := Lib.hid hS
    have Sb20 := Lib.hid hS2
    have HLr := Lib.hid hL
    have HMr := Lib.hid hM
    have HM2r := Lib.hid hM2
    have HMl := Lib.hid hMl
    have HMl2 := Lib.hid hMl2
    have HLl := Lib.hid hLl
    have HSr := Lib.hid hSr
    clear hb hq hS hS2 hL hM hM2 hMl hMl2 hLl hSr
    by_cases hlt : j < l.length
    · obtain ⟨o, ho⟩ : ∃ o, l[j]? = some o := ⟨_, List.getElem?_eq_getElem hlt⟩
      obtain ⟨oad, rfl, hoad, o0, o1, o2⟩ := rowO_at OXR.out ho
      have HOM_ := Lib.hid (List.mem_of_getElem? ho)
      have HOP := Lib.hid (show ∀ W, Below w.heap.size w W → W.cell? (oad.add (j * 3)) = some (.int .i64 o.R) ∧ W.cell? ⟨(oad.add (j * 3)).block, (oad.add (j * 3)).off + 1, none⟩ = some (.int .i64 o.C) ∧ W.cell? ⟨(oad.add (j * 3)).block, (oad.add (j * 3)).off + 2, none⟩ = some (.slice o.A o.cs.length o.cc) from fun W hb => ⟨by rw [hb.cell (by rw [block_add]; exact hoad)]; exact o0, by rw [hb.cell (by show (oad.add (j * 3)).block < _; rw [block_add]; exact hoad)]; exact o1, by rw [hb.cell (by show (oad.add (j * 3)).block < _; rw [block_add]; exact hoad)]; exact o2⟩)
      have HCR := Lib.hid (OXT.out o HOM_.out)
      have hjl : (j : Int) < (l.length : Int) := by omega
      clear o0 o1 o2 hoad ho
      obtain ⟨oc0, oc1, oc2⟩ := HOP.out _ HB20.out
      have cQ := HQ20.out.cells
      have lQ := HQ20.out.lt
      by_cases hcn : o.cs.length = N
      · have gn : decide ((o.cs.length : Int) ≠ (N : Int)) = false := decide_eq_false (by omega)
        have gn3 : ((o.cs.length : Int) != (N : Int)) = false := by simp; omega
        have gn5 : (o.cs.length != N) = false := by simp; omega
        have gn6 : ((o.cs.length : Int) == (N : Int)) = true := by simp; omega
        have gn7 : (o.cs.length == N) = true := by simp; omega
        have HCNE := Lib.hid hcn
        have hcl : o.cs.length ≤ N ∧ N ≤ o.cs.length := by omega
        clear hcn
        obtain ⟨u0, hu0⟩ : ∃ u, u = wr := ⟨wr, rfl⟩
        subst hu0
        have htop := Sb20.out.top.1
        have htop2 := Sb20.out.top.2.1
        obtain ⟨x0, hx0⟩ : ∃ x, o.cs[0]? = some x := ⟨_, List.getElem?_eq_getElem (by omega)⟩
        obtain ⟨cad, hcA, hcad, _, _, _⟩ := row3_at HCR.out hx0
        rw [hcA] at HOP HCR oc2
        have HCE := Lib.hid (show ∀ m a, o.cs[m]? = some a → w.cell? (cad.add (m * 3)) = some (.int .i64 a.1) ∧ w.cell? ⟨(cad.add (m * 3)).block, (cad.add (m * 3)).off + 1, none⟩ = some (.int .i64 a.2.1) ∧ w.cell? ⟨(cad.add (m * 3)).block, (cad.add (m * 3)).off + 2, none⟩ = some (.int .i64 a.2.2) from fun m a ha => by
          obtain ⟨ad, e, _, h1, h2, h3⟩ := row3_at HCR.out ha
          injection e with e
          subst e
          exact ⟨h1, h2, h3⟩)
        clear hx0
        go_wp2_with fail
        go_loopw [12, 13] (fun f k wk => ∃ (m : Nat) (FA : Option Addr) (fc : Nat), m ≤ N ∧ k = .int .i64 m ∧ f = .slice FA m fc ∧ Below u0.heap.size u0 wk ∧ wk.ownsRow u0.heap.size 55 3 (.slice FA m fc) m (c3c ((o.cs.map (fillV v)).take m))) (fun _ k _ => N - (intOf k).toNat)
        case atStart => exact ⟨0, none, 0, Nat.zero_le _, rfl, rfl, Below.refl _ _, own_nilN _ _⟩
        case round =>
          clear oc0 oc1 oc2 cQ lQ
          obtain ⟨m, FA, fc, hm, rfl, rfl, hbk, hown⟩ := hrel
          have HBK := Lib.hid hbk
          have HOW := Lib.hid hown
          have HBW := Lib.hid (Btrans HB20.out hbk)
          have hz0 := hbk.size
          clear hbk hown
          by_cases hmN : m < N
          · obtain ⟨a, ha⟩ : ∃ a, o.cs[m]? = some a := ⟨_, List.getElem?_eq_getElem (by omega)⟩
            obtain ⟨e0, e1, e2⟩ := HCE.out m a ha
            have hcl0 : (cad.add (m * 3)).block < w.heap.size := by rw [block_add]; exact hcad
            have c0 : wr.cell? (cad.add (m * 3)) = some (.int .i64 a.1) := by rw [HBW.out.cell hcl0]; exact e0
            have c1 : wr.cell? ⟨(cad.add (m * 3)).block, (cad.add (m * 3)).off + 1, none⟩ = some (.int .i64 a.2.1) := by rw [HBW.out.cell (p := ⟨(cad.add (m * 3)).block, (cad.add (m * 3)).off + 1, none⟩) hcl0]; exact e1
            have c2 : wr.cell? ⟨(cad.add (m * 3)).block, (cad.add (m * 3)).off + 2, none⟩ = some (.int .i64 a.2.2) := by rw [HBW.out.cell (p := ⟨(cad.add (m * 3)).block, (cad.add (m * 3)).off + 2, none⟩) hcl0]; exact e2
            obtain ⟨oc0, oc1, oc2⟩ := HOP.out _ HBW.out
            have HTK := Lib.hid (show (o.cs.map (fillV v)).take (m + 1) = (o.cs.map (fillV v)).take m ++ [fillV v a] by rw [List.take_add_one, List.getElem?_map, ha]; rfl)
            have gm : (m : Int) < (N : Int) := by omega
            have gmo : (m : Int) < (o.cs.length : Int) := by omega
            clear ha e0 e1 e2
            by_cases hk : a.1 = 1
            · have gk : decide (a.1 ≠ 1) = false := decide_eq_false (by omega)
              have gk2 : (a.1 == 1) = true := by simp [hk]
              have gk3 : (a.1 != 1) = false := by simp [hk]
              have HTE := Lib.hid (show (o.cs.map (fillV v)).take (m + 1) = (o.cs.map (fillV v)).take m ++ [a] by rw [HTK.out]; unfold fillV; rw [if_pos hk])
              clear hk
              go_wp2_with (at_builtin; refine wpList_appN elC rfl (.tmp 71) (.tmp 73) rfl u0.heap.size _ m (c3c ((o.cs.map (fillV v)).take m)) rfl (own_below HOW.out (by go_grown)) _ 1 (c3c [a]) rfl (RowN.of_blk (Blk.new _ _ _ _ (by simp)) rfl rfl (Nat.le_refl _) (by decide)) (c3_one _) (by unfold maxLen; omega) (by omega) (by simp; omega) ?_)
              intro v5 WA hO5 hg5 _
              have HBA := Lib.hid (below_app (B := u0.heap.size) (show Below u0.heap.size u0 _ from HBK.out.trans ((show Below wr.heap.size wr _ by go_grown).mono hz0)) (by simp; omega) (own_below HOW.out (by go_grown)) hg5 (Nat.le_refl _))
              rw [← c3_app, ← HTE.out] at hO5
              obtain ⟨FB, fd, rfl⟩ := own_shape hO5
              have HO5 := Lib.hid hO5
              clear hO5 hg5 oc0 oc1 oc2 c0 c1 c2
              go_wp2
              go_roundw
              case rel => exact ⟨m + 1, FB, fd, by omega, by go_num, rfl, HBA.out, HO5.out⟩
              case measure => simp [intOf]; omega
            · have gk : decide (a.1 ≠ 1) = true := decide_eq_true (by omega)
              have gk2 : (a.1 == 1) = false := by simp [hk]
              have gk3 : (a.1 != 1) = true := by simp [hk]
              have HTE := Lib.hid (show (o.cs.map (fillV v)).take (m + 1) = (o.cs.map (fillV v)).take m ++ [(1, v, 0)] by rw [HTK.out]; congr 2; unfold fillV; rw [if_neg hk])
              clear hk
              go_wp2_with (at_builtin; refine wpList_appN elC rfl (.tmp 71) (.tmp 73) rfl u0.heap.size _ m (c3c ((o.cs.map (fillV v)).take m)) rfl (own_below HOW.out (by go_grown)) _ 1 (c3c [(1, v, 0)]) rfl (RowN.of_blk (Blk.new _ _ _ _ (by simp)) rfl rfl (Nat.le_refl _) (by decide)) (c3_one _) (by unfold maxLen; omega) (by omega) (by simp; omega) ?_)
              intro v5 WA hO5 hg5 _
              have HBA := Lib.hid (below_app (B := u0.heap.size) (show Below u0.heap.size u0 _ from HBK.out.trans ((show Below wr.heap.size wr _ by go_grown).mono hz0)) (by simp; omega) (own_below HOW.out (by go_grown)) hg5 (Nat.le_refl _))
              rw [← c3_app, ← HTE.out] at hO5
              obtain ⟨FB, fd, rfl⟩ := own_shape hO5
              have HO5 := Lib.hid hO5
              clear hO5 hg5 oc0 oc1 oc2 c0 c1 c2
              go_wp2
              go_roundw
              case rel => exact ⟨m + 1, FB, fd, by omega, by go_num, rfl, HBA.out, HO5.out⟩
              case measure => simp [intOf]; omega
          · obtain rfl : m = N := by omega
            have HB21 := Lib.hid HBW.out
            have HQ21 := Lib.hid (HQ20.out.below HBK.out)
            have Sa21 := Lib.hid (Sa20.out.below HBK.out)
            have Sb21 := Lib.hid (Sb20.out.below HBK.out)
            have HFU := Lib.hid (show (o.cs.map (fillV v)).length = m by rw [List.length_map]; exact HCNE.out)
            have HOW2 := Lib.hid (show wr.ownsRow u0.heap.size 55 3 (.slice FA m fc) m (c3c (o.cs.map (fillV v))) by have := HOW.out; rw [List.take_of_length_le (by rw [HFU.out]; exact Nat.le_refl _)] at this; exact this)
            have HFB := Lib.hid (own_blk HOW2.out)
            have HFR21 := Lib.hid (show RowN 3 wr (.slice FA m fc) m (c3c (o.cs.map (fillV v))) from RowN.of_own HOW2.out)
            clear HB20 HQ20 Sa20 Sb20 HOW HOW2
            obtain ⟨oc0, oc1, oc2⟩ := HOP.out _ HB21.out
            have cQ := HQ21.out.cells
            have lQ := HQ21.out.lt
            go_wp2_with fail
            have hz21 := Sb21.out.top.1
            refine (SS.tick (some cad) o.cc o.cs Sa21.out (by rw [HCNE.out]; exact HLr.out) (by rw [HCNE.out]; exact HMr.out) (HCR.out.below HB21.out) (FrC.of HCR.out (by omega) (Nat.le_of_lt hlo)) (by rw [HMl.out]; exact HCNE.out) HB21.out (by rw [HLl.out]; omega) (by rw [HMl.out]; omega)).mono ?_
            rintro e W22 ⟨va, vb, rfl, ra, rb, hs, fr⟩
            (try clear cQ); (try clear lQ); (try clear oc0); (try clear oc1); (try clear oc2)
            have HB22 := Lib.hid (fr.below HB21.out (Nat.le_refl _) (Nat.le_of_lt hlo))
            have HQ22 := Lib.hid (HQ21.out.fr fr (.inl hlo))
            have Sb22 := Lib.hid (Sb21.out.fr fr (.inl hdis))
            clear HB21 HQ21 Sb21
            have Sa22 := Lib.hid hs
            have HFR22 := Lib.hid (HFR21.out.fr fr (fun ad n' c' e => by injection e with e; have := HFB.out ad e; exact .inr (by omega)))
            clear hs fr Sa21 HFR21
            have RA22 := Lib.hid ra
            clear ra rb
            obtain ⟨oc0, oc1, oc2⟩ := HOP.out _ HB22.out
            have cQ := HQ22.out.cells
            have lQ := HQ22.out.lt
            go_wp2_with fail
            refine (SS.tickN FA fc (o.cs.map (fillV v)) m HFU.out Sb22.out HLr.out HM2r.out HFR22.out (fun ad e => .inr (by have := HFB.out ad e; omega)) HMl2.out HB22.out (by rw [HLl.out]; omega) (by rw [HMl2.out]; omega)).mono ?_
            rintro e W23 ⟨ua, ub, rfl, ra, rb, hs, fr⟩
            (try clear cQ); (try clear lQ); (try clear oc0); (try clear oc1); (try clear oc2)
            have HB23 := Lib.hid (fr.below HB22.out (Nat.le_refl _) (Nat.le_of_lt hlo2))
            have HQ23 := Lib.hid (HQ22.out.fr fr (.inl hlo2))
            have Sa23 := Lib.hid (Sa22.out.fr fr (.inr hdis))
            have RA23 := Lib.hid (RA22.out.fr fr hz21)
            clear HB22 HQ22 Sa22 RA22
            have Sb23 := Lib.hid hs
            clear hs fr Sb22
            have UA23 := Lib.hid ra
            clear ra rb
            obtain ⟨oc0, oc1, oc2⟩ := HOP.out _ HB23.out
            have cQ := HQ23.out.cells
            have lQ := HQ23.out.lt
            rw [HLl.out] at RA23 UA23
            obtain ⟨XA, xc, rfl, hxc, hxm⟩ := RA23.out.1.shape2
            obtain ⟨YA, yc, rfl, hyc, hym⟩ := UA23.out.1.shape2
            go_wp2_with fail
            go_loopw [19] (fun i wk => ∃ k : Nat, k ≤ rs.length ∧ i = .int .i64 k ∧ Below W23.heap.size W23 wk ∧ ∀ r ∈ rs.take k, saysR r.l o.cs = saysR r.l (o.cs.map (fillV v))) (fun i _ => rs.length - (intOf i).toNat)
            case atStart => exact ⟨0, Nat.zero_le _, rfl, Below.refl _ _, by simp⟩
            case round =>
              clear oc0 oc1 oc2 cQ lQ
              obtain ⟨k, hk, rfl, hbk, hkn⟩ := hrel
              have HBK2 := Lib.hid hbk
              have HKN := Lib.hid hkn
              have HBW2 := Lib.hid (Btrans HB23.out hbk)
              have HQW := Lib.hid (HQ23.out.below hbk)
              clear hbk hkn
              obtain ⟨oc0, oc1, oc2⟩ := HOP.out _ HBW2.out
              have cQ := HQW.out.cells
              have lQ := HQW.out.lt
              by_cases hkl : k < rs.length
              · obtain ⟨r, hr⟩ : ∃ r, rs[k]? = some r := ⟨_, List.getElem?_eq_getElem hkl⟩
                obtain ⟨x, hx, hxs⟩ := HSr.out.at_ hr
                obtain ⟨rad, rfl, hrad, e0, e1, e2⟩ := rowR_at HRR.out hr
                have HQX := Lib.hid (show Blk wr w.heap.size 25 #[.int .i64 c.P, .int .i64 c.H, .int .i64 c.C, .int .i64 c.Mn, .int .i64 c.Mx, .int .i64 c.Rho, .int .i64 c.Bd, .int .i64 c.Win, .int .i64 c.St, .slice sA sn scap, .slice (some rad) rs.length rc] from HQW.out)
                have HRU := Lib.hid (HRN.out.2.2.2.2 r (List.mem_of_getElem? hr))
                have HTS := Lib.hid (HTT.out r (List.mem_of_getElem? hr))
                have HTKr := Lib.hid (show rs.take (k + 1) = rs.take k ++ [r] by rw [List.take_add_one, hr]; rfl)
                have hrb : (rad.add (k * 3)).block < w.heap.size := by rw [block_add]; exact hrad
                have hwz := HBW2.out.size
                have HRU2 := Lib.hid (rule_h HRU.out)
                have hl16 : r.l.length ≤ 100 := by have := HRU2.out.2.2.1; omega
                have HKS := Lib.hid (known_saysV (cs := o.cs) v (by rw [HCNE.out, HNE.out]; exact HRU2.out.2.2.2.1) HRU2.out.2.2.2.2)
                have HTRr := Lib.hid (show ∀ t ∈ r.l, tRight t (o.cs.length : Int) = true by rw [HCNE.out, HNE.out]; exact HRU2.out.2.2.2.1)
                obtain ⟨sy, HSY⟩ : ∃ sy, RowKit.Hid (sy = saysR r.l o.cs) := ⟨_, Lib.hid rfl⟩
                have gkl : (k : Int) < (rs.length : Int) := by omega
                have hr0 : wr.cell? (rad.add (k * 3)) = some (.slice r.A r.l.length r.rc) := by rw [HBW2.out.cell hrb]; exact e0
                have hr1 : wr.cell? ⟨(rad.add (k * 3)).block, (rad.add (k * 3)).off + 1, none⟩ = some (.int .i64 r.hold) := by rw [HBW2.out.cell (p := ⟨(rad.add (k * 3)).block, (rad.add (k * 3)).off + 1, none⟩) hrb]; exact e1
                have hr2 : wr.cell? ⟨(rad.add (k * 3)).block, (rad.add (k * 3)).off + 2, none⟩ = some (.bool r.latch) := by rw [HBW2.out.cell (p := ⟨(rad.add (k * 3)).block, (rad.add (k * 3)).off + 2, none⟩) hrb]; exact e2
                have hrbw : (rad.add (k * 3)).block < wr.heap.size := Nat.lt_of_lt_of_le hrb hwz
                have dR0 : ∀ w', Below wr.heap.size wr w' → w'.cell? (rad.add (k * 3)) = some (.slice r.A r.l.length r.rc) := fun w' hb => (hb.cell hrbw).trans hr0
                have dR1 : ∀ w', Below wr.heap.size wr w' → w'.cell? ⟨(rad.add (k * 3)).block, (rad.add (k * 3)).off + 1, none⟩ = some (.int .i64 r.hold) := fun w' hb => (hb.cell (p := ⟨(rad.add (k * 3)).block, (rad.add (k * 3)).off + 1, none⟩) hrbw).trans hr1
                have dR2 : ∀ w', Below wr.heap.size wr w' → w'.cell? ⟨(rad.add (k * 3)).block, (rad.add (k * 3)).off + 2, none⟩ = some (.bool r.latch) := fun w' hb => (hb.cell (p := ⟨(rad.add (k * 3)).block, (rad.add (k * 3)).off + 2, none⟩) hrbw).trans hr2
                have dQ : ∀ w', Below wr.heap.size wr w' → ∀ i, w'.cell? ⟨w.heap.size, i, none⟩ = (#[.int .i64 c.P, .int .i64 c.H, .int .i64 c.C, .int .i64 c.Mn, .int .i64 c.Mx, .int .i64 c.Rho, .int .i64 c.Bd, .int .i64 c.Win, .int .i64 c.St, .slice sA sn scap, .slice (some rad) rs.length rc] : Array Value)[i]? := fun w' hb => (HQX.out.below hb).cells
                have dO : ∀ w', Below wr.heap.size wr w' → w'.cell? ⟨(oad.add (j * 3)).block, (oad.add (j * 3)).off + 2, none⟩ = some (.slice (some cad) o.cs.length o.cc) := fun w' hb => (HOP.out w' (Btrans HBW2.out hb)).2.2
                clear e0 e1 e2 hr hr0 hr1 hr2
                go_wp2_with fail
                refine wp_region_held_drew (S := fun w' => Below wr.heap.size wr w') (by kernel_rfl) ((Below.refl _ _).drew) (fun hHeld => ?_)
                refine takeD 0 (some 112) (v := ?_) rfl rfl (by kernel_rfl) (by kernel_rfl) (by kernel_rfl) (fun _ _ _ h => h) (by rfl) ?_ (by assumption) ?_
                rotate_left
                · intro w hSw
                  (try dsimp only at hSw)
                  go_simp
                  try with_reducible rfl
                try simp only [Act.put, List.setIfInBounds_toArray, List.set_cons_zero, List.set_cons_succ]
                refine takeD 1 (some 113) (v := ?_) rfl rfl (by kernel_rfl) (by kernel_rfl) (by kernel_rfl) (fun _ _ _ h => h) (by rfl) ?_ (by assumption) ?_
                rotate_left
                · intro w hSw
                  (try dsimp only at hSw)
                  go_simp
                  try with_reducible rfl
                try simp only [Act.put, List.setIfInBounds_toArray, List.set_cons_zero, List.set_cons_succ]
                refine takeD 2 (some 114) (v := ?_) rfl rfl (by kernel_rfl) (by kernel_rfl) (by kernel_rfl) (fun _ _ _ h => h) (by rfl) ?_ (by assumption) ?_
                rotate_left
                · intro w hSw
                  (try dsimp only at hSw)
                  go_simp
                  try with_reducible rfl
                try simp only [Act.put, List.setIfInBounds_toArray, List.set_cons_zero, List.set_cons_succ]
                refine takeD 3 (some 115) (v := ?_) rfl rfl (by kernel_rfl) (by kernel_rfl) (by kernel_rfl) (fun _ _ _ h => h) (by rfl) ?_ (by assumption) ?_
                rotate_left
                · intro w hSw
                  (try dsimp only at hSw)
                  go_simp
                  try with_reducible rfl
                try simp only [Act.put, List.setIfInBounds_toArray, List.set_cons_zero, List.set_cons_succ]
                refine takeD 4 (some 116) (v := ?_) rfl rfl (by kernel_rfl) (by kernel_rfl) (by kernel_rfl) (fun _ _ _ h => h) (by rfl) ?_ (by assumption) ?_
                rotate_left
                · intro w hSw
                  (try dsimp only at hSw)
                  go_simp
                  try with_reducible rfl
                try simp only [Act.put, List.setIfInBounds_toArray, List.set_cons_zero, List.set_cons_succ]
                refine takeD 5 (some 117) (v := ?_) rfl rfl (by kernel_rfl) (by kernel_rfl) (by kernel_rfl) (fun _ _ _ h => h) (by rfl) ?_ (by assumption) ?_
                rotate_left
                · intro w hSw
                  (try dsimp only at hSw)
                  go_simp
                  try with_reducible rfl
                try simp only [Act.put, List.setIfInBounds_toArray, List.set_cons_zero, List.set_cons_succ]
                refine takeD 6 (some 118) (v := ?_) rfl rfl (by kernel_rfl) (by kernel_rfl) (by kernel_rfl) (fun _ _ _ h => h) (by rfl) ?_ (by assumption) ?_
                rotate_left
                · intro w hSw
                  (try dsimp only at hSw)
                  go_simp
                  try with_reducible rfl
                try simp only [Act.put, List.setIfInBounds_toArray, List.set_cons_zero, List.set_cons_succ]
                refine takeD 7 (some 119) (v := ?_) rfl rfl (by kernel_rfl) (by kernel_rfl) (by kernel_rfl) (fun _ _ _ h => h) (by rfl) ?_ (by assumption) ?_
                rotate_left
                · intro w hSw
                  (try dsimp only at hSw)
                  go_simp
                  try with_reducible rfl
                try simp only [Act.put, List.setIfInBounds_toArray, List.set_cons_zero, List.set_cons_succ]
                refine takeD 8 (some 120) (v := ?_) rfl rfl (by kernel_rfl) (by kernel_rfl) (by kernel_rfl) (fun _ _ _ h => h) (by rfl) ?_ (by assumption) ?_
                rotate_left
                · intro w hSw
                  (try dsimp only at hSw)
                  go_simp
                  try with_reducible rfl
                try simp only [Act.put, List.setIfInBounds_toArray, List.set_cons_zero, List.set_cons_succ]
                refine takeD 9 (some 121) (v := ?_) rfl rfl (by kernel_rfl) (by kernel_rfl) (by kernel_rfl) (fun _ _ _ h => h) (by rfl) ?_ (by assumption) ?_
                rotate_left
                · intro w hSw
                  (try dsimp only at hSw)
                  go_simp
                  try with_reducible rfl
                try simp only [Act.put, List.setIfInBounds_toArray, List.set_cons_zero, List.set_cons_succ]
                refine wpAnyH_ready (rs := [10]) (by kernel_rfl) (by simp) ?_
                refine AllReadyH.cons rfl (fun K hK => ?_) AllReadyH.nil
                rw [if_pos (by rfl)]
                go_simp
                go_at_call 24
                refine (says_any _ r.hold r.latch r.l (some cad) o.cc o.cs _ ⟨r.A, r.rc, rfl, HTS.out.below (HBW2.out.trans (hHeld.mono HBW2.out.size))⟩ (HCR.out.below (HBW2.out.trans (hHeld.mono HBW2.out.size))) HTRr.out hl16).mono ?_
                rintro e w1 ⟨rfl, hk⟩
                rw [← HSY.out]
                have hS : Below wr.heap.size wr _ := hHeld.trans (hk.mono hHeld.size)
                clear hk
                go_wp2_with fail
                refine hK.out _ _ ?_ (fun hHeld2 => ?_)
                · clear hK; exact hS
                clear hK K hHeld hS
                have hHeld := hHeld2
                clear hHeld2
                try simp only [Act.put, List.setIfInBounds_toArray, List.set_cons_zero, List.set_cons_succ]
                refine takeD 11 (some 123) (v := ?_) rfl rfl (by kernel_rfl) (by kernel_rfl) (by kernel_rfl) (fun _ _ _ h => h) (by rfl) ?_ (by assumption) ?_
                rotate_left
                · intro w hSw
                  (try dsimp only at hSw)
                  go_simp
                  try with_reducible rfl
                try simp only [Act.put, List.setIfInBounds_toArray, List.set_cons_zero, List.set_cons_succ]
                refine wpAnyH_done (by kernel_rfl) ?_ _
                refine nameV (fun W => Below wr.heap.size wr W) hHeld fun W6 h6 => ?_
                have HB6 := Lib.hid (Btrans HBW2.out h6)
                have HK6 := Lib.hid (Btrans HBK2.out h6)
                have HQ6 := Lib.hid (HQX.out.below h6)
                clear hHeld h6 dR0 dR1 dR2 dQ dO cQ lQ oc0 oc1 oc2
                by_cases h3 : sy = 3
                · have g3 : (sy == 3) = true := by simp [h3]
                  clear h3
                  go_wp2
                  go_ret
                  exact ⟨by first | rfl | simp, HB6.out⟩
                have g3 : (sy == 3) = false := by simp [h3]
                have HEQ := Lib.hid (show saysR r.l o.cs = saysR r.l (o.cs.map (fillV v)) by rcases HKS.out with h | h; exact absurd (HSY.out.trans h) h3; exact h)
                clear h3
                have hal : (L.map fun x => (x.next o.cs).al)[k]? = some ((x.next o.cs).al.1, (x.next o.cs).al.2) := by rw [List.getElem?_map, hx]; rfl
                have hbl : (L.map fun x => (x.next (o.cs.map (fillV v))).al)[k]? = some ((x.next o.cs).al.1, (x.next o.cs).al.2) := by rw [List.getElem?_map, hx, next_same hxs HEQ.out]; rfl
                obtain ⟨xad, hxA, y0, y1⟩ := (RA23.out.1.below HK6.out).at2 k _ hal
                obtain ⟨yad, hyA, z0, z1⟩ := (UA23.out.1.below HK6.out).at2 k _ hbl
                subst hxA
                subst hyA
                obtain ⟨on, hon⟩ : ∃ b, b = (x.next o.cs).al.1 := ⟨_, rfl⟩
                obtain ⟨nw, hnw⟩ : ∃ b, b = (x.next o.cs).al.2 := ⟨_, rfl⟩
                rw [← hon] at y0 z0
                rw [← hnw] at y1 z1
                have xb := lt_of_cell y0
                have yb := lt_of_cell z0
                have hnq : ∀ w, (binOp .neq 53 (.agg #[.bool on, .bool nw]) (.agg #[.bool on, .bool nw])).run Try.prog w = .ok (.bool false) w := fun w => by rw [neqA]; simp
                have hgd := guardA
                have d0 : ∀ w', Below W6.heap.size W6 w' → w'.cell? (xad.add (k * 2)) = some (.bool on) := fun w' hb => (hb.cell xb).trans y0
                have d1 : ∀ w', Below W6.heap.size W6 w' → w'.cell? ⟨(xad.add (k * 2)).block, (xad.add (k * 2)).off + 1, none⟩ = some (.bool nw) := fun w' hb => (hb.cell (p := ⟨(xad.add (k * 2)).block, (xad.add (k * 2)).off + 1, none⟩) xb).trans y1
                have d2 : ∀ w', Below W6.heap.size W6 w' → w'.cell? (yad.add (k * 2)) = some (.bool on) := fun w' hb => (hb.cell yb).trans z0
                have d3 : ∀ w', Below W6.heap.size W6 w' → w'.cell? ⟨(yad.add (k * 2)).block, (yad.add (k * 2)).off + 1, none⟩ = some (.bool nw) := fun w' hb => (hb.cell (p := ⟨(yad.add (k * 2)).block, (yad.add (k * 2)).off + 1, none⟩) yb).trans z1
                clear hal hbl hon hnw
                have HHX := Lib.hid (And.intro hx hxs)
                clear hx hxs
                obtain ⟨oc0, oc1, oc2⟩ := HOP.out _ HB6.out
                have cQ := HQ6.out.cells
                have lQ := HQ6.out.lt
                go_wp2_with fail
                refine wp_region_held_drew (S := fun w' => Below W6.heap.size W6 w') (by kernel_rfl) ((Below.refl _ _).drew) (fun hHeld => ?_)
                refine takeD 0 (some 125) (v := ?_) rfl rfl (by kernel_rfl) (by kernel_rfl) (by kernel_rfl) (fun _ _ _ h => h) (by rfl) ?_ (by assumption) ?_
                rotate_left
                · intro w hSw
                  (try dsimp only at hSw)
                  go_simp
                  try with_reducible rfl
                try simp only [Act.put, List.setIfInBounds_toArray, List.set_cons_zero, List.set_cons_succ]
                refine takeD 1 (some 126) (v := ?_) rfl rfl (by kernel_rfl) (by kernel_rfl) (by kernel_rfl) (fun _ _ _ h => h) (by rfl) ?_ (by assumption) ?_
                rotate_left
                · intro w hSw
                  (try dsimp only at hSw)
                  go_simp
                  try with_reducible rfl
                try simp only [Act.put, List.setIfInBounds_toArray, List.set_cons_zero, List.set_cons_succ]
                refine takeD 2 (some 127) (v := ?_) rfl rfl (by kernel_rfl) (by kernel_rfl) (by kernel_rfl) (fun _ _ _ h => h) (by rfl) ?_ (by assumption) ?_
                rotate_left
                · intro w hSw
                  (try dsimp only at hSw)
                  go_simp
                  try with_reducible rfl
                try simp only [Act.put, List.setIfInBounds_toArray, List.set_cons_zero, List.set_cons_succ]
                refine takeD 3 (some 128) (v := ?_) rfl rfl (by kernel_rfl) (by kernel_rfl) (by kernel_rfl) (fun _ _ _ h => h) (by rfl) ?_ (by assumption) ?_
                rotate_left
                · intro w hSw
                  (try dsimp only at hSw)
                  go_simp
                  try with_reducible rfl
                try simp only [Act.put, List.setIfInBounds_toArray, List.set_cons_zero, List.set_cons_succ]
                refine takeD 4 (some 129) (v := ?_) rfl rfl (by kernel_rfl) (by kernel_rfl) (by kernel_rfl) (fun _ _ _ h => h) (by rfl) ?_ (by assumption) ?_
                rotate_left
                · intro w hSw
                  (try dsimp only at hSw)
                  go_simp
                  try with_reducible rfl
                try simp only [Act.put, List.setIfInBounds_toArray, List.set_cons_zero, List.set_cons_succ]
                refine takeD 5 (some 130) (v := ?_) rfl rfl (by kernel_rfl) (by kernel_rfl) (by kernel_rfl) (fun _ _ _ h => h) (by rfl) ?_ (by assumption) ?_
                rotate_left
                · intro w hSw
                  (try dsimp only at hSw)
                  go_simp
                  try with_reducible rfl
                try simp only [Act.put, List.setIfInBounds_toArray, List.set_cons_zero, List.set_cons_succ]
                refine takeD 6 (some 131) (v := ?_) rfl rfl (by kernel_rfl) (by kernel_rfl) (by kernel_rfl) (fun _ _ _ h => h) (by rfl) ?_ (by assumption) ?_
                rotate_left
                · intro w hSw
                  (try dsimp only at hSw)
                  go_simp
                  try with_reducible rfl
                try simp only [Act.put, List.setIfInBounds_toArray, List.set_cons_zero, List.set_cons_succ]
                refine takeD 7 (some 132) (v := ?_) rfl rfl (by kernel_rfl) (by kernel_rfl) (by kernel_rfl) (fun _ _ _ h => h) (by rfl) ?_ (by assumption) ?_
                rotate_left
                · intro w hSw
                  (try dsimp only at hSw)
                  go_simp
                  try with_reducible rfl
                try simp only [Act.put, List.setIfInBounds_toArray, List.set_cons_zero, List.set_cons_succ]
                refine takeD 8 (some 133) (v := ?_) rfl rfl (by kernel_rfl) (by kernel_rfl) (by kernel_rfl) (fun _ _ _ h => h) (by rfl) ?_ (by assumption) ?_
                rotate_left
                · intro w hSw
                  (try dsimp only at hSw)
                  go_simp
                  try with_reducible rfl
                try simp only [Act.put, List.setIfInBounds_toArray, List.set_cons_zero, List.set_cons_succ]
                refine wpAnyH_done (by kernel_rfl) ?_ _
                refine nameV (fun W => Below W6.heap.size W6 W) hHeld fun W7 h7 => ?_
                have HK7 := Lib.hid (Btrans HK6.out h7)
                clear hHeld h7 d0 d1 d2 d3 y0 y1 z0 z1
                go_wp2
                go_roundw
                case rel => exact ⟨k + 1, by omega, by go_num, HK7.out, fun q hq => by rw [HTKr.out] at hq; rcases List.mem_append.1 hq with hq | hq; exact HKN.out q hq; simp at hq; subst hq; exact HEQ.out⟩
                case measure => simp [intOf]; omega
              · obtain rfl : k = rs.length := by omega
                have HNA := Lib.hid (show L.map (Wt.next o.cs) = L.map (Wt.next (o.cs.map (fillV v))) from next_all HSr.out (by have := HKN.out; rw [List.take_length] at this; exact this))
                go_wp2
                go_roundw
                case rel => exact ⟨j + 1, by omega, by go_num, HBW2.out, HQW.out, _, _, _, Sa23.out.below HBK2.out, by rw [HNA.out]; exact Sb23.out.below HBK2.out, next_oks _ HLr.out, next_oks _ HMr.out, next_oks _ HM2r.out, by rw [List.length_map, HMl.out], by rw [List.length_map, HMl2.out], by rw [List.length_map, HLl.out], HSr.out.next _⟩
                case measure => simp [intOf]; omega
      · have gn : decide ((o.cs.length : Int) ≠ (N : Int)) = true := decide_eq_true (by omega)
        have gn3 : ((o.cs.length : Int) != (N : Int)) = true := by simp; omega
        have gn5 : (o.cs.length != N) = true := by simp; omega
        have gn6 : ((o.cs.length : Int) == (N : Int)) = false := by simp; omega
        have gn7 : (o.cs.length == N) = false := by simp; omega
        go_wp2
        go_roundw
        case rel => exact ⟨j + 1, by omega, by go_num, HB20.out, HQ20.out, L, M, M2, Sa20.out, Sb20.out, HLr.out, HMr.out, HM2r.out, HMl.out, HMl2.out, HLl.out, HSr.out⟩
        case measure => simp [intOf]; omega
    · obtain rfl : j = l.length := by omega
      have cQ := HQ20.out.cells
      have lQ := HQ20.out.lt
      go_wp2
      go_ret
      exact ⟨by first | rfl | simp, HB20.out⟩
theorem walk_AlarmKnown (vc : Value) (z : Cf × List Rl) (vl : Value) (l : List Ol) (v : Int) (w : World) (h0 : ConfV w vc z) (h1 : OpsV w vl l) (w2 : (Lit.int .i64 v).wf = true) :
    Calls Try.prog 7 #[vc, vl, .int .i64 v] w fun e w' => e = .returned (.bool true) ∧ Below w.heap.size w w' := walkH_AlarmKnown head_any vc z vl l v w h0 h1 w2
end Go.Proofs.Ytcdmojimdiiepaa
