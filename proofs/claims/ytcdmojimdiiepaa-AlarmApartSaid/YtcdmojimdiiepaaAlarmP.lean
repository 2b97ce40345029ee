/- Layer 21: a rule's alarm hangs on its own. -/
import Derived.Test.YtcdmojimdiiepaaAlarmL
import Derived.Test.YtcdmojimdiiepaaAlarmZ
import Derived.Test.YtcdmojimdiiepaaAlm
import Derived.Test.YtcdmojimdiiepaaRuleTV
import Derived.StillTailTactics
import Derived.Handy
namespace Go.Proofs.Ytcdmojimdiiepaa
open Go.ChangeShapes Go.WideShapes Go.ChangeAt Go.RowKit
set_option linter.unusedVariables false
set_option linter.unusedSimpArgs false

def fillV (v : Int) (a : Cl) : Cl := if a.1 = 1 then a else (1, v, 0)
theorem fillV_at (cs : List Cl) (v : Int) (i : Nat) (h : i < cs.length) : (cs.map (fillV v)).getD i (0, 0, 0) = fillV v (cs.getD i (0, 0, 0)) := by
  rw [List.getD_eq_getElem?_getD, List.getD_eq_getElem?_getD, List.getElem?_map, List.getElem?_eq_getElem h]
  rfl
theorem known_saysV {l : List T} {cs : List Cl} (v : Int) (htr : ∀ t ∈ l, tRight t (cs.length : Int) = true) (hev : evalN l 0 = some 1) :
    saysR l cs = 3 ∨ saysR l cs = saysR l (cs.map (fillV v)) := by
  obtain ⟨x, hx, hx2⟩ := said_some (g := gOf cs) hev
  obtain ⟨y, hy, hy2⟩ := said_some (g := gOf (cs.map (fillV v))) hev
  have hle : ∀ t ∈ l, isLim t = true → le3 (gOf cs t) (gOf (cs.map (fillV v)) t) := by
    intro t ht hl
    obtain ⟨h1, h2⟩ := tright_ch (htr t ht) hl
    unfold gOf
    rw [fillV_at _ _ _ (by omega)]
    by_cases hk : (cs.getD t.2.1.toNat (0, 0, 0)).1 = 1
    · right
      unfold fillV
      rw [if_pos hk]
    · left
      exact lim_unknown _ _ hk
  obtain ⟨q, hq, hq2⟩ := eval_mono _ _ l hle [] [] trivial [x] hx
  rw [hy] at hq
  injection hq with hq
  subst hq
  unfold saysR
  rw [hx2, hy2]
  exact hq2.1
def Wt.src : Wt → Option (List T)
  | .rule _ _ _ _ l _ _ => some l
  | .chan .. => none
theorem src_next (cs : List Cl) (x : Wt) : (x.next cs).src = x.src := by cases x <;> rfl
theorem next_same {x : Wt} {l : List T} {cs ds : List Cl} (h : x.src = some l) (hs : saysR l cs = saysR l ds) : x.next cs = x.next ds := by
  cases x with
  | rule A rc hd la m s a =>
    injection h with h
    subst h
    show Wt.rule A rc hd la m (pstep hd la s (saysR m cs) a) false = Wt.rule A rc hd la m (pstep hd la s (saysR m ds) a) false
    rw [hs]
  | chan => cases h
/-- each alarm is of its own rule -/
def Src (rs : List Rl) (L : List Wt) : Prop := L.map Wt.src = rs.map fun r => some r.l
theorem Src.next {rs : List Rl} {L : List Wt} (cs : List Cl) (h : Src rs L) : Src rs (L.map (Wt.next cs)) := by
  unfold Src
  rw [List.map_map, ← h]
  exact List.map_congr_left fun x _ => src_next cs x
theorem Src.new (rs : List Rl) : Src rs (newL rs) := by unfold Src newL; rw [List.map_map]; rfl
theorem Src.at_ {rs : List Rl} {L : List Wt} {k : Nat} {r : Rl} (h : Src rs L) (hr : rs[k]? = some r) : ∃ x, L[k]? = some x ∧ x.src = some r.l := by
  have h2 : (L.map Wt.src)[k]? = some (some r.l) := by rw [h, List.getElem?_map, hr]; rfl
  rw [List.getElem?_map] at h2
  exact Option.map_eq_some_iff.1 h2
theorem next_all {rs : List Rl} {L : List Wt} {cs ds : List Cl} (h : Src rs L) (hs : ∀ r ∈ rs, saysR r.l cs = saysR r.l ds) : L.map (Wt.next cs) = L.map (Wt.next ds) := by
  apply List.ext_getElem?
  intro i
  rw [List.getElem?_map, List.getElem?_map]
  cases hx : L[i]? with
  | none => rfl
  | some x =>
    have hl : i < rs.length := by
      have h3 := congrArg List.length h
      rw [List.length_map, List.length_map] at h3
      have := (List.getElem?_eq_some_iff.1 hx).1
      omega
    obtain ⟨x', hx', hs'⟩ := h.at_ (List.getElem?_eq_getElem hl)
    rw [hx] at hx'
    injection hx' with hx'
    subst hx'
    exact congrArg some (next_same hs' (hs _ (List.getElem_mem hl)))
theorem elC : Elem Try.prog 35 55 3 24 := Elem.mk' (z := .agg #[.int .i64 0, .int .i64 0, .int .i64 0]) (by kernel_rfl) (by kernel_rfl) rfl (by decide)
def upd (c : Cl) : Cl := c
def mAft (cs m : List Cl) (L : List Int) : List Cl := L.foldl (fun m ch => m.set ch.toNat (upd (cs.getD ch.toNat (0, 0, 0)))) m
theorem mAft_len (cs : List Cl) (L : List Int) : ∀ m : List Cl, (mAft cs m L).length = m.length := by
  induction L with
  | nil => intro m; rfl
  | cons ch L ih => intro m; show (mAft cs (m.set _ _) L).length = _; rw [ih, List.length_set]
theorem mAft_snoc (cs m : List Cl) (L : List Int) (ch : Int) : mAft cs m (L ++ [ch]) = (mAft cs m L).set ch.toNat (upd (cs.getD ch.toNat (0, 0, 0))) := by simp [mAft]
theorem mAft_at (cs : List Cl) (k : Nat) (L : List Int) : ∀ m : List Cl, k < m.length → (m.getD k (0, 0, 0) = upd (cs.getD k (0, 0, 0)) ∨ k ∈ L.map Int.toNat) → (mAft cs m L).getD k (0, 0, 0) = upd (cs.getD k (0, 0, 0)) := by
  induction L with
  | nil =>
    intro m _ h
    rcases h with h | h
    · exact h
    · cases h
  | cons ch L ih =>
    intro m hk h
    show (mAft cs (m.set ch.toNat (upd (cs.getD ch.toNat (0, 0, 0)))) L).getD k (0, 0, 0) = _
    refine ih _ (by rw [List.length_set]; exact hk) ?_
    by_cases he : ch.toNat = k
    · left
      subst he
      rw [List.getD_eq_getElem?_getD, List.getElem?_set_self hk]
      rfl
    · rcases h with h | h
      · left
        rw [List.getD_eq_getElem?_getD, List.getElem?_set_ne he, ← List.getD_eq_getElem?_getD]
        exact h
      · right
        rw [List.map_cons, List.mem_cons] at h
        rcases h with h | h
        · exact absurd h.symm he
        · exact h
theorem says_upd {l : List T} {cs m : List Cl} (h : ∀ t ∈ l, isLim t = true → m.getD t.2.1.toNat (0, 0, 0) = upd (cs.getD t.2.1.toNat (0, 0, 0))) : saysR l m = saysR l cs := by
  unfold saysR saidO
  rw [eval_congr (gOf m) (gOf cs) l [] (fun t ht hl => by unfold gOf; rw [h t ht hl]; rfl)]
theorem c3c_cons (b : Cl) (ms : List Cl) : c3c (b :: ms) = .int .i64 b.1 :: .int .i64 b.2.1 :: .int .i64 b.2.2 :: c3c ms := by simp [c3c]
theorem c3c_set (ms : List Cl) : ∀ (k : Nat) (a : Cl), c3c (ms.set k a) = (((c3c ms).set (k * 3) (.int .i64 a.1)).set (k * 3 + 1) (.int .i64 a.2.1)).set (k * 3 + 2) (.int .i64 a.2.2) := by
  induction ms with
  | nil => intro k a; simp [c3c]
  | cons b ms ih =>
    intro k a
    cases k with
    | zero => simp [c3c_cons]
    | succ k =>
      rw [List.set_cons_succ, c3c_cons, c3c_cons, ih, show (k + 1) * 3 = k * 3 + 1 + 1 + 1 by omega, show k * 3 + 1 + 1 + 1 + 2 = k * 3 + 2 + 1 + 1 + 1 by omega]
      simp only [List.set_cons_succ]
theorem stepM {cur : Array Value} {n k : Nat} {ms : List Cl} (h : cur.toList.take (n * 3) = c3c ms) (x y z : Int) :
    (((cur.setIfInBounds (k * 3) (.int .i64 x)).setIfInBounds (k * 3 + 1) (.int .i64 y)).setIfInBounds (k * 3 + 2) (.int .i64 z)).toList.take (n * 3) = c3c (ms.set k (x, y, z)) := by
  simp only [Array.toList_setIfInBounds, List.take_set, h, c3c_set]
theorem curAt {cur : Array Value} {n k : Nat} {ms : List Cl} (h : cur.toList.take (n * 3) = c3c ms) (hl : ms.length = n) (hk : k < n) : ∀ i, i < 3 → ∃ u, cur[k * 3 + i]? = some u := by
  intro i hi
  refine ⟨_, Array.getElem?_eq_getElem (show k * 3 + i < cur.size from ?_)⟩
  have h2 := congrArg List.length h
  rw [List.length_take, c3c_len, hl, Array.length_toList] at h2
  omega
theorem curLt {cur : Array Value} {n k : Nat} {ms : List Cl} (h : cur.toList.take (n * 3) = c3c ms) (hl : ms.length = n) (hk : k < n) : k * 3 + 2 < cur.size := by
  have h2 := congrArg List.length h
  rw [List.length_take, c3c_len, hl, Array.length_toList] at h2
  omega
theorem Blk.some_ {w : World} {g j : Nat} {t : TypeId} {c : Array Value} (h : Blk w g t c) (hj : j < c.size) : ∃ u, w.cell? ⟨g, j, none⟩ = some u := ⟨c[j], by rw [h.cells, Array.getElem?_eq_getElem hj]⟩
theorem mAft_step {cs ms : List Cl} {L : List Int} {j k : Nat} {a : Cl} (hch : L[j]? = some (k : Int)) (ha : cs[k]? = some a) : mAft cs ms (L.take (j + 1)) = (mAft cs ms (L.take j)).set k (a.1, a.2.1, a.2.2) := by
  rw [List.take_add_one, hch]
  show mAft cs ms (L.take j ++ [(k : Int)]) = _
  rw [mAft_snoc, Int.toNat_natCast, List.getD_eq_getElem?_getD, ha]
  rfl
theorem upd_all {l : List T} {cs ms : List Cl} (htr : ∀ t ∈ l, tRight t (cs.length : Int) = true) (hl : ms.length = cs.length) : saysR l (mAft cs ms (chO l)) = saysR l cs := by
  refine says_upd fun t ht hlim => mAft_at cs _ _ ms ?_ (.inr ?_)
  · have := tright_ch (htr t ht) hlim
    omega
  · exact List.mem_map.2 ⟨t.2.1, (chO_mem l _).2 ((chs_mem l _).2 ⟨t, ht, hlim, rfl⟩), rfl⟩
theorem chO_in {l : List T} {n : Nat} (htr : ∀ t ∈ l, tRight t (n : Int) = true) {ch : Int} (h : ch ∈ chO l) : 0 ≤ ch ∧ ch < (n : Int) := by
  obtain ⟨t, ht, hl, rfl⟩ := (chs_mem l ch).1 ((chO_mem l ch).1 h)
  exact tright_ch (htr t ht) hl
theorem chO_pos {hold n : Int} {l : List T} (h : ruleB hold l n = true) : 0 < (chO l).length := by
  obtain ⟨⟨_, _, h3, _⟩, _, he⟩ := rule_n h
  match l, h3, he with
  | t :: l, h3, he =>
    have hl : isLim t = true := by
      cases hl : isLim t with
      | true => rfl
      | false =>
        change (stepN t 0).bind (evalN l) = some 1 at he
        unfold stepN at he
        rw [hl, if_neg (by decide)] at he
        by_cases h5 : t.1 = 5
        · rw [if_pos h5, if_pos rfl] at he; cases he
        · rw [if_neg h5, if_pos (by decide)] at he; cases he
    exact List.length_pos_of_mem ((chO_mem _ _).2 ((chs_mem _ t.2.1).2 ⟨t, by simp, hl, rfl⟩))
theorem chO_step {l : List T} {p : Nat} {x y : Int} (hx : (chO l)[p]? = some x) (hy : (chO l)[p + 1]? = some y) : x < y := by
  obtain ⟨h1, e1⟩ := List.getElem?_eq_some_iff.1 hx
  obtain ⟨h2, e2⟩ := List.getElem?_eq_some_iff.1 hy
  have := (List.pairwise_iff_getElem.1 (chO_lt l)) p (p + 1) h1 h2 (by omega)
  rw [e1, e2] at this
  exact this
def Wt.sameAt (k : Nat) (L K : List Wt) : Prop := L[k]? = K[k]?
theorem ackL_at {n : Int} {L : List Wt} {k : Nat} (h : n ≠ (k : Int)) : (ackL n L)[k]? = L[k]? := by
  unfold ackL
  split
  · rw [List.getElem?_modify]
    cases L[k]? with
    | none => rfl
    | some x =>
      simp only [Option.map_eq_map, Option.map_some]
      rw [if_neg (by omega)]
  · rfl
theorem ackL_same {L K : List Wt} {n : Int} {k : Nat} (hl : L.length = K.length) (h : L[k]? = K[k]?) : (ackL n L)[k]? = (ackL n K)[k]? := by
  unfold ackL
  rw [hl]
  split
  · rw [List.getElem?_modify, List.getElem?_modify, h]
  · exact h
theorem src_ack (x : Wt) : x.ack.src = x.src := by cases x <;> rfl
theorem Src.ack {rs : List Rl} {L : List Wt} (n : Int) (h : Src rs L) : Src rs (ackL n L) := by
  unfold ackL
  split
  · unfold Src
    rw [map_modify_id Wt.src Wt.ack src_ack]
    exact h
  · exact h
theorem SS.tickN {W0 w : World} {lo hi pb : Nat} {L M : List Wt} (CA : Option Addr) (cc : Nat) (cs : List Cl) (n : Nat) (hnn : cs.length = n) (h : SS W0 w lo hi pb L M) (hL : ∀ x ∈ L, x.ok n) (hM : ∀ x ∈ M, x.ok n)
    (hc : RowN 3 w (.slice CA n cc) n (c3c cs)) (hCA : FrC lo hi CA) (hn : M.length = n) (h0 : Below W0.heap.size W0 w) (hl1 : L.length ≤ 100000) (hl2 : M.length ≤ 100000) :
    Calls Try.prog 20 #[.pointer (some ⟨pb, 0, none⟩), .slice CA n cc] w fun e w' => ∃ va vb, e = .returned (.tuple #[va, vb]) ∧ RowF w.heap.size 2 w' va L.length (al2 (L.map fun x => (x.next cs).al)) ∧
      RowF w.heap.size 2 w' vb M.length (al2 (M.map fun x => (x.next cs).al)) ∧ SS W0 w' lo hi pb (L.map (Wt.next cs)) (M.map (Wt.next cs)) ∧ Fr lo hi w w' := by
  subst hnn
  exact SS.tick CA cc cs h hL hM hc hCA hn.symm h0 hl1 hl2
theorem SS.mono0 {W0 W1 a : World} {lo hi pb : Nat} {L M : List Wt} (h : SS W0 a lo hi pb L M) : SS W0 a lo hi pb L M := h
set_option maxRecDepth 100000 in
set_option maxHeartbeats 2000000 in
theorem walkH_AlarmApart (hd : Hd) (vc : Value) (z : Cf × List Rl) (vl : Value) (l : List Ol) (vm : Value) (m : List Ol) (wh : Int) (w : World) (h0 : ConfV w vc z) (h1 : OpsV w vl l) (h2 : OpsV w vm m) (w3 : (Lit.int .u8 wh).wf = true) :
    Calls Try.prog 5 #[vc, vl, vm, .int .u8 wh] w fun e w' => e = .returned (.bool true) ∧ Below w.heap.size w w' := by
  obtain ⟨c, rs⟩ := z
  have hc0 : ConfR w vc c rs := h0
  obtain ⟨sA, sn, scap, RA, rc, rfl, hrc, hrr0, htt0⟩ := hc0.shape
  have HC := Lib.hid hc0
  clear h0 hc0
  have HRR := Lib.hid hrr0
  have HTT := Lib.hid htt0
  clear hrr0 htt0
  have OXV := Lib.hid h1
  obtain ⟨OXA, OXc, rfl, hOXr, hOXt⟩ := h1
  have OXR := Lib.hid hOXr
  have OXT := Lib.hid hOXt
  have hOXcap := hOXr.caps.1
  clear hOXr hOXt
  have OYV := Lib.hid h2
  obtain ⟨OYA, OYc, rfl, hOYr, hOYt⟩ := h2
  have OYR := Lib.hid hOYr
  have OYT := Lib.hid hOYt
  have hOYcap := hOYr.caps.1
  clear hOYr hOYt
  have bwh := bounds_u8 w3
  clear w3
  go_enter Try.func5, Try.ntmps5
  go_wp2_with fail
  refine calls_world (fun W => Below w.heap.size w W ∧ Blk W w.heap.size 25 #[.int .i64 c.P, .int .i64 c.H, .int .i64 c.C, .int .i64 c.Mn, .int .i64 c.Mx, .int .i64 c.Rho, .int .i64 c.Bd, .int .i64 c.Win, .int .i64 c.St, .slice sA sn scap, .slice RA rs.length rc]) ⟨by go_grown, Blk.new _ _ _ _ rfl⟩ fun W1 ⟨hb1, hq1⟩ => ?_
  have HB1 := Lib.hid hb1
  have HQ1 := Lib.hid hq1
  clear hb1 hq1
  refine (hd W1).mono ?_
  rintro e W2 ⟨rfl, hk⟩
  (try clear cQ); (try clear lQ)
  have HB2 := Lib.hid (Btrans HB1.out hk)
  have HQ2 := Lib.hid (HQ1.out.below hk)
  clear hk HB1 HQ1
  have cQ := HQ2.out.cells
  have lQ := HQ2.out.lt
  go_wp2_with fail
  refine (great21_any _ c rs _ (HC.out.below HB2.out)).mono ?_
  rintro e W3 ⟨rfl, hk⟩
  obtain ⟨ga, hga⟩ : ∃ b, b = greatA c rs := ⟨_, rfl⟩
  rw [← hga]
  (try clear cQ); (try clear lQ)
  have HB3 := Lib.hid (Btrans HB2.out hk)
  have HQ3 := Lib.hid (HQ2.out.below hk)
  clear hk HB2 HQ2
  have HGA := Lib.hid hga
  clear hga
  have cQ := HQ3.out.cells
  have lQ := HQ3.out.lt
  cases ga with
  | true =>
    go_wp2
    go_ret
    exact ⟨by first | rfl | simp, HB3.out⟩
  | false =>
  go_wp2_with fail
  refine (greatO_any _ l _ (OXV.out.below HB3.out)).mono ?_
  rintro e W4 ⟨rfl, hk⟩
  obtain ⟨go0, hgo0⟩ : ∃ b, b = greatO l := ⟨_, rfl⟩
  rw [← hgo0]
  (try clear cQ); (try clear lQ)
  have HB4 := Lib.hid (Btrans HB3.out hk)
  have HQ4 := Lib.hid (HQ3.out.below hk)
  clear hk HB3 HQ3
  have HGO0 := Lib.hid hgo0
  clear hgo0
  have cQ := HQ4.out.cells
  have lQ := HQ4.out.lt
  cases go0 with
  | true =>
    go_wp2
    go_ret
    exact ⟨by first | rfl | simp, HB4.out⟩
  | false =>
  go_wp2_with fail
  refine (greatO_any _ m _ (OYV.out.below HB4.out)).mono ?_
  rintro e W5 ⟨rfl, hk⟩
  obtain ⟨go1, hgo1⟩ : ∃ b, b = greatO m := ⟨_, rfl⟩
  rw [← hgo1]
  (try clear cQ); (try clear lQ)
  have HB5 := Lib.hid (Btrans HB4.out hk)
  have HQ5 := Lib.hid (HQ4.out.below hk)
  clear hk HB4 HQ4
  have HGO1 := Lib.hid hgo1
  clear hgo1
  have cQ := HQ5.out.cells
  have lQ := HQ5.out.lt
  cases go1 with
  | true =>
    go_wp2
    go_ret
    exact ⟨by first | rfl | simp, HB5.out⟩
  | false =>
  go_wp2_with fail
  have HN25 := Lib.hid (great_n HGA.out.symm)
  refine (rright21_any _ c rs _ (HC.out.below HB5.out) (Nat.le_trans HN25.out (by decide))).mono ?_
  rintro e W6 ⟨rfl, hk⟩
  obtain ⟨ri, hri⟩ : ∃ b, b = rightA c rs := ⟨_, rfl⟩
  rw [← hri]
  (try clear cQ); (try clear lQ)
  have HB6 := Lib.hid (Btrans HB5.out hk)
  have HQ6 := Lib.hid (HQ5.out.below hk)
  clear hk HB5 HQ5
  have HRI := Lib.hid hri
  clear hri
  have cQ := HQ6.out.cells
  have lQ := HQ6.out.lt
  cases ri with
  | false =>
    go_wp2
    go_ret
    exact ⟨by first | rfl | simp, HB6.out⟩
  | true =>
  have HRN := Lib.hid (right_n HRI.out.symm)
  have HOL := Lib.hid (newL_ok HRI.out.symm)
  have HOM := Lib.hid (newM_ok HRI.out.symm)
  have hr8 : rs.length ≤ 8 := HRN.out.1
  have hn25 : (chansOf c.rows).length ≤ 2500 := HN25.out
  have hn0 : 0 < (chansOf c.rows).length := HRN.out.2.2.2.1
  have hst : 1 ≤ c.St ∧ c.St ≤ 1000 := ⟨HRN.out.2.1, HRN.out.2.2.1⟩
  obtain ⟨N, HNE⟩ : ∃ N, RowKit.Hid (N = (chansOf c.rows).length) := ⟨_, Lib.hid rfl⟩
  have HOL2 := Lib.hid (show ∀ x ∈ newL rs, x.ok N by rw [HNE.out]; exact HOL.out)
  have HOM2 := Lib.hid (show ∀ x ∈ newM c, x.ok N by rw [HNE.out]; exact HOM.out)
  have HML := Lib.hid (show (newM c).length = N by rw [newM_len, HNE.out])
  have hN25 : N ≤ 2500 := by rw [HNE.out]; exact hn25
  have hN0 : 0 < N := by rw [HNE.out]; exact hn0
  clear HOL HOM hn25 hn0
  by_cases hr0 : rs.length = 0
  · have gr : ((rs.length : Int) == 0) = true := by rw [hr0]; rfl
    have gr2 : decide ((rs.length : Int) = 0) = true := decide_eq_true (by omega)
    clear hr0
    go_wp2
    go_ret
    exact ⟨by first | rfl | simp, HB6.out⟩
  have gr : ((rs.length : Int) == 0) = false := by rw [beq_eq_false_iff_ne]; omega
  have gr3 : (rs.length == 0) = false := by rw [beq_eq_false_iff_ne]; exact hr0
  have gr2 : decide ((rs.length : Int) = 0) = false := decide_eq_false (by omega)
  go_wp2_with fail
  refine (rmany_any _ c _ (HC.out.conf.below HB6.out) (Nat.le_trans HN25.out (by decide))).mono ?_
  rintro e W7 ⟨rfl, hk⟩
  (try clear cQ); (try clear lQ)
  have HB7 := Lib.hid (Btrans HB6.out hk)
  have HQ7 := Lib.hid (HQ6.out.below hk)
  clear hk HB6 HQ6
  have cQ := HQ7.out.cells
  have lQ := HQ7.out.lt
  rw [← HNE.out]
  obtain ⟨kr, HK⟩ : ∃ k : Nat, RowKit.Hid (wh % (rs.length : Int) = (k : Int) ∧ k < rs.length) := ⟨(wh % (rs.length : Int)).toNat, Lib.hid ⟨by have := Int.emod_nonneg wh (show (rs.length : Int) ≠ 0 by omega); omega, by have := Int.emod_lt_of_pos wh (show (0 : Int) < (rs.length : Int) by omega); have := Int.emod_nonneg wh (show (rs.length : Int) ≠ 0 by omega); omega⟩⟩
  have hNz : (rs.length : Int) ≠ 0 := by omega
  have hkr : kr < rs.length := HK.out.2
  have hkri : (kr : Int) < (rs.length : Int) := by omega
  obtain ⟨r, hr⟩ : ∃ r, rs[kr]? = some r := ⟨_, List.getElem?_eq_getElem hkr⟩
  obtain ⟨rad, rfl, hrad, e0, e1, e2⟩ := rowR_at HRR.out hr
  have hrb : (rad.add (kr * 3)).block < w.heap.size := by rw [block_add]; exact hrad
  have r0 : W7.cell? (rad.add (kr * 3)) = some (.slice r.A r.l.length r.rc) := by rw [HB7.out.cell hrb]; exact e0
  have r1 : W7.cell? ⟨(rad.add (kr * 3)).block, (rad.add (kr * 3)).off + 1, none⟩ = some (.int .i64 r.hold) := by rw [HB7.out.cell (p := ⟨(rad.add (kr * 3)).block, (rad.add (kr * 3)).off + 1, none⟩) hrb]; exact e1
  have r2 : W7.cell? ⟨(rad.add (kr * 3)).block, (rad.add (kr * 3)).off + 2, none⟩ = some (.bool r.latch) := by rw [HB7.out.cell (p := ⟨(rad.add (kr * 3)).block, (rad.add (kr * 3)).off + 2, none⟩) hrb]; exact e2
  have HRK := Lib.hid hr
  have HRU := Lib.hid (show ruleB r.hold r.l (N : Int) = true by rw [HNE.out]; exact HRN.out.2.2.2.2 r (List.mem_of_getElem? hr))
  have HRU2 := Lib.hid (rule_h HRU.out)
  have HTS := Lib.hid (HTT.out r (List.mem_of_getElem? hr))
  have hl16 : r.l.length ≤ 100 := by have := HRU2.out.2.2.1; omega
  have HPOS := Lib.hid (chO_pos HRU.out)
  have hpos : 0 < (chO r.l).length := HPOS.out
  have hch16 := chO_len r.l
  clear hr e0 e1 e2
  have hkeq : wh % (rs.length : Int) = (kr : Int) := HK.out.1
  go_wp2_with fail
  refine (rule_channels_any _ r.hold r.latch r.l _ ⟨r.A, r.rc, rfl, HTS.out.below HB7.out⟩ hl16).mono ?_
  rintro e W8 ⟨LA, lc, rfl, hch, hk⟩
  have HBZ := Lib.hid (Btrans HB7.out hk)
  have HQ8 := Lib.hid (HQ7.out.below hk)
  have HLrow := Lib.hid (show Row W8 (.slice LA (chO r.l).length lc) ((chO r.l).map (.int .i64)) from Row.of_own hch)
  obtain ⟨ch0, hch0⟩ : ∃ ch, (chO r.l)[0]? = some ch := ⟨_, List.getElem?_eq_getElem hpos⟩
  obtain ⟨ld, lc2, e1, _, _⟩ := HLrow.out.at_new (show ((chO r.l).map (Value.int .i64))[0]? = some (.int .i64 ch0) by rw [List.getElem?_map, hch0]; rfl)
  obtain ⟨rfl, -⟩ : LA = some ld ∧ True := by injection e1 with e1; exact ⟨e1, trivial⟩
  have HLC := Lib.hid (show ∀ t ch, (chO r.l)[t]? = some ch → (ld.add t).block < W8.heap.size ∧ W8.cell? (ld.add t) = some (.int .i64 ch) from fun t ch ht => by
    obtain ⟨ld2, lc3, e1, hcl, _⟩ := HLrow.out.at_new (show ((chO r.l).map (Value.int .i64))[t]? = some (.int .i64 ch) by rw [List.getElem?_map, ht]; rfl)
    obtain ⟨rfl, -⟩ : ld = ld2 ∧ True := by injection e1 with e1; injection e1 with e1; exact ⟨e1, trivial⟩
    exact ⟨lt_of_cell hcl, hcl⟩)
  clear hch hk e1 hch0 HLrow r0 r1 r2 cQ lQ HB7 HQ7
  rw [hkeq]
  clear hkeq
  obtain ⟨wz, hwz⟩ : ∃ x, x = w := ⟨w, rfl⟩
  subst hwz
  obtain ⟨w, hw⟩ : ∃ x, x = W8 := ⟨W8, rfl⟩
  subst hw
  have HCW := Lib.hid (HC.out.below HBZ.out)
  have OXRw := Lib.hid (OXR.out.below HBZ.out)
  have OYRw := Lib.hid (OYR.out.below HBZ.out)
  have OXTw := Lib.hid (show ∀ o ∈ l, RowN 3 w (.slice o.A o.cs.length o.cc) o.cs.length (c3c o.cs) from fun o ho => (OXT.out o ho).below HBZ.out)
  have OYTw := Lib.hid (show ∀ o ∈ m, RowN 3 w (.slice o.A o.cs.length o.cc) o.cs.length (c3c o.cs) from fun o ho => (OYT.out o ho).below HBZ.out)
  have hzw : wz.heap.size < w.heap.size := HQ8.out.lt
  clear HC OXR OYR OXT OYT OXV OYV
  have cQ := HQ8.out.cells
  have lQ := HQ8.out.lt
  go_wp2_with fail
  refine (SS.new w _ _ c rs HCW.out (Below.refl _ _) (Nat.le_trans HN25.out (by decide)) (by omega)).mono ?_
  rintro e W9 ⟨pb, rfl, hS, hk⟩
  obtain ⟨lo, hi, hlo, hwlo, hS, hlh, hle⟩ : ∃ lo hi, wz.heap.size < lo ∧ w.heap.size ≤ lo ∧ SS w W9 lo hi pb (newL rs) (newM c) ∧ w.heap.size = lo ∧ W9.heap.size = hi := ⟨_, _, hzw, Nat.le_refl _, hS, rfl, rfl⟩
  have HB9 := Lib.hid hk
  have HQ9 := Lib.hid (HQ8.out.below hk)
  have HS9 := Lib.hid hS
  have hz9 := hk.size
  clear hS hk HQ8 cQ lQ
  have cQ := HQ9.out.cells
  have lQ := HQ9.out.lt
  go_wp2_with fail
  refine (SS.new w _ _ c rs HCW.out HB9.out (Nat.le_trans HN25.out (by decide)) (by omega)).mono ?_
  rintro e W10 ⟨pb2, rfl, hS, hk⟩
  obtain ⟨lo2, hi2, hlo2, hwlo2, hS, hlh2, hle2⟩ : ∃ lo hi, wz.heap.size < lo ∧ w.heap.size ≤ lo ∧ SS w W10 lo hi pb2 (newL rs) (newM c) ∧ W9.heap.size = lo ∧ W10.heap.size = hi := ⟨_, _, Nat.lt_of_lt_of_le hzw hz9, hz9, hS, rfl, rfl⟩
  have HB10 := Lib.hid (HB9.out.trans (hk.mono hz9))
  have HQ10 := Lib.hid (HQ9.out.below hk)
  have HS10 := Lib.hid (HS9.out.below hk)
  have HS210 := Lib.hid hS
  have hdis : hi ≤ lo2 := by rw [← hlh2, ← hle]; exact Nat.le_refl _
  clear hS hk HQ9 HB9 HS9 cQ lQ hlh hle hlh2 hle2 hz9
  have cQ := HQ10.out.cells
  have lQ := HQ10.out.lt
  have hl60 : l.length ≤ 60 := by
    have h := HGO0.out
    unfold greatO at h
    have h2 := (Bool.or_eq_false_iff.1 h.symm).1
    simpa using h2
  go_wp2_with fail
  go_loopw [15] (fun i wr => ∃ j : Nat, j ≤ l.length ∧ i = .int .i64 j ∧ Below w.heap.size w wr ∧ Blk wr wz.heap.size 25 #[.int .i64 c.P, .int .i64 c.H, .int .i64 c.C, .int .i64 c.Mn, .int .i64 c.Mx, .int .i64 c.Rho, .int .i64 c.Bd, .int .i64 c.Win, .int .i64 c.St, .slice sA sn scap, .slice (some rad) rs.length rc] ∧ ∃ L M L2 M2, SS w wr lo hi pb L M ∧ SS w wr lo2 hi2 pb2 L2 M2 ∧ (∀ x ∈ L, x.ok N) ∧ (∀ x ∈ M, x.ok N) ∧ (∀ x ∈ L2, x.ok N) ∧ (∀ x ∈ M2, x.ok N) ∧ M.length = N ∧ M2.length = N ∧ L.length = rs.length ∧ L2.length = rs.length ∧ Src rs L ∧ L[kr]? = L2[kr]?) (fun i _ => l.length - (intOf i).toNat)
  case atStart => exact ⟨0, by omega, rfl, HB10.out, HQ10.out, _, _, _, _, HS10.out, HS210.out, HOL2.out, HOM2.out, HOL2.out, HOM2.out, HML.out, HML.out, newL_len rs, newL_len rs, Src.new rs, rfl⟩
  case round =>
    clear cQ lQ HB10 HQ10 HS10 HS210
    obtain ⟨j, hj, rfl, hb, hq, L, M, L2, M2, hS, hS2, hL, hM, hL2, hM2, hMl, hMl2, hLl, hLl2, hSr, hat⟩ := hrel
    have HB20 := Lib.hid hb
    have HQ20 := Lib.hid hq
    have Sa20 := Lib.hid hS
    have Sb20 := Lib.hid hS2
    have HLr := Lib.hid hL
    have HMr := Lib.hid hM
    have HL2r := Lib.hid hL2
    have HM2r := Lib.hid hM2
    have HMl := Lib.hid hMl
    have HMl2 := Lib.hid hMl2
    have HLl := Lib.hid hLl
    have HLl2 := Lib.hid hLl2
    have HSr := Lib.hid hSr
    have HAT := Lib.hid hat
    have hwz2 := HBZ.out.size
    clear hb hq hS hS2 hL hM hL2 hM2 hMl hMl2 hLl hLl2 hSr hat
    by_cases hlt : j < l.length
    · obtain ⟨o, ho⟩ : ∃ o, l[j]? = some o := ⟨_, List.getElem?_eq_getElem hlt⟩
      obtain ⟨oad, rfl, hoad, o0, o1, o2⟩ := rowO_at OXRw.out ho
      have HOM_ := Lib.hid (List.mem_of_getElem? ho)
      have HOP := Lib.hid (show ∀ W, Below w.heap.size w W → W.cell? (oad.add (j * 3)) = some (.int .i64 o.R) ∧ W.cell? ⟨(oad.add (j * 3)).block, (oad.add (j * 3)).off + 1, none⟩ = some (.int .i64 o.C) ∧ W.cell? ⟨(oad.add (j * 3)).block, (oad.add (j * 3)).off + 2, none⟩ = some (.slice o.A o.cs.length o.cc) from fun W hb => ⟨by rw [hb.cell (by rw [block_add]; exact hoad)]; exact o0, by rw [hb.cell (by show (oad.add (j * 3)).block < _; rw [block_add]; exact hoad)]; exact o1, by rw [hb.cell (by show (oad.add (j * 3)).block < _; rw [block_add]; exact hoad)]; exact o2⟩)
      have HCR := Lib.hid (OXTw.out o HOM_.out)
      have hjl : (j : Int) < (l.length : Int) := by omega
      clear o0 o1 o2 hoad ho
      obtain ⟨oc0, oc1, oc2⟩ := HOP.out _ HB20.out
      have cQ := HQ20.out.cells
      have lQ := HQ20.out.lt
      by_cases hltm : j < m.length
      · obtain ⟨q, hq_⟩ : ∃ q, m[j]? = some q := ⟨_, List.getElem?_eq_getElem hltm⟩
        obtain ⟨qad, rfl, hqad, q0, q1, q2⟩ := rowO_at OYRw.out hq_
        have HQM_ := Lib.hid (List.mem_of_getElem? hq_)
        have HQP := Lib.hid (show ∀ W, Below w.heap.size w W → W.cell? (qad.add (j * 3)) = some (.int .i64 q.R) ∧ W.cell? ⟨(qad.add (j * 3)).block, (qad.add (j * 3)).off + 1, none⟩ = some (.int .i64 q.C) ∧ W.cell? ⟨(qad.add (j * 3)).block, (qad.add (j * 3)).off + 2, none⟩ = some (.slice q.A q.cs.length q.cc) from fun W hb => ⟨by rw [hb.cell (by rw [block_add]; exact hqad)]; exact q0, by rw [hb.cell (by show (qad.add (j * 3)).block < _; rw [block_add]; exact hqad)]; exact q1, by rw [hb.cell (by show (qad.add (j * 3)).block < _; rw [block_add]; exact hqad)]; exact q2⟩)
        have HDR := Lib.hid (OYTw.out q HQM_.out)
        have hjm : (j : Int) < (m.length : Int) := by omega
        clear q0 q1 q2 hqad hq_
        obtain ⟨qc0, qc1, qc2⟩ := HQP.out _ HB20.out
        have gmm : decide ((j : Int) < (m.length : Int)) = true := decide_eq_true (by omega)
        by_cases hcn : o.cs.length = N
        · have gn : decide ((o.cs.length : Int) ≠ (N : Int)) = false := decide_eq_false (by omega)
          have gn3 : ((o.cs.length : Int) != (N : Int)) = false := by simp; omega
          have gn5 : (o.cs.length != N) = false := by simp; omega
          have gn6 : ((o.cs.length : Int) == (N : Int)) = true := by simp; omega
          have gn7 : (o.cs.length == N) = true := by simp; omega
          have HCNE := Lib.hid hcn
          have hclo : o.cs.length ≤ N ∧ N ≤ o.cs.length := by omega
          clear hcn
          by_cases hdn : q.cs.length = N
          · have gm : decide ((q.cs.length : Int) ≠ (N : Int)) = false := decide_eq_false (by omega)
            have gm3 : ((q.cs.length : Int) != (N : Int)) = false := by simp; omega
            have gm5 : (q.cs.length != N) = false := by simp; omega
            have gm6 : ((q.cs.length : Int) == (N : Int)) = true := by simp; omega
            have gm7 : (q.cs.length == N) = true := by simp; omega
            have HDNE := Lib.hid hdn
            have hclq : q.cs.length ≤ N ∧ N ≤ q.cs.length := by omega
            clear hdn
            have gp1 : (((chO r.l).length : Int) == 0) = false := by rw [beq_eq_false_iff_ne]; omega
            have gp2 : ((chO r.l).length == 0) = false := by rw [beq_eq_false_iff_ne]; omega
            obtain ⟨u0, hu0⟩ : ∃ u, u = wr := ⟨wr, rfl⟩
            subst hu0
            have htop := Sb20.out.top.1
            have htop2 := Sb20.out.top.2.1
            obtain ⟨x0, hx0⟩ : ∃ x, o.cs[0]? = some x := ⟨_, List.getElem?_eq_getElem (by have := HCNE.out; omega)⟩
            obtain ⟨cad, hcA, hcad, _, _, _⟩ := row3_at HCR.out hx0
            rw [hcA] at HOP HCR oc2
            have HCE := Lib.hid (show ∀ m a, o.cs[m]? = some a → w.cell? (cad.add (m * 3)) = some (.int .i64 a.1) ∧ w.cell? ⟨(cad.add (m * 3)).block, (cad.add (m * 3)).off + 1, none⟩ = some (.int .i64 a.2.1) ∧ w.cell? ⟨(cad.add (m * 3)).block, (cad.add (m * 3)).off + 2, none⟩ = some (.int .i64 a.2.2) from fun m a ha => by
              obtain ⟨ad, e, _, h1, h2, h3⟩ := row3_at HCR.out ha
              injection e with e
              subst e
              exact ⟨h1, h2, h3⟩)
            obtain ⟨hqcap, hqcm⟩ := HDR.out.caps
            unfold maxLen at hqcm
            have HTRo := Lib.hid (show ∀ t ∈ r.l, tRight t (o.cs.length : Int) = true by rw [HCNE.out]; exact HRU2.out.2.2.2.1)
            have HUP := Lib.hid (upd_all (cs := o.cs) (ms := q.cs) HTRo.out (by rw [HCNE.out, HDNE.out]))
            have qa2 : ∀ o, (u0.alloc o).cell? ⟨(qad.add (j * 3)).block, (qad.add (j * 3)).off + 2, none⟩ = some (.slice q.A q.cs.length q.cc) := fun o => (HQP.out _ (Btrans HB20.out ((Below.refl _ _).alloc (Nat.le_refl _) o))).2.2
            clear hx0
            go_wp2_with (at_builtin; refine wpList_appN elC rfl (.tmp 99) (.tmp 104) rfl u0.heap.size _ 0 [] rfl (own_emptyN _ _ _ _ _ (Nat.le_refl _) rfl) _ q.cs.length (c3c q.cs) rfl ((HDR.out.below HB20.out).below ((Below.refl _ _).alloc (Nat.le_refl _) _)) (c3_one _) (by unfold maxLen; omega) (by omega) (by simp) ?_)
            intro v5 WA hO5 hg5 _
            have hbA : Below u0.heap.size u0 WA := below_app ((Below.refl u0.heap.size u0).alloc (Nat.le_refl _) _) (by simp) (own_emptyN _ _ _ 3 _ (Nat.le_refl _) rfl) hg5 (Nat.le_refl _)
            first | rw [Nat.zero_add, List.nil_append] at hO5 | skip
            obtain ⟨hln, hO6⟩ := hO5
            rcases hO6 with ⟨_, h0⟩ | ⟨g, mc, cur0, rfl, hlog, hg0, hmc, hmm, _, htk0⟩
            · omega
            have HCUR0 := Lib.hid (show Blk WA g 55 cur0 from hg0)
            have HTK0 := Lib.hid htk0
            have HBA := Lib.hid hbA
            clear qa2 hln hg0 htk0 hg5 hbA oc0 oc1 oc2 qc0 qc1 qc2 cQ lQ
            have cQ := (HQ20.out.below HBA.out).cells
            have lQ := (HQ20.out.below HBA.out).lt
            obtain ⟨oc0, oc1, oc2⟩ := HOP.out _ (Btrans HB20.out HBA.out)
            obtain ⟨qc0, qc1, qc2⟩ := HQP.out _ (Btrans HB20.out HBA.out)
            go_wp2_with fail
            go_loopw [17] (fun i wk => ∃ t : Nat, t ≤ (chO r.l).length ∧ i = .int .i64 t ∧ Below u0.heap.size u0 wk ∧ ∃ cur, Blk wk g 55 cur ∧ cur.toList.take (q.cs.length * 3) = c3c (mAft o.cs q.cs ((chO r.l).take t))) (fun i _ => (chO r.l).length - (intOf i).toNat)
            case atStart => exact ⟨0, by omega, rfl, HBA.out, cur0, HCUR0.out, HTK0.out⟩
            case round =>
              clear oc0 oc1 oc2 qc0 qc1 qc2 cQ lQ
              obtain ⟨t, ht, rfl, hbj, cur, hcur, htk⟩ := hrel
              have HTK := Lib.hid htk
              have HBJ := Lib.hid hbj
              have HQ := Lib.hid hcur
              clear htk hbj hcur
              by_cases htl : t < (chO r.l).length
              · obtain ⟨ch, hch⟩ : ∃ ch, (chO r.l)[t]? = some ch := ⟨_, List.getElem?_eq_getElem htl⟩
                obtain ⟨hc0, hcN⟩ := chO_in HTRo.out (List.mem_of_getElem? hch)
                obtain ⟨k, rfl⟩ : ∃ k : Nat, ch = (k : Int) := ⟨ch.toNat, by omega⟩
                obtain ⟨lld, hcl⟩ := HLC.out t _ hch
                obtain ⟨a, ha⟩ : ∃ a, o.cs[k]? = some a := ⟨_, List.getElem?_eq_getElem (by omega)⟩
                obtain ⟨e0, e1, e2⟩ := HCE.out k a ha
                have hcl0 : (cad.add (k * 3)).block < w.heap.size := by rw [block_add]; exact hcad
                have dL : ∀ w', Below u0.heap.size u0 w' → w'.cell? (ld.add t) = some (.int .i64 (k : Int)) := fun w' hb => ((Btrans HB20.out hb).cell lld).trans hcl
                have dO : ∀ w', Below u0.heap.size u0 w' → w'.cell? ⟨(oad.add (j * 3)).block, (oad.add (j * 3)).off + 2, none⟩ = some (.slice (some cad) o.cs.length o.cc) := fun w' hb => (HOP.out w' (Btrans HB20.out hb)).2.2
                have d0 : ∀ w', Below u0.heap.size u0 w' → w'.cell? (cad.add (k * 3)) = some (.int .i64 a.1) := fun w' hb => ((Btrans HB20.out hb).cell hcl0).trans e0
                have d1 : ∀ w', Below u0.heap.size u0 w' → w'.cell? ⟨(cad.add (k * 3)).block, (cad.add (k * 3)).off + 1, none⟩ = some (.int .i64 a.2.1) := fun w' hb => ((Btrans HB20.out hb).cell (p := ⟨(cad.add (k * 3)).block, (cad.add (k * 3)).off + 1, none⟩) hcl0).trans e1
                have d2 : ∀ w', Below u0.heap.size u0 w' → w'.cell? ⟨(cad.add (k * 3)).block, (cad.add (k * 3)).off + 2, none⟩ = some (.int .i64 a.2.2) := fun w' hb => ((Btrans HB20.out hb).cell (p := ⟨(cad.add (k * 3)).block, (cad.add (k * 3)).off + 2, none⟩) hcl0).trans e2
                have gtl : (t : Int) < ((chO r.l).length : Int) := by omega
                have gk0 : decide ((k : Int) < 0) = false := decide_eq_false (by omega)
                have gkn : decide ((k : Int) ≥ (N : Int)) = false := decide_eq_false (by omega)
                have gkn3 : decide (N ≤ k) = false := decide_eq_false (by omega)
                have gko : (k : Int) < (o.cs.length : Int) := by omega
                have gkq : (k : Int) < (q.cs.length : Int) := by omega
                have hkm : k < q.cs.length := by omega
                have HCH := Lib.hid hch
                have HAK := Lib.hid ha
                have hLw := dL _ HBJ.out
                clear hcl e0 e1 e2 hch ha
                go_wp2_with fail
                refine wp_region_held_drew (S := fun w' => Below u0.heap.size u0 w') (by kernel_rfl) (HBJ.out.drew) (fun hHeld => ?_)
                refine takeD 0 (some 125) (v := ?_) rfl rfl (by kernel_rfl) (by kernel_rfl) (by kernel_rfl) (fun _ _ _ h => h) (by rfl) ?_ (by assumption) ?_
                rotate_left
                · intro w hSw
                  (try dsimp only at hSw)
                  go_simp
                  try with_reducible rfl
                try simp only [Act.put, List.setIfInBounds_toArray, List.set_cons_zero, List.set_cons_succ]
                refine takeD 1 (some 126) (v := ?_) rfl rfl (by kernel_rfl) (by kernel_rfl) (by kernel_rfl) (fun _ _ _ h => h) (by rfl) ?_ (by assumption) ?_
                rotate_left
                · intro w hSw
                  (try dsimp only at hSw)
                  go_simp
                  try with_reducible rfl
                try simp only [Act.put, List.setIfInBounds_toArray, List.set_cons_zero, List.set_cons_succ]
                refine takeD 2 (some 127) (v := ?_) rfl rfl (by kernel_rfl) (by kernel_rfl) (by kernel_rfl) (fun _ _ _ h => h) (by rfl) ?_ (by assumption) ?_
                rotate_left
                · intro w hSw
                  (try dsimp only at hSw)
                  go_simp
                  try with_reducible rfl
                try simp only [Act.put, List.setIfInBounds_toArray, List.set_cons_zero, List.set_cons_succ]
                refine takeD 3 (some 128) (v := ?_) rfl rfl (by kernel_rfl) (by kernel_rfl) (by kernel_rfl) (fun _ _ _ h => h) (by rfl) ?_ (by assumption) ?_
                rotate_left
                · intro w hSw
                  (try dsimp only at hSw)
                  go_simp
                  try with_reducible rfl
                try simp only [Act.put, List.setIfInBounds_toArray, List.set_cons_zero, List.set_cons_succ]
                refine takeD 4 (some 129) (v := ?_) rfl rfl (by kernel_rfl) (by kernel_rfl) (by kernel_rfl) (fun _ _ _ h => h) (by rfl) ?_ (by assumption) ?_
                rotate_left
                · intro w hSw
                  (try dsimp only at hSw)
                  go_simp
                  try with_reducible rfl
                try simp only [Act.put, List.setIfInBounds_toArray, List.set_cons_zero, List.set_cons_succ]
                refine takeD 5 (some 130) (v := ?_) rfl rfl (by kernel_rfl) (by kernel_rfl) (by kernel_rfl) (fun _ _ _ h => h) (by rfl) ?_ (by assumption) ?_
                rotate_left
                · intro w hSw
                  (try dsimp only at hSw)
                  go_simp
                  try with_reducible rfl
                try simp only [Act.put, List.setIfInBounds_toArray, List.set_cons_zero, List.set_cons_succ]
                refine takeD 6 (some 131) (v := ?_) rfl rfl (by kernel_rfl) (by kernel_rfl) (by kernel_rfl) (fun _ _ _ h => h) (by rfl) ?_ (by assumption) ?_
                rotate_left
                · intro w hSw
                  (try dsimp only at hSw)
                  go_simp
                  try with_reducible rfl
                try simp only [Act.put, List.setIfInBounds_toArray, List.set_cons_zero, List.set_cons_succ]
                refine takeD 7 (some 132) (v := ?_) rfl rfl (by kernel_rfl) (by kernel_rfl) (by kernel_rfl) (fun _ _ _ h => h) (by rfl) ?_ (by assumption) ?_
                rotate_left
                · intro w hSw
                  (try dsimp only at hSw)
                  go_simp
                  try with_reducible rfl
                try simp only [Act.put, List.setIfInBounds_toArray, List.set_cons_zero, List.set_cons_succ]
                refine takeD 8 (some 133) (v := ?_) rfl rfl (by kernel_rfl) (by kernel_rfl) (by kernel_rfl) (fun _ _ _ h => h) (by rfl) ?_ (by assumption) ?_
                rotate_left
                · intro w hSw
                  (try dsimp only at hSw)
                  go_simp
                  try with_reducible rfl
                try simp only [Act.put, List.setIfInBounds_toArray, List.set_cons_zero, List.set_cons_succ]
                refine takeD 9 (some 134) (v := ?_) rfl rfl (by kernel_rfl) (by kernel_rfl) (by kernel_rfl) (fun _ _ _ h => h) (by rfl) ?_ (by assumption) ?_
                rotate_left
                · intro w hSw
                  (try dsimp only at hSw)
                  go_simp
                  try with_reducible rfl
                try simp only [Act.put, List.setIfInBounds_toArray, List.set_cons_zero, List.set_cons_succ]
                refine takeD 10 (some 135) (v := ?_) rfl rfl (by kernel_rfl) (by kernel_rfl) (by kernel_rfl) (fun _ _ _ h => h) (by rfl) ?_ (by assumption) ?_
                rotate_left
                · intro w hSw
                  (try dsimp only at hSw)
                  go_simp
                  try with_reducible rfl
                try simp only [Act.put, List.setIfInBounds_toArray, List.set_cons_zero, List.set_cons_succ]
                refine takeD 11 (some 136) (v := ?_) rfl rfl (by kernel_rfl) (by kernel_rfl) (by kernel_rfl) (fun _ _ _ h => h) (by rfl) ?_ (by assumption) ?_
                rotate_left
                · intro w hSw
                  (try dsimp only at hSw)
                  go_simp
                  try with_reducible rfl
                try simp only [Act.put, List.setIfInBounds_toArray, List.set_cons_zero, List.set_cons_succ]
                refine takeD 12 (some 137) (v := ?_) rfl rfl (by kernel_rfl) (by kernel_rfl) (by kernel_rfl) (fun _ _ _ h => h) (by rfl) ?_ (by assumption) ?_
                rotate_left
                · intro w hSw
                  (try dsimp only at hSw)
                  go_simp
                  try with_reducible rfl
                try simp only [Act.put, List.setIfInBounds_toArray, List.set_cons_zero, List.set_cons_succ]
                refine takeD 13 (some 138) (v := ?_) rfl rfl (by kernel_rfl) (by kernel_rfl) (by kernel_rfl) (fun _ _ _ h => h) (by rfl) ?_ (by assumption) ?_
                rotate_left
                · intro w hSw
                  (try dsimp only at hSw)
                  go_simp
                  try with_reducible rfl
                try simp only [Act.put, List.setIfInBounds_toArray, List.set_cons_zero, List.set_cons_succ]
                refine takeD 14 (some 139) (v := ?_) rfl rfl (by kernel_rfl) (by kernel_rfl) (by kernel_rfl) (fun _ _ _ h => h) (by rfl) ?_ (by assumption) ?_
                rotate_left
                · intro w hSw
                  (try dsimp only at hSw)
                  go_simp
                  try with_reducible rfl
                try simp only [Act.put, List.setIfInBounds_toArray, List.set_cons_zero, List.set_cons_succ]
                refine takeD 15 (some 140) (v := ?_) rfl rfl (by kernel_rfl) (by kernel_rfl) (by kernel_rfl) (fun _ _ _ h => h) (by rfl) ?_ (by assumption) ?_
                rotate_left
                · intro w hSw
                  (try dsimp only at hSw)
                  go_simp
                  try with_reducible rfl
                try simp only [Act.put, List.setIfInBounds_toArray, List.set_cons_zero, List.set_cons_succ]
                refine takeD 16 (some 141) (v := ?_) rfl rfl (by kernel_rfl) (by kernel_rfl) (by kernel_rfl) (fun _ _ _ h => h) (by rfl) ?_ (by assumption) ?_
                rotate_left
                · intro w hSw
                  (try dsimp only at hSw)
                  go_simp
                  try with_reducible rfl
                try simp only [Act.put, List.setIfInBounds_toArray, List.set_cons_zero, List.set_cons_succ]
                refine wpAnyH_ready (rs := [17]) (by kernel_rfl) (by simp) ?_
                refine AllReadyH.cons rfl (fun K hK => ?_) AllReadyH.nil
                rw [if_pos (by rfl)]
                have hsz : k * 3 + 2 < cur.size := curLt HTK.out (by rw [mAft_len]) hkm
                have HD0 := Lib.hid HQ.out
                have HD1 := Lib.hid (HD0.out.set (k * 3) (.int .i64 a.1))
                have HD2 := Lib.hid (HD1.out.set (k * 3 + 1) (.int .i64 a.2.1))
                have HD3 := Lib.hid (HD2.out.set (k * 3 + 2) (.int .i64 a.2.2))
                obtain ⟨v0, s0⟩ := HD0.out.some_ (j := k * 3) (by omega)
                obtain ⟨v1, s1⟩ := HD1.out.some_ (j := k * 3 + 1) (by simp; omega)
                obtain ⟨v2, s2⟩ := HD2.out.some_ (j := k * 3 + 2) (by simp; omega)
                have f0 := HD0.out.froz (k * 3)
                have f1 := HD1.out.froz (k * 3 + 1)
                have f2 := HD2.out.froz (k * 3 + 2)
                go_simp
                clear s0 s1 s2 f0 f1 f2 HD0 HD1 HD2
                have hS : Below u0.heap.size u0 _ := (((HBJ.out.setCell (p := ⟨g, k * 3, none⟩) hlog (.int .i64 a.1)).setCell (p := ⟨g, k * 3 + 1, none⟩) hlog (.int .i64 a.2.1)).setCell (p := ⟨g, k * 3 + 2, none⟩) hlog (.int .i64 a.2.2)).drew
                refine hK.out _ _ ?_ (fun hHeld2 => ?_)
                · clear hK; exact hS
                clear hK K hHeld hS
                have hHeld := hHeld2
                clear hHeld2
                try simp only [Act.put, List.setIfInBounds_toArray, List.set_cons_zero, List.set_cons_succ]
                refine wpAnyH_done (by kernel_rfl) ?_ _
                refine nameV (fun W => Below u0.heap.size u0 W ∧ Blk W g 55 (((cur.setIfInBounds (k * 3) (.int .i64 a.1)).setIfInBounds (k * 3 + 1) (.int .i64 a.2.1)).setIfInBounds (k * 3 + 2) (.int .i64 a.2.2))) ⟨hHeld, HD3.out.drw⟩ fun W6 ⟨hb6, hq6⟩ => ?_
                have HQ6 := Lib.hid hq6
                have HB6 := Lib.hid hb6
                clear hHeld hb6 hq6 dL dO d0 d1 d2 HD3 hLw
                go_wp2
                go_roundw
                case rel => exact ⟨t + 1, by omega, by go_num, HB6.out, _, HQ6.out, by rw [mAft_step HCH.out HAK.out]; exact stepM HTK.out a.1 a.2.1 a.2.2⟩
                case measure => simp [intOf]; omega
              · obtain rfl : t = (chO r.l).length := by omega
                have HB21 := Lib.hid (Btrans HB20.out HBJ.out)
                have HQ21 := Lib.hid (HQ20.out.below HBJ.out)
                have Sa21 := Lib.hid (Sa20.out.below HBJ.out)
                have Sb21 := Lib.hid (Sb20.out.below HBJ.out)
                have HMX21 := Lib.hid (show RowN 3 wr (.slice (some ⟨g, 0, none⟩) q.cs.length mc) q.cs.length (c3c (mAft o.cs q.cs (chO r.l))) from RowN.of_blk HQ.out (by have := HTK.out; rw [List.take_length] at this; exact this) (by rw [c3c_len, mAft_len]) hmc hmm)
                clear HB20 HQ20 Sa20 Sb20 HBJ HQ HTK
                obtain ⟨oc0, oc1, oc2⟩ := HOP.out _ HB21.out
                have cQ := HQ21.out.cells
                have lQ := HQ21.out.lt
                obtain ⟨qc0, qc1, qc2⟩ := HQP.out _ HB21.out
                by_cases hR : o.R = (kr : Int)
                · have gR : (o.R == (kr : Int)) = true := by rw [beq_iff_eq]; exact hR
                  clear hR
                  go_wp2_with fail
                  refine (SS.ackR (kr : Int) Sa21.out (by rw [HLl.out]; omega)).mono ?_
                  rintro e W22 ⟨rfl, hs, fr⟩
                  (try clear cQ); (try clear lQ); (try clear oc0); (try clear oc1); (try clear oc2)
                  (try clear qc0); (try clear qc1); (try clear qc2)
                  have HB22 := Lib.hid (fr.below HB21.out (Nat.le_refl _) hwlo)
                  have HQ22 := Lib.hid (HQ21.out.fr fr (.inl hlo))
                  have Sb22 := Lib.hid (Sb21.out.fr fr (.inl hdis))
                  clear HB21 HQ21 Sb21
                  have HMX22 := Lib.hid (HMX21.out.fr fr (fun ad n' c' e => by injection e with e; injection e with e; subst e; exact .inr (by show _ ≤ g; omega)))
                  clear HMX21
                  have Sa22 := Lib.hid hs
                  clear hs fr Sa21
                  obtain ⟨oc0, oc1, oc2⟩ := HOP.out _ HB22.out
                  have cQ := HQ22.out.cells
                  have lQ := HQ22.out.lt
                  obtain ⟨qc0, qc1, qc2⟩ := HQP.out _ HB22.out
                  go_wp2_with fail
                  refine (SS.ackR (kr : Int) Sb22.out (by rw [HLl2.out]; omega)).mono ?_
                  rintro e W23 ⟨rfl, hs, fr⟩
                  (try clear cQ); (try clear lQ); (try clear oc0); (try clear oc1); (try clear oc2)
                  (try clear qc0); (try clear qc1); (try clear qc2)
                  have HB23 := Lib.hid (fr.below HB22.out (Nat.le_refl _) hwlo2)
                  have HQ23 := Lib.hid (HQ22.out.fr fr (.inl hlo2))
                  have Sa23 := Lib.hid (Sa22.out.fr fr (.inr hdis))
                  clear HB22 HQ22 Sa22
                  have HMX23 := Lib.hid (HMX22.out.fr fr (fun ad n' c' e => by injection e with e; injection e with e; subst e; exact .inr (by show _ ≤ g; omega)))
                  clear HMX22
                  have Sb23 := Lib.hid hs
                  clear hs fr Sb22
                  obtain ⟨oc0, oc1, oc2⟩ := HOP.out _ HB23.out
                  have cQ := HQ23.out.cells
                  have lQ := HQ23.out.lt
                  obtain ⟨qc0, qc1, qc2⟩ := HQP.out _ HB23.out
                  have HATn := Lib.hid (ackL_same (n := (kr : Int)) (by rw [HLl.out, HLl2.out]) HAT.out)
                  go_wp2_with fail
                  refine (SS.ackC q.C Sb23.out (by rw [HMl2.out]; omega)).mono ?_
                  rintro e W24 ⟨rfl, hs, fr⟩
                  (try clear cQ); (try clear lQ); (try clear oc0); (try clear oc1); (try clear oc2)
                  (try clear qc0); (try clear qc1); (try clear qc2)
                  have HB24 := Lib.hid (fr.below HB23.out (Nat.le_refl _) hwlo2)
                  have HQ24 := Lib.hid (HQ23.out.fr fr (.inl hlo2))
                  have Sa24 := Lib.hid (Sa23.out.fr fr (.inr hdis))
                  clear HB23 HQ23 Sa23
                  have HMX24 := Lib.hid (HMX23.out.fr fr (fun ad n' c' e => by injection e with e; injection e with e; subst e; exact .inr (by show _ ≤ g; omega)))
                  clear HMX23
                  have Sb24 := Lib.hid hs
                  clear hs fr Sb23
                  obtain ⟨oc0, oc1, oc2⟩ := HOP.out _ HB24.out
                  have cQ := HQ24.out.cells
                  have lQ := HQ24.out.lt
                  obtain ⟨qc0, qc1, qc2⟩ := HQP.out _ HB24.out
                  go_wp2_with fail
                  have hz24 := Sb24.out.top.1
                  refine (SS.tick (some cad) o.cc o.cs Sa24.out (by rw [HCNE.out]; exact (ack_oks (kr : Int) HLr.out)) (by rw [HCNE.out]; exact HMr.out) (HCR.out.below HB24.out) (FrC.of HCR.out (by omega) hwlo) (by rw [HMl.out]; exact HCNE.out) HB24.out (by rw [ackL_len, HLl.out]; omega) (by rw [HMl.out]; omega)).mono ?_
                  rintro e W25 ⟨va, vb, rfl, ra, rb, hs, fr⟩
                  (try clear cQ); (try clear lQ); (try clear oc0); (try clear oc1); (try clear oc2)
                  (try clear qc0); (try clear qc1); (try clear qc2)
                  have HB25 := Lib.hid (fr.below HB24.out (Nat.le_refl _) hwlo)
                  have HQ25 := Lib.hid (HQ24.out.fr fr (.inl hlo))
                  have Sb25 := Lib.hid (Sb24.out.fr fr (.inl hdis))
                  clear HB24 HQ24 Sb24
                  have HMX25 := Lib.hid (HMX24.out.fr fr (fun ad n' c' e => by injection e with e; injection e with e; subst e; exact .inr (by show _ ≤ g; omega)))
                  clear HMX24
                  have Sa25 := Lib.hid hs
                  clear hs fr Sa24
                  have RA25 := Lib.hid ra
                  have RB25 := Lib.hid rb
                  clear ra rb
                  obtain ⟨oc0, oc1, oc2⟩ := HOP.out _ HB25.out
                  have cQ := HQ25.out.cells
                  have lQ := HQ25.out.lt
                  obtain ⟨qc0, qc1, qc2⟩ := HQP.out _ HB25.out
                  go_wp2_with fail
                  refine (SS.tickN (some ⟨g, 0, none⟩) mc (mAft o.cs q.cs (chO r.l)) q.cs.length (by rw [mAft_len]) Sb25.out (by rw [HDNE.out]; exact (ack_oks (kr : Int) HL2r.out)) (by rw [HDNE.out]; exact ack_oks q.C HM2r.out) HMX25.out (fun ad e => by injection e with e; subst e; exact .inr (by show hi2 ≤ g; omega)) (by rw [ackL_len, HMl2.out, HDNE.out]) HB25.out (by rw [ackL_len, HLl2.out]; omega) (by rw [ackL_len, HMl2.out]; omega)).mono ?_
                  rintro e W26 ⟨ua, ub, rfl, ra, rb, hs, fr⟩
                  (try clear cQ); (try clear lQ); (try clear oc0); (try clear oc1); (try clear oc2)
                  (try clear qc0); (try clear qc1); (try clear qc2)
                  have HB26 := Lib.hid (fr.below HB25.out (Nat.le_refl _) hwlo2)
                  have HQ26 := Lib.hid (HQ25.out.fr fr (.inl hlo2))
                  have Sa26 := Lib.hid (Sa25.out.fr fr (.inr hdis))
                  have RA26 := Lib.hid (RA25.out.fr fr hz24)
                  have RB26 := Lib.hid (RB25.out.fr fr hz24)
                  clear HB25 HQ25 Sa25 RA25 RB25
                  have Sb26 := Lib.hid hs
                  clear hs fr Sb25
                  have UA26 := Lib.hid ra
                  have UB26 := Lib.hid rb
                  clear ra rb
                  obtain ⟨oc0, oc1, oc2⟩ := HOP.out _ HB26.out
                  have cQ := HQ26.out.cells
                  have lQ := HQ26.out.lt
                  obtain ⟨qc0, qc1, qc2⟩ := HQP.out _ HB26.out
                  obtain ⟨x, hx, hxs⟩ := (HSr.out.ack (kr : Int)).at_ HRK.out
                  have hy : (ackL (kr : Int) L2)[kr]? = some x := by rw [← HATn.out]; exact hx
                  have hal : ((ackL (kr : Int) L).map fun x => (x.next o.cs).al)[kr]? = some ((x.next o.cs).al.1, (x.next o.cs).al.2) := by rw [List.getElem?_map, hx]; rfl
                  have hbl : ((ackL (kr : Int) L2).map fun x => (x.next (mAft o.cs q.cs (chO r.l))).al)[kr]? = some ((x.next o.cs).al.1, (x.next o.cs).al.2) := by rw [List.getElem?_map, hy, next_same hxs HUP.out.symm]; rfl
                  have HNX := Lib.hid (show ((ackL (kr : Int) L).map (Wt.next o.cs))[kr]? = ((ackL (kr : Int) L2).map (Wt.next (mAft o.cs q.cs (chO r.l))))[kr]? by rw [List.getElem?_map, List.getElem?_map, hx, hy]; exact congrArg some (next_same hxs HUP.out.symm))
                  have RA2 := Lib.hid (show RowN 2 W26 va rs.length _ by have := RA26.out.1; rw [ackL_len, HLl.out] at this; exact this)
                  have UA2 := Lib.hid (show RowN 2 W26 ua rs.length _ by have := UA26.out.1; rw [ackL_len, HLl2.out] at this; exact this)
                  have RB2 := Lib.hid (show RowN 2 W26 vb N _ by have := RB26.out.1; rw [HMl.out] at this; exact this)
                  have UB2 := Lib.hid (show RowN 2 W26 ub N _ by have := UB26.out.1; rw [ackL_len, HMl2.out] at this; exact this)
                  obtain ⟨XA, xc, rfl, _, hxm⟩ := RA2.out.shape2
                  obtain ⟨YA, yc, rfl, _, hym⟩ := UA2.out.shape2
                  obtain ⟨XB, xd, rfl, _, _⟩ := RB2.out.shape2
                  obtain ⟨YB, yd, rfl, _, _⟩ := UB2.out.shape2
                  obtain ⟨xad, rfl, y0, y1⟩ := RA2.out.at2 kr _ hal
                  obtain ⟨yad, rfl, z0, z1⟩ := UA2.out.at2 kr _ hbl
                  obtain ⟨on, hon⟩ : ∃ b, b = (x.next o.cs).al.1 := ⟨_, rfl⟩
                  obtain ⟨nw, hnw⟩ : ∃ b, b = (x.next o.cs).al.2 := ⟨_, rfl⟩
                  rw [← hon] at y0 z0
                  rw [← hnw] at y1 z1
                  have xb := lt_of_cell y0
                  have yb := lt_of_cell z0
                  have hnq : ∀ w, (binOp .neq 53 (.agg #[.bool on, .bool nw]) (.agg #[.bool on, .bool nw])).run Try.prog w = .ok (.bool false) w := fun w => by rw [neqA]; simp
                  have hgd := guardA
                  have d0 : ∀ w', Below W26.heap.size W26 w' → w'.cell? (xad.add (kr * 2)) = some (.bool on) := fun w' hb => (hb.cell xb).trans y0
                  have d1 : ∀ w', Below W26.heap.size W26 w' → w'.cell? ⟨(xad.add (kr * 2)).block, (xad.add (kr * 2)).off + 1, none⟩ = some (.bool nw) := fun w' hb => (hb.cell (p := ⟨(xad.add (kr * 2)).block, (xad.add (kr * 2)).off + 1, none⟩) xb).trans y1
                  have d2 : ∀ w', Below W26.heap.size W26 w' → w'.cell? (yad.add (kr * 2)) = some (.bool on) := fun w' hb => (hb.cell yb).trans z0
                  have d3 : ∀ w', Below W26.heap.size W26 w' → w'.cell? ⟨(yad.add (kr * 2)).block, (yad.add (kr * 2)).off + 1, none⟩ = some (.bool nw) := fun w' hb => (hb.cell (p := ⟨(yad.add (kr * 2)).block, (yad.add (kr * 2)).off + 1, none⟩) yb).trans z1
                  have dQ : ∀ w', Below W26.heap.size W26 w' → ∀ i, w'.cell? ⟨wz.heap.size, i, none⟩ = (#[.int .i64 c.P, .int .i64 c.H, .int .i64 c.C, .int .i64 c.Mn, .int .i64 c.Mx, .int .i64 c.Rho, .int .i64 c.Bd, .int .i64 c.Win, .int .i64 c.St, .slice sA sn scap, .slice (some rad) rs.length rc] : Array Value)[i]? := fun w' hb => (HQ26.out.below hb).cells
                  clear hal hbl hon hnw hx hy hxs RA2 UA2 RB2 UB2
                  go_wp2_with fail
                  refine wp_region_held_drew (S := fun w' => Below W26.heap.size W26 w') (by kernel_rfl) ((Below.refl _ _).drew) (fun hHeld => ?_)
                  refine takeD 0 (some 185) (v := ?_) rfl rfl (by kernel_rfl) (by kernel_rfl) (by kernel_rfl) (fun _ _ _ h => h) (by rfl) ?_ (by assumption) ?_
                  rotate_left
                  · intro w hSw
                    (try dsimp only at hSw)
                    go_simp
                    try with_reducible rfl
                  try simp only [Act.put, List.setIfInBounds_toArray, List.set_cons_zero, List.set_cons_succ]
                  refine takeD 1 (some 186) (v := ?_) rfl rfl (by kernel_rfl) (by kernel_rfl) (by kernel_rfl) (fun _ _ _ h => h) (by rfl) ?_ (by assumption) ?_
                  rotate_left
                  · intro w hSw
                    (try dsimp only at hSw)
                    go_simp
                    try with_reducible rfl
                  try simp only [Act.put, List.setIfInBounds_toArray, List.set_cons_zero, List.set_cons_succ]
                  refine takeD 2 (some 187) (v := ?_) rfl rfl (by kernel_rfl) (by kernel_rfl) (by kernel_rfl) (fun _ _ _ h => h) (by rfl) ?_ (by assumption) ?_
                  rotate_left
                  · intro w hSw
                    (try dsimp only at hSw)
                    go_simp
                    try with_reducible rfl
                  try simp only [Act.put, List.setIfInBounds_toArray, List.set_cons_zero, List.set_cons_succ]
                  refine takeD 3 (some 188) (v := ?_) rfl rfl (by kernel_rfl) (by kernel_rfl) (by kernel_rfl) (fun _ _ _ h => h) (by rfl) ?_ (by assumption) ?_
                  rotate_left
                  · intro w hSw
                    (try dsimp only at hSw)
                    go_simp
                    try with_reducible rfl
                  try simp only [Act.put, List.setIfInBounds_toArray, List.set_cons_zero, List.set_cons_succ]
                  refine takeD 4 (some 189) (v := ?_) rfl rfl (by kernel_rfl) (by kernel_rfl) (by kernel_rfl) (fun _ _ _ h => h) (by rfl) ?_ (by assumption) ?_
                  rotate_left
                  · intro w hSw
                    (try dsimp only at hSw)
                    go_simp
                    try with_reducible rfl
                  try simp only [Act.put, List.setIfInBounds_toArray, List.set_cons_zero, List.set_cons_succ]
                  refine takeD 5 (some 190) (v := ?_) rfl rfl (by kernel_rfl) (by kernel_rfl) (by kernel_rfl) (fun _ _ _ h => h) (by rfl) ?_ (by assumption) ?_
                  rotate_left
                  · intro w hSw
                    (try dsimp only at hSw)
                    go_simp
                    try with_reducible rfl
                  try simp only [Act.put, List.setIfInBounds_toArray, List.set_cons_zero, List.set_cons_succ]
                  refine takeD 6 (some 191) (v := ?_) rfl rfl (by kernel_rfl) (by kernel_rfl) (by kernel_rfl) (fun _ _ _ h => h) (by rfl) ?_ (by assumption) ?_
                  rotate_left
                  · intro w hSw
                    (try dsimp only at hSw)
                    go_simp
                    try with_reducible rfl
                  try simp only [Act.put, List.setIfInBounds_toArray, List.set_cons_zero, List.set_cons_succ]
                  refine takeD 7 (some 192) (v := ?_) rfl rfl (by kernel_rfl) (by kernel_rfl) (by kernel_rfl) (fun _ _ _ h => h) (by rfl) ?_ (by assumption) ?_
                  rotate_left
                  · intro w hSw
                    (try dsimp only at hSw)
                    go_simp
                    try with_reducible rfl
                  try simp only [Act.put, List.setIfInBounds_toArray, List.set_cons_zero, List.set_cons_succ]
                  refine takeD 8 (some 193) (v := ?_) rfl rfl (by kernel_rfl) (by kernel_rfl) (by kernel_rfl) (fun _ _ _ h => h) (by rfl) ?_ (by assumption) ?_
                  rotate_left
                  · intro w hSw
                    (try dsimp only at hSw)
                    go_simp
                    try with_reducible rfl
                  try simp only [Act.put, List.setIfInBounds_toArray, List.set_cons_zero, List.set_cons_succ]
                  refine takeD 9 (some 194) (v := ?_) rfl rfl (by kernel_rfl) (by kernel_rfl) (by kernel_rfl) (fun _ _ _ h => h) (by rfl) ?_ (by assumption) ?_
                  rotate_left
                  · intro w hSw
                    (try dsimp only at hSw)
                    go_simp
                    try with_reducible rfl
                  try simp only [Act.put, List.setIfInBounds_toArray, List.set_cons_zero, List.set_cons_succ]
                  refine takeD 10 (some 195) (v := ?_) rfl rfl (by kernel_rfl) (by kernel_rfl) (by kernel_rfl) (fun _ _ _ h => h) (by rfl) ?_ (by assumption) ?_
                  rotate_left
                  · intro w hSw
                    (try dsimp only at hSw)
                    go_simp
                    try with_reducible rfl
                  try simp only [Act.put, List.setIfInBounds_toArray, List.set_cons_zero, List.set_cons_succ]
                  refine takeD 11 (some 196) (v := ?_) rfl rfl (by kernel_rfl) (by kernel_rfl) (by kernel_rfl) (fun _ _ _ h => h) (by rfl) ?_ (by assumption) ?_
                  rotate_left
                  · intro w hSw
                    (try dsimp only at hSw)
                    go_simp
                    try with_reducible rfl
                  try simp only [Act.put, List.setIfInBounds_toArray, List.set_cons_zero, List.set_cons_succ]
                  refine takeD 12 (some 197) (v := ?_) rfl rfl (by kernel_rfl) (by kernel_rfl) (by kernel_rfl) (fun _ _ _ h => h) (by rfl) ?_ (by assumption) ?_
                  rotate_left
                  · intro w hSw
                    (try dsimp only at hSw)
                    go_simp
                    try with_reducible rfl
                  try simp only [Act.put, List.setIfInBounds_toArray, List.set_cons_zero, List.set_cons_succ]
                  refine takeD 13 (some 198) (v := ?_) rfl rfl (by kernel_rfl) (by kernel_rfl) (by kernel_rfl) (fun _ _ _ h => h) (by rfl) ?_ (by assumption) ?_
                  rotate_left
                  · intro w hSw
                    (try dsimp only at hSw)
                    go_simp
                    try with_reducible rfl
                  try simp only [Act.put, List.setIfInBounds_toArray, List.set_cons_zero, List.set_cons_succ]
                  refine takeD 14 (some 199) (v := ?_) rfl rfl (by kernel_rfl) (by kernel_rfl) (by kernel_rfl) (fun _ _ _ h => h) (by rfl) ?_ (by assumption) ?_
                  rotate_left
                  · intro w hSw
                    (try dsimp only at hSw)
                    go_simp
                    try with_reducible rfl
                  try simp only [Act.put, List.setIfInBounds_toArray, List.set_cons_zero, List.set_cons_succ]
                  refine takeD 15 (some 200) (v := ?_) rfl rfl (by kernel_rfl) (by kernel_rfl) (by kernel_rfl) (fun _ _ _ h => h) (by rfl) ?_ (by assumption) ?_
                  rotate_left
                  · intro w hSw
                    (try dsimp only at hSw)
                    go_simp
                    try with_reducible rfl
                  try simp only [Act.put, List.setIfInBounds_toArray, List.set_cons_zero, List.set_cons_succ]
                  refine takeD 16 (some 201) (v := ?_) rfl rfl (by kernel_rfl) (by kernel_rfl) (by kernel_rfl) (fun _ _ _ h => h) (by rfl) ?_ (by assumption) ?_
                  rotate_left
                  · intro w hSw
                    (try dsimp only at hSw)
                    go_simp
                    try with_reducible rfl
                  try simp only [Act.put, List.setIfInBounds_toArray, List.set_cons_zero, List.set_cons_succ]
                  refine takeD 17 (some 202) (v := ?_) rfl rfl (by kernel_rfl) (by kernel_rfl) (by kernel_rfl) (fun _ _ _ h => h) (by rfl) ?_ (by assumption) ?_
                  rotate_left
                  · intro w hSw
                    (try dsimp only at hSw)
                    go_simp
                    try with_reducible rfl
                  try simp only [Act.put, List.setIfInBounds_toArray, List.set_cons_zero, List.set_cons_succ]
                  refine takeD 18 (some 203) (v := ?_) rfl rfl (by kernel_rfl) (by kernel_rfl) (by kernel_rfl) (fun _ _ _ h => h) (by rfl) ?_ (by assumption) ?_
                  rotate_left
                  · intro w hSw
                    (try dsimp only at hSw)
                    go_simp
                    try with_reducible rfl
                  try simp only [Act.put, List.setIfInBounds_toArray, List.set_cons_zero, List.set_cons_succ]
                  refine takeD 19 (some 204) (v := ?_) rfl rfl (by kernel_rfl) (by kernel_rfl) (by kernel_rfl) (fun _ _ _ h => h) (by rfl) ?_ (by assumption) ?_
                  rotate_left
                  · intro w hSw
                    (try dsimp only at hSw)
                    go_simp
                    try with_reducible rfl
                  try simp only [Act.put, List.setIfInBounds_toArray, List.set_cons_zero, List.set_cons_succ]
                  refine takeD 20 (some 205) (v := ?_) rfl rfl (by kernel_rfl) (by kernel_rfl) (by kernel_rfl) (fun _ _ _ h => h) (by rfl) ?_ (by assumption) ?_
                  rotate_left
                  · intro w hSw
                    (try dsimp only at hSw)
                    go_simp
                    try with_reducible rfl
                  try simp only [Act.put, List.setIfInBounds_toArray, List.set_cons_zero, List.set_cons_succ]
                  refine takeD 21 (some 206) (v := ?_) rfl rfl (by kernel_rfl) (by kernel_rfl) (by kernel_rfl) (fun _ _ _ h => h) (by rfl) ?_ (by assumption) ?_
                  rotate_left
                  · intro w hSw
                    (try dsimp only at hSw)
                    go_simp
                    try with_reducible rfl
                  try simp only [Act.put, List.setIfInBounds_toArray, List.set_cons_zero, List.set_cons_succ]
                  refine takeD 22 (some 207) (v := ?_) rfl rfl (by kernel_rfl) (by kernel_rfl) (by kernel_rfl) (fun _ _ _ h => h) (by rfl) ?_ (by assumption) ?_
                  rotate_left
                  · intro w hSw
                    (try dsimp only at hSw)
                    go_simp
                    try with_reducible rfl
                  try simp only [Act.put, List.setIfInBounds_toArray, List.set_cons_zero, List.set_cons_succ]
                  refine takeD 23 (some 208) (v := ?_) rfl rfl (by kernel_rfl) (by kernel_rfl) (by kernel_rfl) (fun _ _ _ h => h) (by rfl) ?_ (by assumption) ?_
                  rotate_left
                  · intro w hSw
                    (try dsimp only at hSw)
                    go_simp
                    try with_reducible rfl
                  try simp only [Act.put, List.setIfInBounds_toArray, List.set_cons_zero, List.set_cons_succ]
                  refine takeD 24 (some 209) (v := ?_) rfl rfl (by kernel_rfl) (by kernel_rfl) (by kernel_rfl) (fun _ _ _ h => h) (by rfl) ?_ (by assumption) ?_
                  rotate_left
                  · intro w hSw
                    (try dsimp only at hSw)
                    go_simp
                    try with_reducible rfl
                  try simp only [Act.put, List.setIfInBounds_toArray, List.set_cons_zero, List.set_cons_succ]
                  refine takeD 25 (some 210) (v := ?_) rfl rfl (by kernel_rfl) (by kernel_rfl) (by kernel_rfl) (fun _ _ _ h => h) (by rfl) ?_ (by assumption) ?_
                  rotate_left
                  · intro w hSw
                    (try dsimp only at hSw)
                    go_simp
                    try with_reducible rfl
                  try simp only [Act.put, List.setIfInBounds_toArray, List.set_cons_zero, List.set_cons_succ]
                  refine takeD 26 (some 211) (v := ?_) rfl rfl (by kernel_rfl) (by kernel_rfl) (by kernel_rfl) (fun _ _ _ h => h) (by rfl) ?_ (by assumption) ?_
                  rotate_left
                  · intro w hSw
                    (try dsimp only at hSw)
                    go_simp
                    try with_reducible rfl
                  try simp only [Act.put, List.setIfInBounds_toArray, List.set_cons_zero, List.set_cons_succ]
                  refine takeD 27 (some 212) (v := ?_) rfl rfl (by kernel_rfl) (by kernel_rfl) (by kernel_rfl) (fun _ _ _ h => h) (by rfl) ?_ (by assumption) ?_
                  rotate_left
                  · intro w hSw
                    (try dsimp only at hSw)
                    go_simp
                    try with_reducible rfl
                  try simp only [Act.put, List.setIfInBounds_toArray, List.set_cons_zero, List.set_cons_succ]
                  refine takeD 28 (some 213) (v := ?_) rfl rfl (by kernel_rfl) (by kernel_rfl) (by kernel_rfl) (fun _ _ _ h => h) (by rfl) ?_ (by assumption) ?_
                  rotate_left
                  · intro w hSw
                    (try dsimp only at hSw)
                    go_simp
                    try with_reducible rfl
                  try simp only [Act.put, List.setIfInBounds_toArray, List.set_cons_zero, List.set_cons_succ]
                  refine takeD 29 (some 214) (v := ?_) rfl rfl (by kernel_rfl) (by kernel_rfl) (by kernel_rfl) (fun _ _ _ h => h) (by rfl) ?_ (by assumption) ?_
                  rotate_left
                  · intro w hSw
                    (try dsimp only at hSw)
                    go_simp
                    try with_reducible rfl
                  try simp only [Act.put, List.setIfInBounds_toArray, List.set_cons_zero, List.set_cons_succ]
                  refine takeD 30 (some 215) (v := ?_) rfl rfl (by kernel_rfl) (by kernel_rfl) (by kernel_rfl) (fun _ _ _ h => h) (by rfl) ?_ (by assumption) ?_
                  rotate_left
                  · intro w hSw
                    (try dsimp only at hSw)
                    go_simp
                    try with_reducible rfl
                  try simp only [Act.put, List.setIfInBounds_toArray, List.set_cons_zero, List.set_cons_succ]
                  refine takeD 31 (some 216) (v := ?_) rfl rfl (by kernel_rfl) (by kernel_rfl) (by kernel_rfl) (fun _ _ _ h => h) (by rfl) ?_ (by assumption) ?_
                  rotate_left
                  · intro w hSw
                    (try dsimp only at hSw)
                    go_simp
                    try with_reducible rfl
                  try simp only [Act.put, List.setIfInBounds_toArray, List.set_cons_zero, List.set_cons_succ]
                  refine takeD 32 (some 217) (v := ?_) rfl rfl (by kernel_rfl) (by kernel_rfl) (by kernel_rfl) (fun _ _ _ h => h) (by rfl) ?_ (by assumption) ?_
                  rotate_left
                  · intro w hSw
                    (try dsimp only at hSw)
                    go_simp
                    try with_reducible rfl
                  try simp only [Act.put, List.setIfInBounds_toArray, List.set_cons_zero, List.set_cons_succ]
                  refine takeD 33 (some 218) (v := ?_) rfl rfl (by kernel_rfl) (by kernel_rfl) (by kernel_rfl) (fun _ _ _ h => h) (by rfl) ?_ (by assumption) ?_
                  rotate_left
                  · intro w hSw
                    (try dsimp only at hSw)
                    go_simp
                    try with_reducible rfl
                  try simp only [Act.put, List.setIfInBounds_toArray, List.set_cons_zero, List.set_cons_succ]
                  refine takeD 34 (some 219) (v := ?_) rfl rfl (by kernel_rfl) (by kernel_rfl) (by kernel_rfl) (fun _ _ _ h => h) (by rfl) ?_ (by assumption) ?_
                  rotate_left
                  · intro w hSw
                    (try dsimp only at hSw)
                    go_simp
                    try with_reducible rfl
                  try simp only [Act.put, List.setIfInBounds_toArray, List.set_cons_zero, List.set_cons_succ]
                  refine takeD 35 (some 220) (v := ?_) rfl rfl (by kernel_rfl) (by kernel_rfl) (by kernel_rfl) (fun _ _ _ h => h) (by rfl) ?_ (by assumption) ?_
                  rotate_left
                  · intro w hSw
                    (try dsimp only at hSw)
                    go_simp
                    try with_reducible rfl
                  try simp only [Act.put, List.setIfInBounds_toArray, List.set_cons_zero, List.set_cons_succ]
                  refine takeD 36 (some 221) (v := ?_) rfl rfl (by kernel_rfl) (by kernel_rfl) (by kernel_rfl) (fun _ _ _ h => h) (by rfl) ?_ (by assumption) ?_
                  rotate_left
                  · intro w hSw
                    (try dsimp only at hSw)
                    go_simp
                    try with_reducible rfl
                  try simp only [Act.put, List.setIfInBounds_toArray, List.set_cons_zero, List.set_cons_succ]
                  refine wpAnyH_done (by kernel_rfl) ?_ _
                  refine nameV (fun W => Below W26.heap.size W26 W) hHeld fun W7 h7 => ?_
                  have H7 := Lib.hid h7
                  clear hHeld h7 d0 d1 d2 d3 dQ y0 y1 z0 z1
                  go_wp2
                  go_roundw
                  case rel => exact ⟨j + 1, by omega, by go_num, Btrans HB26.out H7.out, HQ26.out.below H7.out, _, _, _, _, Sa26.out.below H7.out, Sb26.out.below H7.out, next_oks _ (ack_oks (kr : Int) HLr.out), next_oks _ HMr.out, next_oks _ (ack_oks (kr : Int) HL2r.out), next_oks _ (ack_oks q.C HM2r.out), by rw [List.length_map, HMl.out], by rw [List.length_map, ackL_len, HMl2.out], by rw [List.length_map, ackL_len, HLl.out], by rw [List.length_map, ackL_len, HLl2.out], (HSr.out.ack (kr : Int)).next _, HNX.out⟩
                  case measure => simp [intOf]; omega
                · have gR : (o.R == (kr : Int)) = false := by rw [beq_eq_false_iff_ne]; exact hR
                  have HATn := Lib.hid (show (ackL o.R L)[kr]? = L2[kr]? from (ackL_at hR).trans HAT.out)
                  clear hR
                  go_wp2_with fail
                  refine (SS.ackR o.R Sa21.out (by rw [HLl.out]; omega)).mono ?_
                  rintro e W22 ⟨rfl, hs, fr⟩
                  (try clear cQ); (try clear lQ); (try clear oc0); (try clear oc1); (try clear oc2)
                  (try clear qc0); (try clear qc1); (try clear qc2)
                  have HB22 := Lib.hid (fr.below HB21.out (Nat.le_refl _) hwlo)
                  have HQ22 := Lib.hid (HQ21.out.fr fr (.inl hlo))
                  have Sb22 := Lib.hid (Sb21.out.fr fr (.inl hdis))
                  clear HB21 HQ21 Sb21
                  have HMX22 := Lib.hid (HMX21.out.fr fr (fun ad n' c' e => by injection e with e; injection e with e; subst e; exact .inr (by show _ ≤ g; omega)))
                  clear HMX21
                  have Sa22 := Lib.hid hs
                  clear hs fr Sa21
                  obtain ⟨oc0, oc1, oc2⟩ := HOP.out _ HB22.out
                  have cQ := HQ22.out.cells
                  have lQ := HQ22.out.lt
                  obtain ⟨qc0, qc1, qc2⟩ := HQP.out _ HB22.out
                  go_wp2_with fail
                  refine (SS.ackC q.C Sb22.out (by rw [HMl2.out]; omega)).mono ?_
                  rintro e W23 ⟨rfl, hs, fr⟩
                  (try clear cQ); (try clear lQ); (try clear oc0); (try clear oc1); (try clear oc2)
                  (try clear qc0); (try clear qc1); (try clear qc2)
                  have HB23 := Lib.hid (fr.below HB22.out (Nat.le_refl _) hwlo2)
                  have HQ23 := Lib.hid (HQ22.out.fr fr (.inl hlo2))
                  have Sa23 := Lib.hid (Sa22.out.fr fr (.inr hdis))
                  clear HB22 HQ22 Sa22
                  have HMX23 := Lib.hid (HMX22.out.fr fr (fun ad n' c' e => by injection e with e; injection e with e; subst e; exact .inr (by show _ ≤ g; omega)))
                  clear HMX22
                  have Sb23 := Lib.hid hs
                  clear hs fr Sb22
                  obtain ⟨oc0, oc1, oc2⟩ := HOP.out _ HB23.out
                  have cQ := HQ23.out.cells
                  have lQ := HQ23.out.lt
                  obtain ⟨qc0, qc1, qc2⟩ := HQP.out _ HB23.out
                  go_wp2_with fail
                  have hz23 := Sb23.out.top.1
                  refine (SS.tick (some cad) o.cc o.cs Sa23.out (by rw [HCNE.out]; exact (ack_oks o.R HLr.out)) (by rw [HCNE.out]; exact HMr.out) (HCR.out.below HB23.out) (FrC.of HCR.out (by omega) hwlo) (by rw [HMl.out]; exact HCNE.out) HB23.out (by rw [ackL_len, HLl.out]; omega) (by rw [HMl.out]; omega)).mono ?_
                  rintro e W24 ⟨va, vb, rfl, ra, rb, hs, fr⟩
                  (try clear cQ); (try clear lQ); (try clear oc0); (try clear oc1); (try clear oc2)
                  (try clear qc0); (try clear qc1); (try clear qc2)
                  have HB24 := Lib.hid (fr.below HB23.out (Nat.le_refl _) hwlo)
                  have HQ24 := Lib.hid (HQ23.out.fr fr (.inl hlo))
                  have Sb24 := Lib.hid (Sb23.out.fr fr (.inl hdis))
                  clear HB23 HQ23 Sb23
                  have HMX24 := Lib.hid (HMX23.out.fr fr (fun ad n' c' e => by injection e with e; injection e with e; subst e; exact .inr (by show _ ≤ g; omega)))
                  clear HMX23
                  have Sa24 := Lib.hid hs
                  clear hs fr Sa23
                  have RA24 := Lib.hid ra
                  have RB24 := Lib.hid rb
                  clear ra rb
                  obtain ⟨oc0, oc1, oc2⟩ := HOP.out _ HB24.out
                  have cQ := HQ24.out.cells
                  have lQ := HQ24.out.lt
                  obtain ⟨qc0, qc1, qc2⟩ := HQP.out _ HB24.out
                  go_wp2_with fail
                  refine (SS.tickN (some ⟨g, 0, none⟩) mc (mAft o.cs q.cs (chO r.l)) q.cs.length (by rw [mAft_len]) Sb24.out (by rw [HDNE.out]; exact HL2r.out) (by rw [HDNE.out]; exact ack_oks q.C HM2r.out) HMX24.out (fun ad e => by injection e with e; subst e; exact .inr (by show hi2 ≤ g; omega)) (by rw [ackL_len, HMl2.out, HDNE.out]) HB24.out (by rw [HLl2.out]; omega) (by rw [ackL_len, HMl2.out]; omega)).mono ?_
                  rintro e W25 ⟨ua, ub, rfl, ra, rb, hs, fr⟩
                  (try clear cQ); (try clear lQ); (try clear oc0); (try clear oc1); (try clear oc2)
                  (try clear qc0); (try clear qc1); (try clear qc2)
                  have HB25 := Lib.hid (fr.below HB24.out (Nat.le_refl _) hwlo2)
                  have HQ25 := Lib.hid (HQ24.out.fr fr (.inl hlo2))
                  have Sa25 := Lib.hid (Sa24.out.fr fr (.inr hdis))
                  have RA25 := Lib.hid (RA24.out.fr fr hz23)
                  have RB25 := Lib.hid (RB24.out.fr fr hz23)
                  clear HB24 HQ24 Sa24 RA24 RB24
                  have Sb25 := Lib.hid hs
                  clear hs fr Sb24
                  have UA25 := Lib.hid ra
                  have UB25 := Lib.hid rb
                  clear ra rb
                  obtain ⟨oc0, oc1, oc2⟩ := HOP.out _ HB25.out
                  have cQ := HQ25.out.cells
                  have lQ := HQ25.out.lt
                  obtain ⟨qc0, qc1, qc2⟩ := HQP.out _ HB25.out
                  obtain ⟨x, hx, hxs⟩ := (HSr.out.ack o.R).at_ HRK.out
                  have hy : L2[kr]? = some x := by rw [← HATn.out]; exact hx
                  have hal : ((ackL o.R L).map fun x => (x.next o.cs).al)[kr]? = some ((x.next o.cs).al.1, (x.next o.cs).al.2) := by rw [List.getElem?_map, hx]; rfl
                  have hbl : (L2.map fun x => (x.next (mAft o.cs q.cs (chO r.l))).al)[kr]? = some ((x.next o.cs).al.1, (x.next o.cs).al.2) := by rw [List.getElem?_map, hy, next_same hxs HUP.out.symm]; rfl
                  have HNX := Lib.hid (show ((ackL o.R L).map (Wt.next o.cs))[kr]? = (L2.map (Wt.next (mAft o.cs q.cs (chO r.l))))[kr]? by rw [List.getElem?_map, List.getElem?_map, hx, hy]; exact congrArg some (next_same hxs HUP.out.symm))
                  have RA2 := Lib.hid (show RowN 2 W25 va rs.length _ by have := RA25.out.1; rw [ackL_len, HLl.out] at this; exact this)
                  have UA2 := Lib.hid (show RowN 2 W25 ua rs.length _ by have := UA25.out.1; rw [HLl2.out] at this; exact this)
                  have RB2 := Lib.hid (show RowN 2 W25 vb N _ by have := RB25.out.1; rw [HMl.out] at this; exact this)
                  have UB2 := Lib.hid (show RowN 2 W25 ub N _ by have := UB25.out.1; rw [ackL_len, HMl2.out] at this; exact this)
                  obtain ⟨XA, xc, rfl, _, hxm⟩ := RA2.out.shape2
                  obtain ⟨YA, yc, rfl, _, hym⟩ := UA2.out.shape2
                  obtain ⟨XB, xd, rfl, _, _⟩ := RB2.out.shape2
                  obtain ⟨YB, yd, rfl, _, _⟩ := UB2.out.shape2
                  obtain ⟨xad, rfl, y0, y1⟩ := RA2.out.at2 kr _ hal
                  obtain ⟨yad, rfl, z0, z1⟩ := UA2.out.at2 kr _ hbl
                  obtain ⟨on, hon⟩ : ∃ b, b = (x.next o.cs).al.1 := ⟨_, rfl⟩
                  obtain ⟨nw, hnw⟩ : ∃ b, b = (x.next o.cs).al.2 := ⟨_, rfl⟩
                  rw [← hon] at y0 z0
                  rw [← hnw] at y1 z1
                  have xb := lt_of_cell y0
                  have yb := lt_of_cell z0
                  have hnq : ∀ w, (binOp .neq 53 (.agg #[.bool on, .bool nw]) (.agg #[.bool on, .bool nw])).run Try.prog w = .ok (.bool false) w := fun w => by rw [neqA]; simp
                  have hgd := guardA
                  have d0 : ∀ w', Below W25.heap.size W25 w' → w'.cell? (xad.add (kr * 2)) = some (.bool on) := fun w' hb => (hb.cell xb).trans y0
                  have d1 : ∀ w', Below W25.heap.size W25 w' → w'.cell? ⟨(xad.add (kr * 2)).block, (xad.add (kr * 2)).off + 1, none⟩ = some (.bool nw) := fun w' hb => (hb.cell (p := ⟨(xad.add (kr * 2)).block, (xad.add (kr * 2)).off + 1, none⟩) xb).trans y1
                  have d2 : ∀ w', Below W25.heap.size W25 w' → w'.cell? (yad.add (kr * 2)) = some (.bool on) := fun w' hb => (hb.cell yb).trans z0
                  have d3 : ∀ w', Below W25.heap.size W25 w' → w'.cell? ⟨(yad.add (kr * 2)).block, (yad.add (kr * 2)).off + 1, none⟩ = some (.bool nw) := fun w' hb => (hb.cell (p := ⟨(yad.add (kr * 2)).block, (yad.add (kr * 2)).off + 1, none⟩) yb).trans z1
                  have dQ : ∀ w', Below W25.heap.size W25 w' → ∀ i, w'.cell? ⟨wz.heap.size, i, none⟩ = (#[.int .i64 c.P, .int .i64 c.H, .int .i64 c.C, .int .i64 c.Mn, .int .i64 c.Mx, .int .i64 c.Rho, .int .i64 c.Bd, .int .i64 c.Win, .int .i64 c.St, .slice sA sn scap, .slice (some rad) rs.length rc] : Array Value)[i]? := fun w' hb => (HQ25.out.below hb).cells
                  clear hal hbl hon hnw hx hy hxs RA2 UA2 RB2 UB2
                  go_wp2_with fail
                  refine wp_region_held_drew (S := fun w' => Below W25.heap.size W25 w') (by kernel_rfl) ((Below.refl _ _).drew) (fun hHeld => ?_)
                  refine takeD 0 (some 185) (v := ?_) rfl rfl (by kernel_rfl) (by kernel_rfl) (by kernel_rfl) (fun _ _ _ h => h) (by rfl) ?_ (by assumption) ?_
                  rotate_left
                  · intro w hSw
                    (try dsimp only at hSw)
                    go_simp
                    try with_reducible rfl
                  try simp only [Act.put, List.setIfInBounds_toArray, List.set_cons_zero, List.set_cons_succ]
                  refine takeD 1 (some 186) (v := ?_) rfl rfl (by kernel_rfl) (by kernel_rfl) (by kernel_rfl) (fun _ _ _ h => h) (by rfl) ?_ (by assumption) ?_
                  rotate_left
                  · intro w hSw
                    (try dsimp only at hSw)
                    go_simp
                    try with_reducible rfl
                  try simp only [Act.put, List.setIfInBounds_toArray, List.set_cons_zero, List.set_cons_succ]
                  refine takeD 2 (some 187) (v := ?_) rfl rfl (by kernel_rfl) (by kernel_rfl) (by kernel_rfl) (fun _ _ _ h => h) (by rfl) ?_ (by assumption) ?_
                  rotate_left
                  · intro w hSw
                    (try dsimp only at hSw)
                    go_simp
                    try with_reducible rfl
                  try simp only [Act.put, List.setIfInBounds_toArray, List.set_cons_zero, List.set_cons_succ]
                  refine takeD 3 (some 188) (v := ?_) rfl rfl (by kernel_rfl) (by kernel_rfl) (by kernel_rfl) (fun _ _ _ h => h) (by rfl) ?_ (by assumption) ?_
                  rotate_left
                  · intro w hSw
                    (try dsimp only at hSw)
                    go_simp
                    try with_reducible rfl
                  try simp only [Act.put, List.setIfInBounds_toArray, List.set_cons_zero, List.set_cons_succ]
                  refine takeD 4 (some 189) (v := ?_) rfl rfl (by kernel_rfl) (by kernel_rfl) (by kernel_rfl) (fun _ _ _ h => h) (by rfl) ?_ (by assumption) ?_
                  rotate_left
                  · intro w hSw
                    (try dsimp only at hSw)
                    go_simp
                    try with_reducible rfl
                  try simp only [Act.put, List.setIfInBounds_toArray, List.set_cons_zero, List.set_cons_succ]
                  refine takeD 5 (some 190) (v := ?_) rfl rfl (by kernel_rfl) (by kernel_rfl) (by kernel_rfl) (fun _ _ _ h => h) (by rfl) ?_ (by assumption) ?_
                  rotate_left
                  · intro w hSw
                    (try dsimp only at hSw)
                    go_simp
                    try with_reducible rfl
                  try simp only [Act.put, List.setIfInBounds_toArray, List.set_cons_zero, List.set_cons_succ]
                  refine takeD 6 (some 191) (v := ?_) rfl rfl (by kernel_rfl) (by kernel_rfl) (by kernel_rfl) (fun _ _ _ h => h) (by rfl) ?_ (by assumption) ?_
                  rotate_left
                  · intro w hSw
                    (try dsimp only at hSw)
                    go_simp
                    try with_reducible rfl
                  try simp only [Act.put, List.setIfInBounds_toArray, List.set_cons_zero, List.set_cons_succ]
                  refine takeD 7 (some 192) (v := ?_) rfl rfl (by kernel_rfl) (by kernel_rfl) (by kernel_rfl) (fun _ _ _ h => h) (by rfl) ?_ (by assumption) ?_
                  rotate_left
                  · intro w hSw
                    (try dsimp only at hSw)
                    go_simp
                    try with_reducible rfl
                  try simp only [Act.put, List.setIfInBounds_toArray, List.set_cons_zero, List.set_cons_succ]
                  refine takeD 8 (some 193) (v := ?_) rfl rfl (by kernel_rfl) (by kernel_rfl) (by kernel_rfl) (fun _ _ _ h => h) (by rfl) ?_ (by assumption) ?_
                  rotate_left
                  · intro w hSw
                    (try dsimp only at hSw)
                    go_simp
                    try with_reducible rfl
                  try simp only [Act.put, List.setIfInBounds_toArray, List.set_cons_zero, List.set_cons_succ]
                  refine takeD 9 (some 194) (v := ?_) rfl rfl (by kernel_rfl) (by kernel_rfl) (by kernel_rfl) (fun _ _ _ h => h) (by rfl) ?_ (by assumption) ?_
                  rotate_left
                  · intro w hSw
                    (try dsimp only at hSw)
                    go_simp
                    try with_reducible rfl
                  try simp only [Act.put, List.setIfInBounds_toArray, List.set_cons_zero, List.set_cons_succ]
                  refine takeD 10 (some 195) (v := ?_) rfl rfl (by kernel_rfl) (by kernel_rfl) (by kernel_rfl) (fun _ _ _ h => h) (by rfl) ?_ (by assumption) ?_
                  rotate_left
                  · intro w hSw
                    (try dsimp only at hSw)
                    go_simp
                    try with_reducible rfl
                  try simp only [Act.put, List.setIfInBounds_toArray, List.set_cons_zero, List.set_cons_succ]
                  refine takeD 11 (some 196) (v := ?_) rfl rfl (by kernel_rfl) (by kernel_rfl) (by kernel_rfl) (fun _ _ _ h => h) (by rfl) ?_ (by assumption) ?_
                  rotate_left
                  · intro w hSw
                    (try dsimp only at hSw)
                    go_simp
                    try with_reducible rfl
                  try simp only [Act.put, List.setIfInBounds_toArray, List.set_cons_zero, List.set_cons_succ]
                  refine takeD 12 (some 197) (v := ?_) rfl rfl (by kernel_rfl) (by kernel_rfl) (by kernel_rfl) (fun _ _ _ h => h) (by rfl) ?_ (by assumption) ?_
                  rotate_left
                  · intro w hSw
                    (try dsimp only at hSw)
                    go_simp
                    try with_reducible rfl
                  try simp only [Act.put, List.setIfInBounds_toArray, List.set_cons_zero, List.set_cons_succ]
                  refine takeD 13 (some 198) (v := ?_) rfl rfl (by kernel_rfl) (by kernel_rfl) (by kernel_rfl) (fun _ _ _ h => h) (by rfl) ?_ (by assumption) ?_
                  rotate_left
                  · intro w hSw
                    (try dsimp only at hSw)
                    go_simp
                    try with_reducible rfl
                  try simp only [Act.put, List.setIfInBounds_toArray, List.set_cons_zero, List.set_cons_succ]
                  refine takeD 14 (some 199) (v := ?_) rfl rfl (by kernel_rfl) (by kernel_rfl) (by kernel_rfl) (fun _ _ _ h => h) (by rfl) ?_ (by assumption) ?_
                  rotate_left
                  · intro w hSw
                    (try dsimp only at hSw)
                    go_simp
                    try with_reducible rfl
                  try simp only [Act.put, List.setIfInBounds_toArray, List.set_cons_zero, List.set_cons_succ]
                  refine takeD 15 (some 200) (v := ?_) rfl rfl (by kernel_rfl) (by kernel_rfl) (by kernel_rfl) (fun _ _ _ h => h) (by rfl) ?_ (by assumption) ?_
                  rotate_left
                  · intro w hSw
                    (try dsimp only at hSw)
                    go_simp
                    try with_reducible rfl
                  try simp only [Act.put, List.setIfInBounds_toArray, List.set_cons_zero, List.set_cons_succ]
                  refine takeD 16 (some 201) (v := ?_) rfl rfl (by kernel_rfl) (by kernel_rfl) (by kernel_rfl) (fun _ _ _ h => h) (by rfl) ?_ (by assumption) ?_
                  rotate_left
                  · intro w hSw
                    (try dsimp only at hSw)
                    go_simp
                    try with_reducible rfl
                  try simp only [Act.put, List.setIfInBounds_toArray, List.set_cons_zero, List.set_cons_succ]
                  refine takeD 17 (some 202) (v := ?_) rfl rfl (by kernel_rfl) (by kernel_rfl) (by kernel_rfl) (fun _ _ _ h => h) (by rfl) ?_ (by assumption) ?_
                  rotate_left
                  · intro w hSw
                    (try dsimp only at hSw)
                    go_simp
                    try with_reducible rfl
                  try simp only [Act.put, List.setIfInBounds_toArray, List.set_cons_zero, List.set_cons_succ]
                  refine takeD 18 (some 203) (v := ?_) rfl rfl (by kernel_rfl) (by kernel_rfl) (by kernel_rfl) (fun _ _ _ h => h) (by rfl) ?_ (by assumption) ?_
                  rotate_left
                  · intro w hSw
                    (try dsimp only at hSw)
                    go_simp
                    try with_reducible rfl
                  try simp only [Act.put, List.setIfInBounds_toArray, List.set_cons_zero, List.set_cons_succ]
                  refine takeD 19 (some 204) (v := ?_) rfl rfl (by kernel_rfl) (by kernel_rfl) (by kernel_rfl) (fun _ _ _ h => h) (by rfl) ?_ (by assumption) ?_
                  rotate_left
                  · intro w hSw
                    (try dsimp only at hSw)
                    go_simp
                    try with_reducible rfl
                  try simp only [Act.put, List.setIfInBounds_toArray, List.set_cons_zero, List.set_cons_succ]
                  refine takeD 20 (some 205) (v := ?_) rfl rfl (by kernel_rfl) (by kernel_rfl) (by kernel_rfl) (fun _ _ _ h => h) (by rfl) ?_ (by assumption) ?_
                  rotate_left
                  · intro w hSw
                    (try dsimp only at hSw)
                    go_simp
                    try with_reducible rfl
                  try simp only [Act.put, List.setIfInBounds_toArray, List.set_cons_zero, List.set_cons_succ]
                  refine takeD 21 (some 206) (v := ?_) rfl rfl (by kernel_rfl) (by kernel_rfl) (by kernel_rfl) (fun _ _ _ h => h) (by rfl) ?_ (by assumption) ?_
                  rotate_left
                  · intro w hSw
                    (try dsimp only at hSw)
                    go_simp
                    try with_reducible rfl
                  try simp only [Act.put, List.setIfInBounds_toArray, List.set_cons_zero, List.set_cons_succ]
                  refine takeD 22 (some 207) (v := ?_) rfl rfl (by kernel_rfl) (by kernel_rfl) (by kernel_rfl) (fun _ _ _ h => h) (by rfl) ?_ (by assumption) ?_
                  rotate_left
                  · intro w hSw
                    (try dsimp only at hSw)
                    go_simp
                    try with_reducible rfl
                  try simp only [Act.put, List.setIfInBounds_toArray, List.set_cons_zero, List.set_cons_succ]
                  refine takeD 23 (some 208) (v := ?_) rfl rfl (by kernel_rfl) (by kernel_rfl) (by kernel_rfl) (fun _ _ _ h => h) (by rfl) ?_ (by assumption) ?_
                  rotate_left
                  · intro w hSw
                    (try dsimp only at hSw)
                    go_simp
                    try with_reducible rfl
                  try simp only [Act.put, List.setIfInBounds_toArray, List.set_cons_zero, List.set_cons_succ]
                  refine takeD 24 (some 209) (v := ?_) rfl rfl (by kernel_rfl) (by kernel_rfl) (by kernel_rfl) (fun _ _ _ h => h) (by rfl) ?_ (by assumption) ?_
                  rotate_left
                  · intro w hSw
                    (try dsimp only at hSw)
                    go_simp
                    try with_reducible rfl
                  try simp only [Act.put, List.setIfInBounds_toArray, List.set_cons_zero, List.set_cons_succ]
                  refine takeD 25 (some 210) (v := ?_) rfl rfl (by kernel_rfl) (by kernel_rfl) (by kernel_rfl) (fun _ _ _ h => h) (by rfl) ?_ (by assumption) ?_
                  rotate_left
                  · intro w hSw
                    (try dsimp only at hSw)
                    go_simp
                    try with_reducible rfl
                  try simp only [Act.put, List.setIfInBounds_toArray, List.set_cons_zero, List.set_cons_succ]
                  refine takeD 26 (some 211) (v := ?_) rfl rfl (by kernel_rfl) (by kernel_rfl) (by kernel_rfl) (fun _ _ _ h => h) (by rfl) ?_ (by assumption) ?_
                  rotate_left
                  · intro w hSw
                    (try dsimp only at hSw)
                    go_simp
                    try with_reducible rfl
                  try simp only [Act.put, List.setIfInBounds_toArray, List.set_cons_zero, List.set_cons_succ]
                  refine takeD 27 (some 212) (v := ?_) rfl rfl (by kernel_rfl) (by kernel_rfl) (by kernel_rfl) (fun _ _ _ h => h) (by rfl) ?_ (by assumption) ?_
                  rotate_left
                  · intro w hSw
                    (try dsimp only at hSw)
                    go_simp
                    try with_reducible rfl
                  try simp only [Act.put, List.setIfInBounds_toArray, List.set_cons_zero, List.set_cons_succ]
                  refine takeD 28 (some 213) (v := ?_) rfl rfl (by kernel_rfl) (by kernel_rfl) (by kernel_rfl) (fun _ _ _ h => h) (by rfl) ?_ (by assumption) ?_
                  rotate_left
                  · intro w hSw
                    (try dsimp only at hSw)
                    go_simp
                    try with_reducible rfl
                  try simp only [Act.put, List.setIfInBounds_toArray, List.set_cons_zero, List.set_cons_succ]
                  refine takeD 29 (some 214) (v := ?_) rfl rfl (by kernel_rfl) (by kernel_rfl) (by kernel_rfl) (fun _ _ _ h => h) (by rfl) ?_ (by assumption) ?_
                  rotate_left
                  · intro w hSw
                    (try dsimp only at hSw)
                    go_simp
                    try with_reducible rfl
                  try simp only [Act.put, List.setIfInBounds_toArray, List.set_cons_zero, List.set_cons_succ]
                  refine takeD 30 (some 215) (v := ?_) rfl rfl (by kernel_rfl) (by kernel_rfl) (by kernel_rfl) (fun _ _ _ h => h) (by rfl) ?_ (by assumption) ?_
                  rotate_left
                  · intro w hSw
                    (try dsimp only at hSw)
                    go_simp
                    try with_reducible rfl
                  try simp only [Act.put, List.setIfInBounds_toArray, List.set_cons_zero, List.set_cons_succ]
                  refine takeD 31 (some 216) (v := ?_) rfl rfl (by kernel_rfl) (by kernel_rfl) (by kernel_rfl) (fun _ _ _ h => h) (by rfl) ?_ (by assumption) ?_
                  rotate_left
                  · intro w hSw
                    (try dsimp only at hSw)
                    go_simp
                    try with_reducible rfl
                  try simp only [Act.put, List.setIfInBounds_toArray, List.set_cons_zero, List.set_cons_succ]
                  refine takeD 32 (some 217) (v := ?_) rfl rfl (by kernel_rfl) (by kernel_rfl) (by kernel_rfl) (fun _ _ _ h => h) (by rfl) ?_ (by assumption) ?_
                  rotate_left
                  · intro w hSw
                    (try dsimp only at hSw)
                    go_simp
                    try with_reducible rfl
                  try simp only [Act.put, List.setIfInBounds_toArray, List.set_cons_zero, List.set_cons_succ]
                  refine takeD 33 (some 218) (v := ?_) rfl rfl (by kernel_rfl) (by kernel_rfl) (by kernel_rfl) (fun _ _ _ h => h) (by rfl) ?_ (by assumption) ?_
                  rotate_left
                  · intro w hSw
                    (try dsimp only at hSw)
                    go_simp
                    try with_reducible rfl
                  try simp only [Act.put, List.setIfInBounds_toArray, List.set_cons_zero, List.set_cons_succ]
                  refine takeD 34 (some 219) (v := ?_) rfl rfl (by kernel_rfl) (by kernel_rfl) (by kernel_rfl) (fun _ _ _ h => h) (by rfl) ?_ (by assumption) ?_
                  rotate_left
                  · intro w hSw
                    (try dsimp only at hSw)
                    go_simp
                    try with_reducible rfl
                  try simp only [Act.put, List.setIfInBounds_toArray, List.set_cons_zero, List.set_cons_succ]
                  refine takeD 35 (some 220) (v := ?_) rfl rfl (by kernel_rfl) (by kernel_rfl) (by kernel_rfl) (fun _ _ _ h => h) (by rfl) ?_ (by assumption) ?_
                  rotate_left
                  · intro w hSw
                    (try dsimp only at hSw)
                    go_simp
                    try with_reducible rfl
                  try simp only [Act.put, List.setIfInBounds_toArray, List.set_cons_zero, List.set_cons_succ]
                  refine takeD 36 (some 221) (v := ?_) rfl rfl (by kernel_rfl) (by kernel_rfl) (by kernel_rfl) (fun _ _ _ h => h) (by rfl) ?_ (by assumption) ?_
                  rotate_left
                  · intro w hSw
                    (try dsimp only at hSw)
                    go_simp
                    try with_reducible rfl
                  try simp only [Act.put, List.setIfInBounds_toArray, List.set_cons_zero, List.set_cons_succ]
                  refine wpAnyH_done (by kernel_rfl) ?_ _
                  refine nameV (fun W => Below W25.heap.size W25 W) hHeld fun W7 h7 => ?_
                  have H7 := Lib.hid h7
                  clear hHeld h7 d0 d1 d2 d3 dQ y0 y1 z0 z1
                  go_wp2
                  go_roundw
                  case rel => exact ⟨j + 1, by omega, by go_num, Btrans HB25.out H7.out, HQ25.out.below H7.out, _, _, _, _, Sa25.out.below H7.out, Sb25.out.below H7.out, next_oks _ (ack_oks o.R HLr.out), next_oks _ HMr.out, next_oks _ HL2r.out, next_oks _ (ack_oks q.C HM2r.out), by rw [List.length_map, HMl.out], by rw [List.length_map, ackL_len, HMl2.out], by rw [List.length_map, ackL_len, HLl.out], by rw [List.length_map, HLl2.out], (HSr.out.ack o.R).next _, HNX.out⟩
                  case measure => simp [intOf]; omega
          · have gm : decide ((q.cs.length : Int) ≠ (N : Int)) = true := decide_eq_true (by omega)
            have gm3 : ((q.cs.length : Int) != (N : Int)) = true := by simp; omega
            have gm5 : (q.cs.length != N) = true := by simp; omega
            have gm6 : ((q.cs.length : Int) == (N : Int)) = false := by simp; omega
            have gm7 : (q.cs.length == N) = false := by simp; omega
            have hfin := (HBZ.out.trans (HB20.out.mono HBZ.out.size))
            go_wp2
            go_ret
            exact ⟨by first | rfl | simp, hfin⟩
        · have gn : decide ((o.cs.length : Int) ≠ (N : Int)) = true := decide_eq_true (by omega)
          have gn3 : ((o.cs.length : Int) != (N : Int)) = true := by simp; omega
          have gn5 : (o.cs.length != N) = true := by simp; omega
          have gn6 : ((o.cs.length : Int) == (N : Int)) = false := by simp; omega
          have gn7 : (o.cs.length == N) = false := by simp; omega
          have hfin := (HBZ.out.trans (HB20.out.mono HBZ.out.size))
          go_wp2
          go_ret
          exact ⟨by first | rfl | simp, hfin⟩
      · have gmm : decide ((j : Int) < (m.length : Int)) = false := decide_eq_false (by omega)
        have hfin := (HBZ.out.trans (HB20.out.mono HBZ.out.size))
        go_wp2
        go_ret
        exact ⟨by first | rfl | simp, hfin⟩
    · obtain rfl : j = l.length := by omega
      have cQ := HQ20.out.cells
      have lQ := HQ20.out.lt
      have hfin := (HBZ.out.trans (HB20.out.mono HBZ.out.size))
      go_wp2
      go_ret
      exact ⟨by first | rfl | simp, hfin⟩
theorem walk_AlarmApart (vc : Value) (z : Cf × List Rl) (vl : Value) (l : List Ol) (vm : Value) (m : List Ol) (wh : Int) (w : World) (h0 : ConfV w vc z) (h1 : OpsV w vl l) (h2 : OpsV w vm m) (w3 : (Lit.int .u8 wh).wf = true) :
    Calls Try.prog 5 #[vc, vl, vm, .int .u8 wh] w fun e w' => e = .returned (.bool true) ∧ Below w.heap.size w w' := walkH_AlarmApart head_any vc z vl l vm m wh w h0 h1 h2 w3
end Go.Proofs.Ytcdmojimdiiepaa
