/- Layer 21: each alarm by its own steps; what five tables hold. -/
import Derived.Test.YtcdmojimdiiepaaJar
import Derived.Test.YtcdmojimdiiepaaAlarmL
import Derived.Test.YtcdmojimdiiepaaAlm
namespace Go.Proofs.Ytcdmojimdiiepaa
open Go.ChangeShapes Go.WideShapes Go.ChangeAt Go.RowKit
set_option linter.unusedVariables false
set_option linter.unusedSimpArgs false

theorem getD_left {α : Type} {l : List α} {i : Nat} {a x : α} (h : i < l.length) : (l ++ [x]).getD i a = l.getD i a := by
  simp only [List.getD_eq_getElem?_getD]
  rw [List.getElem?_append_left h]
theorem getD_last {α : Type} {l : List α} {i : Nat} {a x : α} (h : i = l.length) : (l ++ [x]).getD i a = x := by
  subst h
  simp [List.getD_eq_getElem?_getD]
theorem prun_app (h : Int) (la : Bool) (l : List Int) (m : List Bool) (t : Int) (a : Bool) (hm : m.length = l.length) : ∀ k, k ≤ l.length → prun h la (l ++ [t]) (m ++ [a]) k = prun h la l m k := by
  intro k
  induction k with
  | zero => intro _; rfl
  | succ k ih =>
    intro hk
    show pstep h la (prun h la (l ++ [t]) (m ++ [a]) k) _ _ = pstep h la (prun h la l m k) _ _
    rw [ih (by omega), getD_left (by omega), getD_left (by omega)]
theorem prun_last (h : Int) (la : Bool) (l : List Int) (m : List Bool) (t : Int) (a : Bool) (hm : m.length = l.length) : prun h la (l ++ [t]) (m ++ [a]) (l.length + 1) = pstep h la (prun h la l m l.length) t a := by
  show pstep h la (prun h la (l ++ [t]) (m ++ [a]) l.length) _ _ = _
  rw [prun_app h la l m t a hm _ (Nat.le_refl _), getD_last rfl, getD_last hm.symm]
theorem palarms_app (h : Int) (la : Bool) (l : List Int) (m : List Bool) (t : Int) (a : Bool) (hm : m.length = l.length) : palarms h la (l ++ [t]) (m ++ [a]) = palarms h la l m ++ [((pstep h la (prun h la l m l.length) t a).on, (pstep h la (prun h la l m l.length) t a).now)] := by
  unfold palarms
  rw [List.length_append, List.length_singleton, palarmsTo_succ, prun_last h la l m t a hm]
  congr 1
  unfold palarmsTo
  apply List.map_congr_left
  intro i hi
  rw [prun_app h la l m t a hm _ (by have := List.mem_range.1 hi; omega)]
theorem trun_app (k : Int) (l m : List Bool) (t a : Bool) (hm : m.length = l.length) : ∀ n, n ≤ l.length → trun k (l ++ [t]) (m ++ [a]) n = trun k l m n := by
  intro n
  induction n with
  | zero => intro _; rfl
  | succ n ih =>
    intro hn
    show tstep k (trun k (l ++ [t]) (m ++ [a]) n) _ _ = tstep k (trun k l m n) _ _
    rw [ih (by omega), getD_left (by omega), getD_left (by omega)]
theorem trun_last (k : Int) (l m : List Bool) (t a : Bool) (hm : m.length = l.length) : trun k (l ++ [t]) (m ++ [a]) (l.length + 1) = tstep k (trun k l m l.length) t a := by
  show tstep k (trun k (l ++ [t]) (m ++ [a]) l.length) _ _ = _
  rw [trun_app k l m t a hm _ (Nat.le_refl _), getD_last rfl, getD_last hm.symm]
theorem talarms_app (k : Int) (l m : List Bool) (t a : Bool) (hm : m.length = l.length) : talarms k (l ++ [t]) (m ++ [a]) = talarms k l m ++ [((tstep k (trun k l m l.length) t a).on, (tstep k (trun k l m l.length) t a).now)] := by
  unfold talarms
  rw [List.length_append, List.length_singleton, talarmsTo_succ, trun_last k l m t a hm]
  congr 1
  unfold talarmsTo
  apply List.map_congr_left
  intro i hi
  rw [trun_app k l m t a hm _ (by have := List.mem_range.1 hi; omega)]

def truL (l : List T) (os : List Ol) : List Int := os.map fun o => saysR l o.cs
def akR (k : Nat) (os : List Ol) : List Bool := os.map fun o => decide (o.R = (k : Int))
def smC (ch : Nat) (os : List Ol) : List Bool := os.map fun o => sampB o.cs ch
def okC (ch : Nat) (os : List Ol) : List Bool := os.map fun o => decide (o.C = (ch : Int))
def tolR (r : Rl) (k : Nat) (os : List Ol) : List (Bool × Bool) := palarms r.hold r.latch (truL r.l os) (akR k os)
def tolC (St : Int) (ch : Nat) (os : List Ol) : List (Bool × Bool) := talarms St (smC ch os) (okC ch os)
def stR (r : Rl) (k : Nat) (os : List Ol) : Ph := prun r.hold r.latch (truL r.l os) (akR k os) os.length
def stC (St : Int) (ch : Nat) (os : List Ol) : Te := trun St (smC ch os) (okC ch os) os.length
def outR (r : Rl) (k : Nat) (os : List Ol) (o : Ol) : Bool × Bool := ((pstep r.hold r.latch (stR r k os) (saysR r.l o.cs) (decide (o.R = (k : Int)))).on, (pstep r.hold r.latch (stR r k os) (saysR r.l o.cs) (decide (o.R = (k : Int)))).now)
def outC (St : Int) (ch : Nat) (os : List Ol) (o : Ol) : Bool × Bool := ((tstep St (stC St ch os) (sampB o.cs ch) (decide (o.C = (ch : Int)))).on, (tstep St (stC St ch os) (sampB o.cs ch) (decide (o.C = (ch : Int)))).now)
theorem truL_app (l : List T) (os : List Ol) (o : Ol) : truL l (os ++ [o]) = truL l os ++ [saysR l o.cs] := by simp [truL]
theorem akR_app (k : Nat) (os : List Ol) (o : Ol) : akR k (os ++ [o]) = akR k os ++ [decide (o.R = (k : Int))] := by simp [akR]
theorem smC_app (k : Nat) (os : List Ol) (o : Ol) : smC k (os ++ [o]) = smC k os ++ [sampB o.cs k] := by simp [smC]
theorem okC_app (k : Nat) (os : List Ol) (o : Ol) : okC k (os ++ [o]) = okC k os ++ [decide (o.C = (k : Int))] := by simp [okC]
theorem tolR_app (r : Rl) (k : Nat) (os : List Ol) (o : Ol) : tolR r k (os ++ [o]) = tolR r k os ++ [outR r k os o] := by
  unfold tolR
  rw [truL_app, akR_app, palarms_app _ _ _ _ _ _ (by simp [truL, akR])]
  have e : (truL r.l os).length = os.length := by simp [truL]
  rw [e]
  rfl
theorem tolC_app (St : Int) (k : Nat) (os : List Ol) (o : Ol) : tolC St k (os ++ [o]) = tolC St k os ++ [outC St k os o] := by
  unfold tolC
  rw [smC_app, okC_app, talarms_app _ _ _ _ _ (by simp [smC, okC])]
  have e : (smC k os).length = os.length := by simp [smC]
  rw [e]
  rfl
theorem stR_app (r : Rl) (k : Nat) (os : List Ol) (o : Ol) : stR r k (os ++ [o]) = pstep r.hold r.latch (stR r k os) (saysR r.l o.cs) (decide (o.R = (k : Int))) := by
  unfold stR
  have e : (truL r.l os).length = os.length := by simp [truL]
  rw [truL_app, akR_app, List.length_append, List.length_singleton]
  have := prun_last r.hold r.latch (truL r.l os) (akR k os) (saysR r.l o.cs) (decide (o.R = (k : Int))) (by simp [truL, akR])
  rw [e] at this
  exact this
theorem stC_app (St : Int) (k : Nat) (os : List Ol) (o : Ol) : stC St k (os ++ [o]) = tstep St (stC St k os) (sampB o.cs k) (decide (o.C = (k : Int))) := by
  unfold stC
  have e : (smC k os).length = os.length := by simp [smC]
  rw [smC_app, okC_app, List.length_append, List.length_singleton]
  have := trun_last St (smC k os) (okC k os) (sampB o.cs k) (decide (o.C = (k : Int))) (by simp [smC, okC])
  rw [e] at this
  exact this
theorem ackL_i {n : Int} {L : List Wt} {i : Nat} {x : Wt} (h : L[i]? = some x) : (ackL n L)[i]? = some (if n = (i : Int) then x.ack else x) := by
  have hi := (List.getElem?_eq_some_iff.1 h).1
  unfold ackL
  split
  · rename_i hn
    rw [List.getElem?_modify, h]
    by_cases e : n = (i : Int)
    · rw [if_pos e]
      show some (if n.toNat = i then x.ack else x) = _
      rw [if_pos (by omega)]
    · rw [if_neg e]
      show some (if n.toNat = i then x.ack else x) = _
      rw [if_neg (by omega)]
  · rename_i hn
    rw [h, if_neg (by omega)]
/-- the alarms are folds -/
structure Fd (L M : List Wt) (rs : List Rl) (k : Int) (os : List Ol) (N : Nat) : Prop where
  r : ∀ (i : Nat) (r : Rl), rs[i]? = some r → L[i]? = some (.rule r.A r.rc r.hold r.latch r.l (stR r i os) false)
  c : ∀ i : Nat, i < N → M[i]? = some (.chan k i (stC k i os) false)
theorem Fd.new (c : Cf) (rs : List Rl) : Fd (newL rs) (newM c) rs c.St [] (chansOf c.rows).length := by
  refine ⟨fun i r hr => ?_, fun i hi => ?_⟩
  · unfold newL
    rw [List.getElem?_map, hr]
    rfl
  · unfold newM
    rw [List.getElem?_map, List.getElem?_range hi]
    rfl
theorem Fd.atR {L M : List Wt} {rs : List Rl} {k : Int} {os : List Ol} {N : Nat} (h : Fd L M rs k os N) (o : Ol) {i : Nat} {r : Rl} (hr : rs[i]? = some r) : ((ackL o.R L).map (Wt.next o.cs))[i]? = some (.rule r.A r.rc r.hold r.latch r.l (stR r i (os ++ [o])) false) := by
  rw [List.getElem?_map, ackL_i (h.r i r hr), stR_app]
  by_cases e : o.R = (i : Int)
  · rw [if_pos e, decide_eq_true e]; rfl
  · rw [if_neg e, decide_eq_false e]; rfl
theorem Fd.atC {L M : List Wt} {rs : List Rl} {k : Int} {os : List Ol} {N : Nat} (h : Fd L M rs k os N) (o : Ol) {i : Nat} (hi : i < N) : ((ackL o.C M).map (Wt.next o.cs))[i]? = some (.chan k i (stC k i (os ++ [o])) false) := by
  rw [List.getElem?_map, ackL_i (h.c i hi), stC_app]
  by_cases e : o.C = (i : Int)
  · rw [if_pos e, decide_eq_true e]; rfl
  · rw [if_neg e, decide_eq_false e]; rfl
theorem Fd.next {L M : List Wt} {rs : List Rl} {k : Int} {os : List Ol} {N : Nat} (h : Fd L M rs k os N) (o : Ol) : Fd ((ackL o.R L).map (Wt.next o.cs)) ((ackL o.C M).map (Wt.next o.cs)) rs k (os ++ [o]) N :=
  ⟨fun i r hr => h.atR o hr, fun i hi => h.atC o hi⟩
theorem Fd.alR {L M : List Wt} {rs : List Rl} {k : Int} {os : List Ol} {N : Nat} (h : Fd L M rs k os N) (o : Ol) {i : Nat} {r : Rl} (hr : rs[i]? = some r) : ((ackL o.R L).map fun x => (x.next o.cs).al)[i]? = some (outR r i os o) := by
  have := h.atR o hr
  rw [List.getElem?_map] at this ⊢
  obtain ⟨x, hx, e⟩ := Option.map_eq_some_iff.1 this
  rw [hx, Option.map_some, e, stR_app]
  rfl
theorem Fd.alC {L M : List Wt} {rs : List Rl} {k : Int} {os : List Ol} {N : Nat} (h : Fd L M rs k os N) (o : Ol) {i : Nat} (hi : i < N) : ((ackL o.C M).map fun x => (x.next o.cs).al)[i]? = some (outC k i os o) := by
  have := h.atC o hi
  rw [List.getElem?_map] at this ⊢
  obtain ⟨x, hx, e⟩ := Option.map_eq_some_iff.1 this
  rw [hx, Option.map_some, e, stC_app]
  rfl
/-- what slot i of table q holds -/
def tabs (rs : List Rl) (k : Int) (os : List Ol) (q i : Nat) : List Value :=
  match q with
  | 0 => (truL (rs.getD i default).l os).map (.int .i64)
  | 1 => (akR i os).map .bool
  | 2 => (smC i os).map .bool
  | 3 => (okC i os).map .bool
  | _ => al2 (if i < rs.length then tolR (rs.getD i default) i os else tolC k (i - rs.length) os)
def news (rs : List Rl) (k : Int) (os : List Ol) (o : Ol) (q i : Nat) : List Value :=
  match q with
  | 0 => [.int .i64 (saysR (rs.getD i default).l o.cs)]
  | 1 => [.bool (decide (o.R = (i : Int)))]
  | 2 => [.bool (sampB o.cs i)]
  | 3 => [.bool (decide (o.C = (i : Int)))]
  | _ => al2 [if i < rs.length then outR (rs.getD i default) i os o else outC k (i - rs.length) os o]
theorem tabs_nil (rs : List Rl) (k : Int) (q i : Nat) : tabs rs k [] q i = [] := by
  match q with
  | 0 => rfl
  | 1 => rfl
  | 2 => rfl
  | 3 => rfl
  | n + 4 =>
    show al2 _ = []
    split <;> rfl
theorem tabs_app (rs : List Rl) (k : Int) (os : List Ol) (o : Ol) (q i : Nat) : tabs rs k (os ++ [o]) q i = tabs rs k os q i ++ news rs k os o q i := by
  match q with
  | 0 => show List.map _ _ = List.map _ _ ++ _; rw [truL_app, List.map_append]; rfl
  | 1 => show List.map _ _ = List.map _ _ ++ _; rw [akR_app, List.map_append]; rfl
  | 2 => show List.map _ _ = List.map _ _ ++ _; rw [smC_app, List.map_append]; rfl
  | 3 => show List.map _ _ = List.map _ _ ++ _; rw [okC_app, List.map_append]; rfl
  | n + 4 =>
    show al2 _ = al2 _ ++ al2 _
    rw [← al2_app]
    congr 1
    split
    · exact tolR_app _ _ _ _
    · exact tolC_app _ _ _ _
def mix (rs : List Rl) (k : Int) (os : List Ol) (o : Ol) (D : Nat → Nat → Bool) (q i : Nat) : List Value := if D q i = true then tabs rs k (os ++ [o]) q i else tabs rs k os q i
theorem Jar.step {w V V' : World} {base q i m : Nat} {own : Own} {S : Spec} {rs : List Rl} {k : Int} {os : List Ol} {o : Ol} {D D' : Nat → Nat → Bool} {v v' : Value} (h : Jar w base own S (mix rs k os o D)) (hq : q < 5) (hi : i < S.n q) (hD : D q i = false)
    (hD' : ∀ p j, p < 5 → j < S.n p → (D' p j = true ↔ (D p j = true ∨ (p = q ∧ j = i)))) (hb : Below w.heap.size w V) (hg : V.grownBy V' v.ownBlock) (hv : ∀ g, v.ownBlock = some g → own g = (q, i) ∧ base ≤ g)
    (ho : V'.ownsRow base (S.e q) (S.k q) v' m (tabs rs k os q i ++ news rs k os o q i)) (hor : v'.ownBlock = v.ownBlock ∨ v'.ownBlock = some V.heap.size) :
    Jar (V'.setCell ⟨S.tb q, i, none⟩ v') base (own2 V own q i) S (mix rs k os o D') := by
  have e0 : mix rs k os o D q i = tabs rs k os q i := by unfold mix; rw [hD]; rfl
  refine (h.push (ys := news rs k os o q i) hq hi hb hg hv (by rw [e0]; exact ho) hor).congr (fun p j hp hj => ?_)
  have hd := hD' p j hp hj
  unfold mix
  by_cases e : p = q ∧ j = i
  · rw [if_pos e, if_pos (hd.2 (.inr e))]
    obtain ⟨rfl, rfl⟩ := e
    rw [hD, tabs_app]
    rfl
  · rw [if_neg e]
    by_cases c : D p j = true
    · rw [if_pos c, if_pos (hd.2 (.inl c))]
    · rw [if_neg c, if_neg (fun h => by rcases hd.1 h with h | h <;> contradiction)]
/-- rules ahead of k are done; of rule k the first s tables -/
def D1 (k s : Nat) (q i : Nat) : Bool := decide ((i < k ∧ (q = 0 ∨ q = 1 ∨ q = 4)) ∨ (i = k ∧ ((q = 0 ∧ 1 ≤ s) ∨ (q = 1 ∧ 2 ≤ s))))
/-- all rules are done, and channels ahead of m; of channel m the first s tables -/
def D2 (nR m s : Nat) (q i : Nat) : Bool := decide (q = 0 ∨ q = 1 ∨ (q = 4 ∧ i < nR + m) ∨ ((q = 2 ∨ q = 3) ∧ i < m) ∨ (i = m ∧ ((q = 2 ∧ 1 ≤ s) ∨ (q = 3 ∧ 2 ≤ s))))
theorem mix_all {rs : List Rl} {k : Int} {os : List Ol} {o : Ol} {w : World} {base : Nat} {own : Own} {S : Spec} {D : Nat → Nat → Bool} (h : Jar w base own S (mix rs k os o D)) (hD : ∀ q i, q < 5 → i < S.n q → D q i = true) : Jar w base own S (tabs rs k (os ++ [o])) :=
  h.congr fun q i hq hi => by unfold mix; rw [if_pos (hD q i hq hi)]
theorem mix_none {rs : List Rl} {k : Int} {os : List Ol} {o : Ol} {w : World} {base : Nat} {own : Own} {S : Spec} {D : Nat → Nat → Bool} (h : Jar w base own S (tabs rs k os)) (hD : ∀ q i, q < 5 → i < S.n q → D q i = false) : Jar w base own S (mix rs k os o D) :=
  h.congr fun q i hq hi => by unfold mix; rw [hD q i hq hi]; rfl
def spec (t nR N : Nat) : Spec where
  tb q := t + q
  ts q := match q with | 0 => 46 | 4 => 38 | _ => 51
  e q := match q with | 0 => 3 | 4 => 53 | _ => 4
  k q := match q with | 4 => 2 | _ => 1
  n q := match q with | 0 => nR | 1 => nR | 4 => nR + N | _ => N
theorem spec_n (t nR N q : Nat) (hq : q < 5) : (spec t nR N).n q = if q = 0 ∨ q = 1 then nR else if q = 4 then nR + N else N := by
  match q, hq with
  | 0, _ => rfl
  | 1, _ => rfl
  | 2, _ => rfl
  | 3, _ => rfl
  | 4, _ => rfl
theorem D1_start (t nR N : Nat) : ∀ q i, q < 5 → i < (spec t nR N).n q → D1 0 0 q i = false := by
  intro q i _ _
  simp [D1]
theorem D1_step (t nR N k s q0 : Nat) (hs : (s = 0 ∧ q0 = 0) ∨ (s = 1 ∧ q0 = 1)) : D1 k s q0 k = false ∧ ∀ p j, p < 5 → j < (spec t nR N).n p → (D1 k (s + 1) p j = true ↔ (D1 k s p j = true ∨ (p = q0 ∧ j = k))) := by
  refine ⟨by simp [D1]; omega, fun p j _ _ => ?_⟩
  simp only [D1, decide_eq_true_eq]
  omega
theorem D1_next (t nR N k : Nat) : D1 k 2 4 k = false ∧ ∀ p j, p < 5 → j < (spec t nR N).n p → (D1 (k + 1) 0 p j = true ↔ (D1 k 2 p j = true ∨ (p = 4 ∧ j = k))) := by
  refine ⟨by simp [D1], fun p j _ _ => ?_⟩
  simp only [D1, decide_eq_true_eq]
  omega
theorem D12 (t nR N : Nat) : ∀ p j, p < 5 → j < (spec t nR N).n p → D1 nR 0 p j = D2 nR 0 0 p j := by
  intro p j hp hj
  rw [spec_n _ _ _ _ hp] at hj
  apply Bool.eq_iff_iff.2
  simp only [D1, D2, decide_eq_true_eq]
  split at hj
  · omega
  · split at hj <;> omega
theorem D2_step (t nR N m s q0 : Nat) (hs : (s = 0 ∧ q0 = 2) ∨ (s = 1 ∧ q0 = 3)) : D2 nR m s q0 m = false ∧ ∀ p j, p < 5 → j < (spec t nR N).n p → (D2 nR m (s + 1) p j = true ↔ (D2 nR m s p j = true ∨ (p = q0 ∧ j = m))) := by
  refine ⟨by simp [D2]; omega, fun p j _ _ => ?_⟩
  simp only [D2, decide_eq_true_eq]
  omega
theorem D2_next (t nR N m : Nat) : D2 nR m 2 4 (nR + m) = false ∧ ∀ p j, p < 5 → j < (spec t nR N).n p → (D2 nR (m + 1) 0 p j = true ↔ (D2 nR m 2 p j = true ∨ (p = 4 ∧ j = nR + m))) := by
  refine ⟨by simp [D2], fun p j hp hj => ?_⟩
  simp only [D2, decide_eq_true_eq]
  omega
theorem D2_end (t nR N : Nat) : ∀ q i, q < 5 → i < (spec t nR N).n q → D2 nR N 0 q i = true := by
  intro q i hq hi
  rw [spec_n _ _ _ _ hq] at hi
  simp only [D2, decide_eq_true_eq]
  split at hi
  · omega
  · split at hi <;> omega
theorem mix_congr {rs : List Rl} {k : Int} {os : List Ol} {o : Ol} {w : World} {base : Nat} {own : Own} {S : Spec} {D D' : Nat → Nat → Bool} (h : Jar w base own S (mix rs k os o D)) (hD : ∀ q i, q < 5 → i < S.n q → D q i = D' q i) : Jar w base own S (mix rs k os o D') :=
  h.congr fun q i hq hi => by unfold mix; rw [hD q i hq hi]
theorem mix_at {rs : List Rl} {k : Int} {os : List Ol} {o : Ol} {D : Nat → Nat → Bool} {q i : Nat} (h : D q i = false) : mix rs k os o D q i = tabs rs k os q i := by unfold mix; rw [h]; rfl
theorem tabs_len (rs : List Rl) (k : Int) (os : List Ol) (q i : Nat) : (tabs rs k os q i).length = os.length * (match q with | 0 => 1 | 1 => 1 | 2 => 1 | 3 => 1 | _ => 2) := by
  match q with
  | 0 => simp [tabs, truL]
  | 1 => simp [tabs, akR]
  | 2 => simp [tabs, smC]
  | 3 => simp [tabs, okC]
  | n + 4 =>
    show (al2 _).length = os.length * 2
    rw [al2_len]
    split
    · rw [show (tolR (rs.getD i default) i os).length = os.length by simp [tolR, palarms, palarmsTo, truL]]
    · rw [show (tolC k (i - rs.length) os).length = os.length by simp [tolC, talarms, talarmsTo, smC]]
theorem elI1 : Elem Try.prog 46 3 1 8 := Elem.mk' (z := .int .i64 0) Try.underlying46 (by kernel_rfl) rfl (by decide)
theorem elB1 : Elem Try.prog 51 4 1 1 := Elem.mk' (z := .bool false) Try.underlying51 (by kernel_rfl) rfl (by decide)
theorem mkTx (t e : TypeId) (bytes n : Nat) (ht : Try.prog.underlying t = some (.slice e)) (hinfo : (Try.prog.info? e).map (fun i => (i.zero, i.size, i.bytes)) = some (some (.slice none 0 0), 1, 24)) (hn : n ≤ 100000) :
    ∀ w, (Instr.makeSlice t (.int .i64 (n : Int)) (.int .i64 (n : Int))).run Try.prog w = .ok (.slice (some ⟨w.heap.size, 0, none⟩) n n) (w.alloc (.cells (Array.replicate n (.slice none 0 0)) e)) := by
  intro w
  have h := run_make_rowN (k := 1) t e (.slice none 0 0) 24 ht hinfo .i64 .i64 n (by omega) (by omega) w
  rw [h, Nat.mul_one, madeCells_rep _ (.slice none 0 0) n (by intro i hi; match i, hi with | 0, _ => rfl) (by decide)]
  simp
theorem mkTI (n : Nat) (hn : n ≤ 100000) : ∀ w, (Instr.makeSlice 22 (.int .i64 (n : Int)) (.int .i64 (n : Int))).run Try.prog w = .ok (.slice (some ⟨w.heap.size, 0, none⟩) n n) (w.alloc (.cells (Array.replicate n (.slice none 0 0)) 46)) := mkTx _ _ 24 n Try.underlying22 (by kernel_rfl) hn
theorem mkTB (n : Nat) (hn : n ≤ 100000) : ∀ w, (Instr.makeSlice 44 (.int .i64 (n : Int)) (.int .i64 (n : Int))).run Try.prog w = .ok (.slice (some ⟨w.heap.size, 0, none⟩) n n) (w.alloc (.cells (Array.replicate n (.slice none 0 0)) 51)) := mkTx _ _ 24 n Try.underlying44 (by kernel_rfl) hn
theorem mkTA (n : Nat) (hn : n ≤ 100000) : ∀ w, (Instr.makeSlice 45 (.int .i64 (n : Int)) (.int .i64 (n : Int))).run Try.prog w = .ok (.slice (some ⟨w.heap.size, 0, none⟩) n n) (w.alloc (.cells (Array.replicate n (.slice none 0 0)) 38)) := mkTx _ _ 24 n Try.underlying45 (by kernel_rfl) hn
theorem Jar.new {w : World} {T N : Nat} (rs : List Rl) (k : Int) (h0 : Blk w T 46 (Array.replicate rs.length (Value.slice none 0 0))) (h1 : Blk w (T + 1) 51 (Array.replicate rs.length (Value.slice none 0 0)))
    (h2 : Blk w (T + 2) 51 (Array.replicate N (Value.slice none 0 0))) (h3 : Blk w (T + 3) 51 (Array.replicate N (Value.slice none 0 0))) (h4 : Blk w (T + 4) 38 (Array.replicate (rs.length + N) (Value.slice none 0 0))) :
    Jar w (T + 5) (fun _ => (0, 0)) (spec T rs.length N) (tabs rs k []) := by
  refine ⟨fun q hq => ?_, fun p q hp hq hne => ?_, by have := h4.lt; omega⟩
  · match q, hq with
    | 0, _ => exact (Tb.new w (T + 5) _ 1 0 T _ _ 3 h0 (by omega)).congr fun i _ => (tabs_nil _ _ _ _).symm
    | 1, _ => exact (Tb.new w (T + 5) _ 1 1 (T + 1) _ _ 4 h1 (by omega)).congr fun i _ => (tabs_nil _ _ _ _).symm
    | 2, _ => exact (Tb.new w (T + 5) _ 1 2 (T + 2) _ _ 4 h2 (by omega)).congr fun i _ => (tabs_nil _ _ _ _).symm
    | 3, _ => exact (Tb.new w (T + 5) _ 1 3 (T + 3) _ _ 4 h3 (by omega)).congr fun i _ => (tabs_nil _ _ _ _).symm
    | 4, _ => exact (Tb.new w (T + 5) _ 2 4 (T + 4) _ _ 53 h4 (by omega)).congr fun i _ => (tabs_nil _ _ _ _).symm
  · show T + p ≠ T + q
    omega
/-- ways that meet again -/
theorem cut5 {A R : Option Addr → Nat → Nat → World → Prop} {G : Prop} (t : (∀ NA nc xb W, A NA nc xb W → R NA nc xb W) → G) (r : ∀ NA nc xb W, A NA nc xb W → R NA nc xb W) : G := t r
end Go.Proofs.Ytcdmojimdiiepaa
