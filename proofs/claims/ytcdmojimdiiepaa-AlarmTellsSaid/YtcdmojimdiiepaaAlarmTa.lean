/- KthreeLV, KthreeNV, RuleNV, RuleOV, AlarmU, AlarmV, AlarmW, AlarmX, AlarmY in one text. -/
import Derived.Test.YtcdmojimdiiepaaKthreeV
import Derived.Laws.AppendOwn
import Derived.Test.YtcdmojimdiiepaaRuleUV
import Derived.Test.YtcdmojimdiiepaaRuleFV
import Derived.Test.YtcdmojimdiiepaaRuleTV
import Derived.StillTailTactics
import Derived.Test.YtcdmojimdiiepaaAlarmF
import Derived.Test.YtcdmojimdiiepaaAlm
import Derived.Handy
import Derived.Test.YtcdmojimdiiepaaAlarmQ
import Derived.Test.YtcdmojimdiiepaaPhysDV
import Derived.Test.YtcdmojimdiiepaaTechDV
/- Layer 17: the laws, walked. -/
namespace Go.Proofs.Ytcdmojimdiiepaa
open Go.ChangeShapes Go.WideShapes Go.ChangeAt Go.RowKit
set_option linter.unusedVariables false
set_option linter.unusedSimpArgs false

theorem tr1 : tr 1 = 1 := rfl
theorem tr2 : tr 2 = 2 := rfl
theorem tr3 : tr 3 = 3 := rfl
theorem tr7 : tr 7 = 3 := rfl
theorem tr_id {a : Int} (h : Tr a) : tr a = a := by rcases h with rfl | rfl | rfl <;> rfl

theorem truth_tr (x : Int) : Tr (x % 3 + 1) := by unfold Tr; omega

/-- what And, Or and Not keep, of three truths -/
theorem laws3 (a b c : Int) (ha : Tr a) (hb : Tr b) (hc : Tr c) :
    and3 b a = and3 a b ∧ or3 b a = or3 a b ∧ and3 (and3 a b) c = and3 a (and3 b c) ∧ or3 (or3 a b) c = or3 a (or3 b c) ∧
    or3 (and3 a b) (and3 a c) = and3 a (or3 b c) ∧ or3 (not3 a) (not3 b) = not3 (and3 a b) ∧ not3 (not3 a) = a ∧ and3 a (or3 a b) = a ∧ and3 a a = a := by
  rcases ha with rfl | rfl | rfl <;> rcases hb with rfl | rfl | rfl <;> rcases hc with rfl | rfl | rfl <;> decide
theorem not_tr (a : Int) (ha : Tr a) : Tr (not3 a) := by unfold not3 Tr; (repeat' split) <;> omega

end Go.Proofs.Ytcdmojimdiiepaa
/- Layer 17: the document's answers, and the laws of rows, walked. -/
namespace Go.Proofs.Ytcdmojimdiiepaa
open Go.ChangeShapes Go.WideShapes Go.ChangeAt Go.RowKit
set_option linter.unusedVariables false
set_option linter.unusedSimpArgs false

theorem el64 : Elem Try.prog 46 3 1 8 := Elem.mk' (z := .int .i64 0) Try.underlying46 (by kernel_rfl) rfl (by omega)

theorem tr_and (a b : Int) : and3 (tr a) (tr b) = and3 a b := by unfold and3 tr; (repeat' split) <;> omega
theorem tr_or (a b : Int) : or3 (tr a) (tr b) = or3 a b := by unfold or3 tr; (repeat' split) <;> omega
theorem tr_not (a : Int) : not3 (tr a) = not3 a := by unfold not3 tr; (repeat' split) <;> omega

theorem rnot_any (a : Int) (w : World) :
    Calls Try.prog 62 #[.int .i64 a] w fun e w' => e = .returned (.int .i64 (not3 a)) ∧ w = w' := by
  go_enter Try.func62, Try.ntmps62
  go_wp2
  all_goals
    go_ret
    refine ⟨ret_int ?_, rfl⟩
    simp_all [not3]
theorem rand_any (a b : Int) (w : World) :
    Calls Try.prog 63 #[.int .i64 a, .int .i64 b] w fun e w' => e = .returned (.int .i64 (and3 a b)) ∧ w = w' := by
  by_cases h1 : a = 1 <;> by_cases h2 : b = 1 <;> by_cases h3 : a = 2 <;> by_cases h4 : b = 2
  all_goals first | omega | skip
  all_goals
    first | subst h1 | skip
    first | subst h2 | skip
    first | subst h3 | skip
    first | subst h4 | skip
    go_enter Try.func63, Try.ntmps63
    go_wp2
    all_goals
      go_ret
      refine ⟨ret_int ?_, rfl⟩
      simp_all [and3]
theorem ror_any (a b : Int) (w : World) :
    Calls Try.prog 64 #[.int .i64 a, .int .i64 b] w fun e w' => e = .returned (.int .i64 (or3 a b)) ∧ w = w' := by
  by_cases h1 : a = 1 <;> by_cases h2 : b = 1 <;> by_cases h3 : a = 2 <;> by_cases h4 : b = 2
  all_goals first | omega | skip
  all_goals
    first | subst h1 | skip
    first | subst h2 | skip
    first | subst h3 | skip
    first | subst h4 | skip
    go_enter Try.func64, Try.ntmps64
    go_wp2
    all_goals
      go_ret
      refine ⟨ret_int ?_, rfl⟩
      simp_all [or3]
theorem krof_any (b : Bool) (w : World) :
    Calls Try.prog 61 #[.bool b] w fun e w' => e = .returned (.int .i64 (if b then 2 else 1)) ∧ w = w' := by
  cases b
  all_goals
    go_enter Try.func61, Try.ntmps61
    go_wp2
    go_ret
    exact ⟨rfl, rfl⟩

theorem all3_snoc (l : List Int) (x : Int) : all3 (l ++ [x]) = and3 (all3 l) x := by
  unfold all3
  rw [foldT_snoc]
  rcases foldT_tr and3 2 l (.inr (.inl rfl)) and_tr with h | h | h <;> rw [h] <;> unfold and3 tr <;> (repeat' split) <;> omega
theorem any3_snoc (l : List Int) (x : Int) : any3 (l ++ [x]) = or3 (any3 l) x := by
  unfold any3
  rw [foldT_snoc]
  rcases foldT_tr or3 1 l (.inl rfl) or_tr with h | h | h <;> rw [h] <;> unfold or3 tr <;> (repeat' split) <;> omega

theorem foldT_app (g : Int → Int → Int) (f : Int) (l m : List Int) : foldT g f (l ++ m) = foldT g (foldT g f l) m := by simp [foldT]
theorem and_all (a : Int) (ha : Tr a) (m : List Int) : foldT and3 a m = and3 a (all3 m) := by
  have key : ∀ r : List Int, foldT and3 a r.reverse = and3 a (all3 r.reverse) := by
    intro r
    induction r with
    | nil => rcases ha with rfl | rfl | rfl <;> rfl
    | cons x r ih =>
      rw [List.reverse_cons, foldT_snoc, ih]
      unfold all3
      rw [foldT_snoc]
      exact (laws3 a _ (tr x) ha (foldT_tr and3 2 r.reverse (.inr (.inl rfl)) and_tr) (tr_tr x)).2.2.1
  have := key m.reverse
  simpa using this
theorem or_any3 (a : Int) (ha : Tr a) (m : List Int) : foldT or3 a m = or3 a (any3 m) := by
  have key : ∀ r : List Int, foldT or3 a r.reverse = or3 a (any3 r.reverse) := by
    intro r
    induction r with
    | nil => rcases ha with rfl | rfl | rfl <;> rfl
    | cons x r ih =>
      rw [List.reverse_cons, foldT_snoc, ih]
      unfold any3
      rw [foldT_snoc]
      exact (laws3 a _ (tr x) ha (foldT_tr or3 1 r.reverse (.inl rfl) or_tr) (tr_tr x)).2.2.2.1
  have := key m.reverse
  simpa using this
theorem all3_tr (l : List Int) : Tr (all3 l) := foldT_tr and3 2 l (.inr (.inl rfl)) and_tr
theorem any3_tr (l : List Int) : Tr (any3 l) := foldT_tr or3 1 l (.inl rfl) or_tr
theorem all3_app (l m : List Int) : all3 (l ++ m) = and3 (all3 l) (all3 m) := by
  show foldT and3 2 (l ++ m) = _
  rw [foldT_app]
  exact and_all _ (all3_tr l) m
theorem any3_app (l m : List Int) : any3 (l ++ m) = or3 (any3 l) (any3 m) := by
  show foldT or3 1 (l ++ m) = _
  rw [foldT_app]
  exact or_any3 _ (any3_tr l) m
end Go.Proofs.Ytcdmojimdiiepaa
/- Layer 18: channels, by the document. -/
namespace Go.Proofs.Ytcdmojimdiiepaa
open Go.ChangeShapes Go.WideShapes Go.ChangeAt Go.RowKit
set_option linter.unusedVariables false
set_option linter.unusedSimpArgs false

theorem insU_at (x : Int) : ∀ (o : List Int) (k : Nat), k ≤ o.length → (∀ y ∈ o.take k, y < x) → (∀ y, o[k]? = some y → ¬ y < x) → insU o x = if o[k]? = some x then o else o.take k ++ [x] ++ o.drop k
  | [], k, _, _, _ => by simp [insU]
  | y :: o, 0, _, _, h => by
    have hy := h y rfl
    unfold insU
    by_cases h1 : x < y
    · rw [if_pos h1, if_neg (by simp; omega)]; rfl
    · rw [if_neg h1]
      by_cases h2 : x = y
      · rw [if_pos h2, if_pos (by simp [h2])]
      · exact absurd (show y < x by omega) hy
  | y :: o, k + 1, hk, ht, h => by
    have hy : y < x := ht y (by simp)
    have ih := insU_at x o k (by simpa using hk) (fun z hz => ht z (by simp [hz])) (fun z hz => h z (by simpa using hz))
    unfold insU
    rw [if_neg (by omega), if_neg (by omega), ih]
    simp only [List.getElem?_cons_succ]
    split
    · rfl
    · simp
theorem row3_c {w : World} {ad : Addr} {c m : Nat} {ks : List Cl} {a : Cl} (h : RowN 3 w (.slice (some ad) ks.length c) ks.length (c3c ks)) (hm : ks[m]? = some a) :
    w.cell? (ad.add (m * 3)) = some (.int .i64 a.1) ∧ w.cell? ⟨(ad.add (m * 3)).block, (ad.add (m * 3)).off + 1, none⟩ = some (.int .i64 a.2.1) ∧ w.cell? ⟨(ad.add (m * 3)).block, (ad.add (m * 3)).off + 2, none⟩ = some (.int .i64 a.2.2) := by
  obtain ⟨ad', e, _, h⟩ := row3_at h hm
  injection e with e
  subst e
  exact h
theorem row_c {w : World} {od : Addr} {n c k : Nat} {xs : List Int} {x : Int} (h : Row w (.slice (some od) n c) (xs.map (.int .i64))) (hx : xs[k]? = some x) : w.cell? (od.add k) = some (.int .i64 x) := by
  obtain ⟨A, c', e, _, _, hA⟩ := h
  injection e with e1 _ _
  rcases hA with ⟨rfl, _⟩ | ⟨ad, rfl, _, hc⟩
  · cases e1
  · injection e1 with e1
    subst e1
    exact hc k _ (by rw [List.getElem?_map, hx]; rfl)
theorem row_pre {w : World} {A : Option Addr} {n c k : Nat} {xs : List Int} (h : Row w (.slice A n c) (xs.map (.int .i64))) (hk : k ≤ xs.length) : Row w (.slice A k c) ((xs.take k).map (.int .i64)) := by
  obtain ⟨A', c', e, h1, h2, hA⟩ := h
  injection e with e1 e2 e3
  subst e1 e3
  rw [List.length_map] at h1 hA
  have hl : ((xs.take k).map (Value.int .i64)).length = k := by simp; omega
  refine ⟨A, c, by rw [hl], by rw [hl]; omega, h2, ?_⟩
  rcases hA with h | ⟨ad, rfl, hb, hc⟩
  · exact .inl h
  · refine .inr ⟨ad, rfl, fun hp => hb (by rw [hl] at hp; omega), fun i x hx => hc i x ?_⟩
    rw [List.map_take, List.getElem?_take] at hx
    split at hx
    · exact hx
    · cases hx
theorem row_suf {w : World} {od : Addr} {n c k : Nat} {xs : List Int} (h : Row w (.slice (some od) n c) (xs.map (.int .i64))) (hk : k ≤ xs.length) : Row w (.slice (if c = k then some od else some (od.add k)) (n - k) (c - k)) ((xs.drop k).map (.int .i64)) := by
  obtain ⟨A', c', e, h1, h2, hA⟩ := h
  injection e with e1 e2 e3
  subst e1 e3
  rw [List.length_map] at h1 e2
  subst e2
  have hl : ((xs.drop k).map (Value.int .i64)).length = xs.length - k := by simp
  by_cases hck : c = k
  · rw [if_pos hck]
    have hz : (xs.drop k).map (Value.int .i64) = [] := by
      apply List.eq_nil_of_length_eq_zero
      omega
    rw [hz]
    refine ⟨_, _, by rw [show xs.length - k = 0 by omega]; rfl, by simp, by omega, .inr ⟨od, rfl, fun hp => by simp at hp, fun i x hx => by simp at hx⟩⟩
  rw [if_neg hck]
  refine ⟨_, _, by rw [hl], by rw [hl]; omega, by omega, ?_⟩
  rcases hA with ⟨h, _⟩ | ⟨ad, h, hb, hc⟩
  · cases h
  · injection h with h
    subst h
    refine .inr ⟨_, rfl, fun hp => ?_, fun i x hx => ?_⟩
    · rw [block_add]; exact hb (by rw [hl] at hp; rw [List.length_map]; omega)
    · rw [Go.Deep.add_add]
      refine hc (k + i) x ?_
      rw [List.map_drop, List.getElem?_drop] at hx
      exact hx
theorem row_sufN {w : World} {n c k : Nat} {xs : List Int} (h : Row w (.slice none n c) (xs.map (.int .i64))) (hk : k ≤ xs.length) : Row w (.slice none (n - k) (c - k)) ((xs.drop k).map (.int .i64)) := by
  obtain ⟨A', c', e, h1, h2, hA⟩ := h
  injection e with e1 e2 e3
  subst e1 e3
  rw [List.length_map] at h1 e2
  subst e2
  rcases hA with ⟨_, h0⟩ | ⟨ad, h, _⟩
  · subst h0
    have hz : xs = [] := List.eq_nil_of_length_eq_zero (by omega)
    subst hz
    simp
    exact Row.nil_
  · cases h
theorem row_len {w : World} {A : Option Addr} {n c : Nat} {xs : List Int} (h : Row w (.slice A n c) (xs.map (.int .i64))) : n = xs.length ∧ n ≤ c ∧ c ≤ maxLen := by
  obtain ⟨A', c', e, h1, h2, hA⟩ := h
  injection e with e1 e2 e3
  rw [List.length_map] at h1 e2
  omega
theorem chO_next {l : List T} {t : T} {j : Nat} (ht : l[j]? = some t) : chO (l.take (j + 1)) = if isLim t then insU (chO (l.take j)) t.2.1 else chO (l.take j) := by
  rw [List.take_add_one, ht]
  exact chO_snoc _ t
theorem own_of_row {w : World} {A : Option Addr} {c n base : Nat} {xs : List Int} (h : w.ownsRow base 3 1 (.slice A n c) n (xs.map (.int .i64))) : Row w (.slice A n c) (xs.map (.int .i64)) := Row.of_own h
end Go.Proofs.Ytcdmojimdiiepaa
/- Layer 18: what a rule says, by the document. -/
namespace Go.Proofs.Ytcdmojimdiiepaa
open Go.ChangeShapes Go.WideShapes Go.ChangeAt Go.RowKit
set_option linter.unusedVariables false
set_option linter.unusedSimpArgs false

theorem own_lowerS {w : World} {base b2 : Nat} {e : TypeId} {k n : Nat} {v : Value} {xs : List Value} (h : w.ownsRow base e k v n xs) (hl : b2 ≤ base) : w.ownsRow b2 e k v n xs := by
  obtain ⟨h1, h2⟩ := h
  rcases h2 with h2 | ⟨g, cap, cur, hv, hbg, hrest⟩
  · exact ⟨h1, .inl h2⟩
  · exact ⟨h1, .inr ⟨g, cap, cur, hv, by omega, hrest⟩⟩
theorem evalP_take {g : T → Int} {l : List T} {j : Nat} {t : T} {p : List Int} (h : evalP g (l.take j) [] = some p) (ht : l[j]? = some t) : evalP g (l.take (j + 1)) [] = stepP g t p := by
  rw [List.take_add_one, ht]
  show evalP g (l.take j ++ [t]) [] = _
  rw [evalP_app, h]
  show (stepP g t p).bind (evalP g []) = _
  cases stepP g t p <;> rfl
theorem need_n {g : T → Int} {l : List T} {j : Nat} {t : T} {q : List Int} (hev : evalN l 0 = some 1) (h : evalP g (l.take j) [] = some q.reverse) (ht : l[j]? = some t) (hl : isLim t = false) : (t.1 = 5 → 1 ≤ q.length) ∧ (t.1 ≠ 5 → 2 ≤ q.length) := by
  have e := eval_len g (l.take j) []
  rw [h] at e
  have e' : evalN (l.take j) 0 = some q.length := by rw [← List.length_reverse]; exact e.symm
  have hn := (evalN_take e' ht).2
  constructor
  · intro h5
    by_cases h0 : q.length = 0
    · rw [hn (by unfold stepN; rw [hl, if_neg (by decide), if_pos h5, if_pos h0])] at hev
      cases hev
    · omega
  · intro h5
    by_cases h0 : q.length < 2
    · rw [hn (by unfold stepN; rw [hl, if_neg (by decide), if_neg h5, if_pos h0])] at hev
      cases hev
    · omega
theorem rev1 {q : List Int} {m : Nat} {a : Int} (hm : q.length = m + 1) (ha : q[m]? = some a) : q.reverse = a :: (q.take m).reverse := by
  have hl : q = q.take m ++ [a] := by
    conv => lhs; rw [← List.take_append_drop m q]
    congr 1
    obtain ⟨hlt, hg⟩ := List.getElem?_eq_some_iff.1 ha
    rw [List.drop_eq_getElem_cons hlt, hg, List.drop_of_length_le (by omega)]
  conv => lhs; rw [hl]
  simp
theorem rev2 {q : List Int} {m : Nat} {a b : Int} (hm : q.length = m + 1 + 1) (hb : q[m]? = some b) (ha : q[m + 1]? = some a) : q.reverse = a :: b :: (q.take m).reverse := by
  rw [rev1 hm ha, List.take_add_one, hb]
  simp
theorem step_not {g : T → Int} {t : T} {q : List Int} {m : Nat} {a : Int} (hl : isLim t = false) (h5 : t.1 = 5) (hm : q.length = m + 1) (ha : q[m]? = some a) : stepP g t q.reverse = some (q.take m ++ [not3 a]).reverse := by
  rw [rev1 hm ha]
  unfold stepP
  rw [hl, if_neg (by decide), if_pos h5]
  simp
theorem step_and {g : T → Int} {t : T} {q : List Int} {m : Nat} {a b : Int} (hl : isLim t = false) (h3 : t.1 = 3) (hm : q.length = m + 1 + 1) (hb : q[m]? = some b) (ha : q[m + 1]? = some a) : stepP g t q.reverse = some (q.take m ++ [and3 b a]).reverse := by
  rw [rev2 hm hb ha]
  unfold stepP
  rw [hl, if_neg (by decide), if_neg (by omega)]
  show some ((if t.1 = 3 then and3 a b else or3 a b) :: (q.take m).reverse) = _
  rw [if_pos h3, show and3 a b = and3 b a by unfold and3; (repeat' split) <;> omega]
  simp
theorem step_or {g : T → Int} {t : T} {q : List Int} {m : Nat} {a b : Int} (hl : isLim t = false) (h5 : t.1 ≠ 5) (h3 : t.1 ≠ 3) (hm : q.length = m + 1 + 1) (hb : q[m]? = some b) (ha : q[m + 1]? = some a) : stepP g t q.reverse = some (q.take m ++ [or3 b a]).reverse := by
  rw [rev2 hm hb ha]
  unfold stepP
  rw [hl, if_neg (by decide), if_neg h5]
  show some ((if t.1 = 3 then and3 a b else or3 a b) :: (q.take m).reverse) = _
  rw [if_neg h3, show or3 a b = or3 b a by unfold or3; (repeat' split) <;> omega]
  simp
theorem step_lim {g : T → Int} {t : T} {q : List Int} {x : Int} (hl : isLim t = true) (hx : g t = x) : stepP g t q.reverse = some (q ++ [x]).reverse := by
  unfold stepP
  rw [hl, if_pos rfl, hx]
  simp
theorem Below.trans' {a b c : World} {B : Nat} (h : Below b.heap.size b c) (k : Below B a b) (hz : B ≤ b.heap.size) : Below B a c := k.trans (h.mono hz)
set_option maxRecDepth 100000 in
set_option maxHeartbeats 64000000 in
theorem rsays_any (v : Value) (hold : Int) (latch : Bool) (l : List T) (CA : Option Addr) (cc : Nat) (cs : List Cl) (w : World) (h : IsRule w v hold latch l) (hc : RowN 3 w (.slice CA cs.length cc) cs.length (c3c cs)) (hr : ∀ t ∈ l, tRight t (cs.length : Int) = true) (hev : evalN l 0 = some 1) (hl : l.length ≤ 100) :
    Calls Try.prog 42 #[v, .slice CA cs.length cc] w fun e w' => e = .returned (.int .i64 (saysR l cs)) ∧ Below w.heap.size w w' := by
  obtain ⟨RA, rc, rfl, hrow⟩ := h.ex
  have HROW0 := Lib.hid hrow
  have HC0 := Lib.hid hc
  have HTR := Lib.hid hr
  have HVN := Lib.hid hev
  clear h hrow hc hr hev
  go_enter Try.func42, Try.ntmps42
  go_wp2_with fail
  refine wp_world (fun W => Below w.heap.size w W ∧ Blk W w.heap.size 50 #[.slice RA l.length rc, .int .i64 hold, .bool latch]) ⟨by go_grown, Blk.new _ _ _ _ rfl⟩ fun W ⟨hbW, hBW⟩ => ?_
  have HBW0 := Lib.hid hBW
  have HW := Lib.hid hbW
  have HROWW := Lib.hid (HROW0.out.below hbW)
  have HCW := Lib.hid (HC0.out.below hbW)
  clear hbW hBW HROW0 HC0
  go_loopw [5, 6, 7, 8, 9, 10] (fun out i _ _ _ _ wr => ∃ (j : Nat) (q : List Int), j ≤ l.length ∧ q.length ≤ j ∧ i = .int .i64 j ∧ Below W.heap.size W wr ∧ evalP (gOf cs) (l.take j) [] = some q.reverse ∧ ∃ A c, out = .slice A q.length c ∧ World.ownsRow wr W.heap.size 3 1 (.slice A q.length c) q.length (q.map (.int .i64))) (fun _ i _ _ _ _ _ => l.length - (intOf i).toNat)
  case atStart => exact ⟨0, [], by omega, by simp, rfl, Below.refl _ _, rfl, none, 0, rfl, own_nil _ _⟩
  case round =>
    obtain ⟨j, q, hj, hqj, rfl, hbj, hevj, OA, oc, rfl, hro⟩ := hrel
    by_cases hlt : j < l.length
    · obtain ⟨⟨op, ch, nv⟩, ht⟩ : ∃ t, l[j]? = some t := ⟨_, List.getElem?_eq_getElem hlt⟩
      obtain ⟨ad, rfl, had, _, _, _⟩ := row3_at HROWW.out ht
      have HBW := Lib.hid HBW0.out
      obtain ⟨e0, e1, e2⟩ := row3_c (HROWW.out.below hbj) ht
      dsimp only at e0 e1 e2
      have cB := (HBW.out.below hbj).cells
      have lB := (HBW.out.below hbj).lt
      have hjl : (j : Int) < (l.length : Int) := by omega
      have HT := Lib.hid ht
      have HEV := Lib.hid (evalP_take hevj ht)
      have HEQ := Lib.hid hevj
      have HRT := Lib.hid (HTR.out _ (List.mem_of_getElem? ht))
      have HO := Lib.hid hro
      have HBU := Lib.hid hbj
      clear ht had hro hbj hevj
      go_wp2_with fail
      refine calls_world (fun V => Below W.heap.size W V ∧ World.ownsRow V W.heap.size 3 1 (.slice OA q.length oc) q.length (q.map (.int .i64)) ∧ Blk V wr.heap.size 103 #[.int .i64 op, .int .i64 ch, .int .i64 nv]) ⟨HBU.out.alloc HBU.out.size _, own_below HO.out ((Below.refl _ _).alloc (Nat.le_refl _) _), Blk.new _ _ _ _ rfl⟩ fun U0 ⟨hb0, ho0, hT0⟩ => ?_
      have HBT0 := Lib.hid hT0
      clear HBU HO e0 e1 e2 cB lB
      have HBU0 := Lib.hid hb0
      have HO0 := Lib.hid ho0
      clear hb0 ho0 hT0
      refine (rlimit_any (op, ch, nv) _).mono ?_
      rintro e U1 ⟨rfl, hk⟩
      have HBU := Lib.hid (Btrans HBU0.out hk)
      have HO := Lib.hid (own_below HO0.out hk)
      have HBT := Lib.hid (HBT0.out.below hk)
      clear HBU0 HO0 HBT0 hk
      have cT := HBT.out.cells
      have lT := HBT.out.lt
      have hz1 := HBU.out.size
      cases hlm : isLim (op, ch, nv) with
      | true =>
        have HLM := Lib.hid hlm
        obtain ⟨hc0, hcn⟩ := tright_ch HRT.out hlm
        dsimp only at hc0 hcn
        obtain ⟨k, rfl⟩ : ∃ k : Nat, ch = (k : Int) := ⟨ch.toNat, by omega⟩
        obtain ⟨⟨ck, cv, cf⟩, ha⟩ : ∃ a, cs[k]? = some a := ⟨_, List.getElem?_eq_getElem (by omega)⟩
        obtain ⟨cad, rfl, _, _, _, _⟩ := row3_at HCW.out ha
        obtain ⟨c0, c1, c2⟩ := row3_c (HCW.out.below HBU.out) ha
        dsimp only at c0 c1 c2
        have lT1 : wr.heap.size < U1.heap.size + 1 := by omega
        have HG := Lib.hid (show gOf cs (op, (k : Int), nv) = limO (op, (k : Int), nv) (ck, cv, cf) by unfold gOf; simp only [Int.toNat_natCast]; rw [List.getD_eq_getElem?_getD, ha]; rfl)
        have HLO := Lib.hid (show limO (op, (k : Int), nv) (ck, cv, cf) = if ck = 1 then (if (if op = 1 then decide (cv > nv) else decide (cv < nv)) = true then 2 else 1) else 3 from rfl)
        have hkn : (k : Int) < (cs.length : Int) := by omega
        have cB := cT
        have lB := lT
        clear hlm hc0 hcn ha
        by_cases hck : ck = 1
        · have qk : (ck == 1) = true := by rw [beq_iff_eq]; exact hck
          have HCK := Lib.hid hck
          clear hck
          rcases lim_op HLM.out with hop | hop
          · dsimp only at hop
            subst hop
            by_cases hc : nv < cv
            · have qc : decide (cv > nv) = true := decide_eq_true (by omega)
              have HQC := Lib.hid hc
              clear hc
              go_wp2_with fail
              refine (krof_any _ _).mono ?_
              rintro e u ⟨rfl, rfl⟩
              go_wp2_with (at_builtin; refine wpList_app el64 rfl (.tmp 58) (.tmp 60) rfl W.heap.size _ q.length (q.map (Value.int .i64)) rfl (own_below HO.out (by go_grown)) _ [Value.int .i64 2] rfl (Row.of_block (Blk.new _ _ _ _ (by first | rfl | simp)) rfl rfl (Nat.le_refl _) (by decide)) (one_ints _ [2]) ?_ ?_ ?_ ?_)
              case refine_1 => simp; unfold maxLen; omega
              case refine_2 => simp; omega
              case refine_3 => simp; omega
              intro v7 w7 own7 hg7 _
              have HB7 := Lib.hid (below_app (Btrans HBU.out (((Below.refl U1.heap.size U1).alloc (Nat.le_refl _) _).alloc (by simp) _)) (by simp; omega) (own_below HO.out (by go_grown)) hg7 (Nat.le_refl _))
              have HO7 := Lib.hid (show ∃ A c, v7 = .slice A (q ++ [2]).length c ∧ World.ownsRow w7 W.heap.size 3 1 (.slice A (q ++ [2]).length c) (q ++ [2]).length ((q ++ [2]).map (.int .i64)) from by
                obtain ⟨A7, c7, rfl⟩ := own_shape own7
                have e : (q ++ [2]).length = q.length + [Value.int IntKind.i64 2].length := by simp
                rw [e]
                exact ⟨A7, c7, rfl, by rw [List.map_append]; exact own7⟩)
              have HE7 := Lib.hid (HEV.out.trans (step_lim HLM.out (HG.out.trans (show _ = 2 by have hq := HQC.out; rw [HLO.out, if_pos HCK.out]; simp; omega))))
              clear own7 hg7 c0 c1 c2 cB lB
              go_wp2
              go_roundw
              case rel => exact ⟨j + 1, q ++ [2], by omega, by simp; omega, by go_num, HB7.out, HE7.out, HO7.out⟩
              case measure => simp [intOf]; omega
            · have qc : decide (cv > nv) = false := decide_eq_false (by omega)
              have HQC := Lib.hid hc
              clear hc
              go_wp2_with fail
              refine (krof_any _ _).mono ?_
              rintro e u ⟨rfl, rfl⟩
              go_wp2_with (at_builtin; refine wpList_app el64 rfl (.tmp 58) (.tmp 60) rfl W.heap.size _ q.length (q.map (Value.int .i64)) rfl (own_below HO.out (by go_grown)) _ [Value.int .i64 1] rfl (Row.of_block (Blk.new _ _ _ _ (by first | rfl | simp)) rfl rfl (Nat.le_refl _) (by decide)) (one_ints _ [1]) ?_ ?_ ?_ ?_)
              case refine_1 => simp; unfold maxLen; omega
              case refine_2 => simp; omega
              case refine_3 => simp; omega
              intro v7 w7 own7 hg7 _
              have HB7 := Lib.hid (below_app (Btrans HBU.out (((Below.refl U1.heap.size U1).alloc (Nat.le_refl _) _).alloc (by simp) _)) (by simp; omega) (own_below HO.out (by go_grown)) hg7 (Nat.le_refl _))
              have HO7 := Lib.hid (show ∃ A c, v7 = .slice A (q ++ [1]).length c ∧ World.ownsRow w7 W.heap.size 3 1 (.slice A (q ++ [1]).length c) (q ++ [1]).length ((q ++ [1]).map (.int .i64)) from by
                obtain ⟨A7, c7, rfl⟩ := own_shape own7
                have e : (q ++ [1]).length = q.length + [Value.int IntKind.i64 1].length := by simp
                rw [e]
                exact ⟨A7, c7, rfl, by rw [List.map_append]; exact own7⟩)
              have HE7 := Lib.hid (HEV.out.trans (step_lim HLM.out (HG.out.trans (show _ = 1 by have hq := HQC.out; rw [HLO.out, if_pos HCK.out]; simp; omega))))
              clear own7 hg7 c0 c1 c2 cB lB
              go_wp2
              go_roundw
              case rel => exact ⟨j + 1, q ++ [1], by omega, by simp; omega, by go_num, HB7.out, HE7.out, HO7.out⟩
              case measure => simp [intOf]; omega
          · dsimp only at hop
            subst hop
            by_cases hc : cv < nv
            · have qc : decide (cv < nv) = true := decide_eq_true (by omega)
              have HQC := Lib.hid hc
              clear hc
              go_wp2_with fail
              refine (krof_any _ _).mono ?_
              rintro e u ⟨rfl, rfl⟩
              go_wp2_with (at_builtin; refine wpList_app el64 rfl (.tmp 58) (.tmp 60) rfl W.heap.size _ q.length (q.map (Value.int .i64)) rfl (own_below HO.out (by go_grown)) _ [Value.int .i64 2] rfl (Row.of_block (Blk.new _ _ _ _ (by first | rfl | simp)) rfl rfl (Nat.le_refl _) (by decide)) (one_ints _ [2]) ?_ ?_ ?_ ?_)
              case refine_1 => simp; unfold maxLen; omega
              case refine_2 => simp; omega
              case refine_3 => simp; omega
              intro v7 w7 own7 hg7 _
              have HB7 := Lib.hid (below_app (Btrans HBU.out (((Below.refl U1.heap.size U1).alloc (Nat.le_refl _) _).alloc (by simp) _)) (by simp; omega) (own_below HO.out (by go_grown)) hg7 (Nat.le_refl _))
              have HO7 := Lib.hid (show ∃ A c, v7 = .slice A (q ++ [2]).length c ∧ World.ownsRow w7 W.heap.size 3 1 (.slice A (q ++ [2]).length c) (q ++ [2]).length ((q ++ [2]).map (.int .i64)) from by
                obtain ⟨A7, c7, rfl⟩ := own_shape own7
                have e : (q ++ [2]).length = q.length + [Value.int IntKind.i64 2].length := by simp
                rw [e]
                exact ⟨A7, c7, rfl, by rw [List.map_append]; exact own7⟩)
              have HE7 := Lib.hid (HEV.out.trans (step_lim HLM.out (HG.out.trans (show _ = 2 by have hq := HQC.out; rw [HLO.out, if_pos HCK.out]; simp; omega))))
              clear own7 hg7 c0 c1 c2 cB lB
              go_wp2
              go_roundw
              case rel => exact ⟨j + 1, q ++ [2], by omega, by simp; omega, by go_num, HB7.out, HE7.out, HO7.out⟩
              case measure => simp [intOf]; omega
            · have qc : decide (cv < nv) = false := decide_eq_false (by omega)
              have HQC := Lib.hid hc
              clear hc
              go_wp2_with fail
              refine (krof_any _ _).mono ?_
              rintro e u ⟨rfl, rfl⟩
              go_wp2_with (at_builtin; refine wpList_app el64 rfl (.tmp 58) (.tmp 60) rfl W.heap.size _ q.length (q.map (Value.int .i64)) rfl (own_below HO.out (by go_grown)) _ [Value.int .i64 1] rfl (Row.of_block (Blk.new _ _ _ _ (by first | rfl | simp)) rfl rfl (Nat.le_refl _) (by decide)) (one_ints _ [1]) ?_ ?_ ?_ ?_)
              case refine_1 => simp; unfold maxLen; omega
              case refine_2 => simp; omega
              case refine_3 => simp; omega
              intro v7 w7 own7 hg7 _
              have HB7 := Lib.hid (below_app (Btrans HBU.out (((Below.refl U1.heap.size U1).alloc (Nat.le_refl _) _).alloc (by simp) _)) (by simp; omega) (own_below HO.out (by go_grown)) hg7 (Nat.le_refl _))
              have HO7 := Lib.hid (show ∃ A c, v7 = .slice A (q ++ [1]).length c ∧ World.ownsRow w7 W.heap.size 3 1 (.slice A (q ++ [1]).length c) (q ++ [1]).length ((q ++ [1]).map (.int .i64)) from by
                obtain ⟨A7, c7, rfl⟩ := own_shape own7
                have e : (q ++ [1]).length = q.length + [Value.int IntKind.i64 1].length := by simp
                rw [e]
                exact ⟨A7, c7, rfl, by rw [List.map_append]; exact own7⟩)
              have HE7 := Lib.hid (HEV.out.trans (step_lim HLM.out (HG.out.trans (show _ = 1 by have hq := HQC.out; rw [HLO.out, if_pos HCK.out]; simp; omega))))
              clear own7 hg7 c0 c1 c2 cB lB
              go_wp2
              go_roundw
              case rel => exact ⟨j + 1, q ++ [1], by omega, by simp; omega, by go_num, HB7.out, HE7.out, HO7.out⟩
              case measure => simp [intOf]; omega
        · have qk : (ck == 1) = false := beq_false_of_ne hck
          have HCK := Lib.hid hck
          clear hck
          go_wp2_with (at_builtin; refine wpList_app el64 rfl (.tmp 58) (.tmp 60) rfl W.heap.size _ q.length (q.map (Value.int .i64)) rfl (own_below HO.out (by go_grown)) _ [Value.int .i64 3] rfl (Row.of_block (Blk.new _ _ _ _ (by first | rfl | simp)) rfl rfl (Nat.le_refl _) (by decide)) (one_ints _ [3]) ?_ ?_ ?_ ?_)
          case refine_1 => simp; unfold maxLen; omega
          case refine_2 => simp; omega
          case refine_3 => simp; omega
          intro v7 w7 own7 hg7 _
          have HB7 := Lib.hid (below_app (Btrans HBU.out (((Below.refl U1.heap.size U1).alloc (Nat.le_refl _) _).alloc (by simp) _)) (by simp; omega) (own_below HO.out (by go_grown)) hg7 (Nat.le_refl _))
          have HO7 := Lib.hid (show ∃ A c, v7 = .slice A (q ++ [3]).length c ∧ World.ownsRow w7 W.heap.size 3 1 (.slice A (q ++ [3]).length c) (q ++ [3]).length ((q ++ [3]).map (.int .i64)) from by
            obtain ⟨A7, c7, rfl⟩ := own_shape own7
            have e : (q ++ [3]).length = q.length + [Value.int IntKind.i64 3].length := by simp
            rw [e]
            exact ⟨A7, c7, rfl, by rw [List.map_append]; exact own7⟩)
          have HE7 := Lib.hid (HEV.out.trans (step_lim HLM.out (HG.out.trans (show _ = 3 by rw [HLO.out, if_neg HCK.out]))))
          clear own7 hg7 c0 c1 c2 cB lB
          go_wp2
          go_roundw
          case rel => exact ⟨j + 1, q ++ [3], by omega, by simp; omega, by go_num, HB7.out, HE7.out, HO7.out⟩
          case measure => simp [intOf]; omega
      | false =>
        have HLM := Lib.hid hlm
        have hnd := need_n HVN.out HEQ.out HT.out hlm
        dsimp only at hnd
        have HND := Lib.hid hnd
        clear hlm hnd
        have cB := cT
        have lB := lT
        by_cases h5 : op = 5
        · subst h5
          obtain ⟨m, hm⟩ : ∃ m, q.length = m + 1 := ⟨q.length - 1, by have := HND.out.1 rfl; omega⟩
          obtain ⟨a, ha⟩ : ∃ a, q[m]? = some a := ⟨_, List.getElem?_eq_getElem (by omega)⟩
          obtain ⟨od, rfl⟩ : ∃ od, OA = some od := by
            obtain ⟨_, hh⟩ := HO.out
            rcases hh with ⟨_, h0⟩ | ⟨g, cap, cur, e, _⟩
            · omega
            · injection e with e; exact ⟨_, e⟩
          obtain ⟨_, hoc, hocm⟩ := row_len (Row.of_own HO.out)
          have HA := Lib.hid ha
          have HM := Lib.hid hm
          have hw1 : IntKind.i64.wrap (((q.length : Nat) : Int) - 1) = (m : Int) := by rw [IntWalk.i64_in _ (by omega)]; omega
          have hmc : (m : Int) ≤ (oc : Int) := by omega
          have hmq : (m : Int) < (q.length : Int) := by omega
          have hmq2 : m ≤ q.length := by omega
          have hmq3 : m ≤ 100 := by omega
          clear ha hm
          go_wp2_with fail
          refine wp_world (fun V => Below W.heap.size W V ∧ World.ownsRow V W.heap.size 3 1 (.slice (some od) q.length oc) q.length (q.map (.int .i64))) ⟨HBU.out, HO.out⟩ fun U ⟨hbU, hoU⟩ => ?_
          clear HBU HO cB lB cT lT
          have HBU := Lib.hid hbU
          have HRU := Lib.hid (Row.of_own hoU)
          clear hbU hoU
          have HPRE := Lib.hid (row_pre HRU.out (k := m) (by omega))
          have HLP := Lib.hid (show ((q.take m).map (Value.int .i64)).length = m by simp; omega)
          have hbX := Below.refl U.heap.size U
          have dO : ∀ w', Below U.heap.size U w' → w'.cell? (od.add m) = some (.int .i64 a) := fun w' hb => row_c (HRU.out.below hb) HA.out
          refine wp_region_held_drew (S := fun w' => Below U.heap.size U w') (by kernel_rfl) ((Below.refl _ _).drew) (fun hHeld => ?_)
          refine takeD 1 (some 66) (v := ?_) rfl rfl (by kernel_rfl) (by kernel_rfl) (by kernel_rfl) (fun _ _ _ h => h) (by rfl) ?_ (by assumption) ?_
          rotate_left
          · intro w hSw
            (try dsimp only at hSw)
            go_simp
            try with_reducible rfl
          try simp only [Act.put, List.setIfInBounds_toArray, List.set_cons_zero, List.set_cons_succ]
          refine takeD 2 (some 67) (v := ?_) rfl rfl (by kernel_rfl) (by kernel_rfl) (by kernel_rfl) (fun _ _ _ h => h) (by rfl) ?_ (by assumption) ?_
          rotate_left
          · intro w hSw
            (try dsimp only at hSw)
            go_simp
            try with_reducible rfl
          try simp only [Act.put, List.setIfInBounds_toArray, List.set_cons_zero, List.set_cons_succ]
          refine takeD 3 (some 68) (v := ?_) rfl rfl (by kernel_rfl) (by kernel_rfl) (by kernel_rfl) (fun _ _ _ h => h) (by rfl) ?_ (by assumption) ?_
          rotate_left
          · intro w hSw
            (try dsimp only at hSw)
            go_simp
            try with_reducible rfl
          try simp only [Act.put, List.setIfInBounds_toArray, List.set_cons_zero, List.set_cons_succ]
          refine takeD 4 (some 69) (v := ?_) rfl rfl (by kernel_rfl) (by kernel_rfl) (by kernel_rfl) (fun _ _ _ h => h) (by rfl) ?_ (by assumption) ?_
          rotate_left
          · intro w hSw
            (try dsimp only at hSw)
            go_simp
            try with_reducible rfl
          try simp only [Act.put, List.setIfInBounds_toArray, List.set_cons_zero, List.set_cons_succ]
          refine takeD 6 (some 71) (v := ?_) rfl rfl (by kernel_rfl) (by kernel_rfl) (by kernel_rfl) (fun _ _ _ h => h) (by rfl) ?_ (by assumption) ?_
          rotate_left
          · intro w hSw
            (try dsimp only at hSw)
            go_simp
            try with_reducible rfl
          try simp only [Act.put, List.setIfInBounds_toArray, List.set_cons_zero, List.set_cons_succ]
          refine takeD 7 (some 72) (v := ?_) rfl rfl (by kernel_rfl) (by kernel_rfl) (by kernel_rfl) (fun _ _ _ h => h) (by rfl) ?_ (by assumption) ?_
          rotate_left
          · intro w hSw
            (try dsimp only at hSw)
            go_simp
            try with_reducible rfl
          try simp only [Act.put, List.setIfInBounds_toArray, List.set_cons_zero, List.set_cons_succ]
          refine takeD 8 (some 73) (v := ?_) rfl rfl (by kernel_rfl) (by kernel_rfl) (by kernel_rfl) (fun _ _ _ h => h) (by rfl) ?_ (by assumption) ?_
          rotate_left
          · intro w hSw
            (try dsimp only at hSw)
            go_simp
            try with_reducible rfl
          try simp only [Act.put, List.setIfInBounds_toArray, List.set_cons_zero, List.set_cons_succ]
          refine takeD 9 (some 74) (v := ?_) rfl rfl (by kernel_rfl) (by kernel_rfl) (by kernel_rfl) (fun _ _ _ h => h) (by rfl) ?_ (by assumption) ?_
          rotate_left
          · intro w hSw
            (try dsimp only at hSw)
            go_simp
            try with_reducible rfl
          try simp only [Act.put, List.setIfInBounds_toArray, List.set_cons_zero, List.set_cons_succ]
          refine takeD 10 (some 75) (v := ?_) rfl rfl (by kernel_rfl) (by kernel_rfl) (by kernel_rfl) (fun _ _ _ h => h) (by rfl) ?_ (by assumption) ?_
          rotate_left
          · intro w hSw
            (try dsimp only at hSw)
            go_simp
            try with_reducible rfl
          try simp only [Act.put, List.setIfInBounds_toArray, List.set_cons_zero, List.set_cons_succ]
          refine wpAnyH_ready (rs := [0]) (by kernel_rfl) (by simp) ?_
          refine AllReadyH.cons rfl (fun K hK => ?_) AllReadyH.nil
          rw [if_pos (by rfl)]
          go_simp
          refine nameV (fun V => Below U.heap.size U V ∧ World.ownsRow V U.heap.size 3 1 (.slice (some ⟨U.heap.size, 0, none⟩) 0 0) 0 []) ⟨(hbX.alloc hbX.size _).drew, World.ownsRow.drew (own_empty _ _ _ _ hbX.size rfl)⟩ fun V1 ⟨hbX2, qHC⟩ => ?_
          have hbX := hbX2
          clear hbX2
          have HC := Lib.hid qHC
          clear qHC
          have hS := hbX
          refine hK.out _ _ ?_ (fun hHeld2 => ?_)
          · clear hK; exact hS
          clear hK K hHeld hS
          have hHeld := hHeld2
          clear hHeld2
          try simp only [Act.put, List.setIfInBounds_toArray, List.set_cons_zero, List.set_cons_succ]
          refine wpAnyH_ready (rs := [5]) (by kernel_rfl) (by simp) ?_
          refine AllReadyH.cons rfl (fun K hK => ?_) AllReadyH.nil
          rw [if_pos (by rfl)]
          refine wp_app el64 (.tmp 65) (.tmp 69) rfl U.heap.size (.slice (some ⟨U.heap.size, 0, none⟩) 0 0) 0 [] rfl HC.out _ ((q.take m).map (Value.int .i64)) rfl (HPRE.out.below hbX) (one_ints _ _) (by rw [HLP.out]; unfold maxLen; omega) (by rw [HLP.out]; omega) hbX.size ?_
          intro v2 V2 hO hg hor
          rw [HLP.out] at hO
          have hbX2 := below_app hbX hbX.size HC.out hg (Nat.le_refl _)
          rw [Nat.zero_add, List.nil_append] at hO
          clear HC
          have HC := Lib.hid hO
          clear hO hg hor hbX
          have hbX := hbX2
          clear hbX2
          have hS := hbX
          refine hK.out _ _ ?_ (fun hHeld2 => ?_)
          · clear hK; exact hS
          clear hK K hHeld hS
          have hHeld := hHeld2
          clear hHeld2
          try simp only [Act.put, List.setIfInBounds_toArray, List.set_cons_zero, List.set_cons_succ]
          refine wpAnyH_ready (rs := [11]) (by kernel_rfl) (by simp) ?_
          refine AllReadyH.cons rfl (fun K hK => ?_) AllReadyH.nil
          rw [if_pos (by rfl)]
          go_simp
          go_at_call 62
          refine (rnot_any a _).mono ?_
          rintro e u ⟨rfl, rfl⟩
          have hS := hbX
          go_wp2_with fail
          refine hK.out _ _ ?_ (fun hHeld2 => ?_)
          · clear hK; exact hS
          clear hK K hHeld hS
          have hHeld := hHeld2
          clear hHeld2
          try simp only [Act.put, List.setIfInBounds_toArray, List.set_cons_zero, List.set_cons_succ]
          refine wpAnyH_ready (rs := [12]) (by kernel_rfl) (by simp) ?_
          refine AllReadyH.cons rfl (fun K hK => ?_) AllReadyH.nil
          rw [if_pos (by rfl)]
          go_simp
          refine nameV (fun V => Below U.heap.size U V ∧ World.ownsRow V U.heap.size 3 1 v2 m ((q.take m).map (.int .i64)) ∧ Blk V V2.heap.size 3 #[.int .i64 (not3 a)]) ⟨hbX.alloc hbX.size _, own_below HC.out ((Below.refl _ _).alloc (Nat.le_refl _) _), Blk.new _ _ _ _ rfl⟩ fun V3 ⟨hbX2, qHC, qHN⟩ => ?_
          clear HC hbX
          have hbX := hbX2
          clear hbX2
          have HC := Lib.hid qHC
          have HN := Lib.hid qHN
          clear qHC qHN
          have hS := hbX
          refine hK.out _ _ ?_ (fun hHeld2 => ?_)
          · clear hK; exact hS
          clear hK K hHeld hS
          have hHeld := hHeld2
          clear hHeld2
          try simp only [Act.put, List.setIfInBounds_toArray, List.set_cons_zero, List.set_cons_succ]
          refine wpAnyH_ready (rs := [13]) (by kernel_rfl) (by simp) ?_
          refine AllReadyH.cons rfl (fun K hK => ?_) AllReadyH.nil
          rw [if_pos (by rfl)]
          refine wp_app el64 (.tmp 70) (.tmp 77) rfl U.heap.size v2 m ((q.take m).map (Value.int .i64)) rfl HC.out _ [Value.int .i64 (not3 a)] rfl (Row.of_block HN.out rfl rfl (Nat.le_refl _) (by decide)) (one_ints _ [not3 a]) (by rw [show ([Value.int IntKind.i64 (not3 a)] : List Value).length = 1 from rfl]; unfold maxLen; omega) (by rw [show ([Value.int IntKind.i64 (not3 a)] : List Value).length = 1 from rfl]; omega) hbX.size ?_
          intro v3 V4 hO hg hor
          rw [show ([Value.int IntKind.i64 (not3 a)] : List Value).length = 1 from rfl] at hO
          have hbX2 := below_app hbX hbX.size HC.out hg (Nat.le_refl _)
          obtain ⟨A4, c4, rfl⟩ := own_shape hO
          clear HC HN
          have HC := Lib.hid hO
          clear hO hg hor hbX
          have hbX := hbX2
          clear hbX2
          have hS := hbX
          refine hK.out _ _ ?_ (fun hHeld2 => ?_)
          · clear hK; exact hS
          clear hK K hHeld hS
          have hHeld := hHeld2
          clear hHeld2
          try simp only [Act.put, List.setIfInBounds_toArray, List.set_cons_zero, List.set_cons_succ]
          refine takeD 14 (some 5) (v := ?_) rfl rfl (by kernel_rfl) (by kernel_rfl) (by kernel_rfl) (fun _ _ _ h => h) (by rfl) ?_ (by assumption) ?_
          rotate_left
          · intro w hSw
            (try dsimp only at hSw)
            go_simp
            try with_reducible rfl
          try simp only [Act.put, List.setIfInBounds_toArray, List.set_cons_zero, List.set_cons_succ]
          refine wpAnyH_done (by kernel_rfl) ?_ _
          have HO7 := Lib.hid (show ∃ A c, Value.slice A4 (m + 1) c4 = .slice A (q.take m ++ [not3 a]).length c ∧ World.ownsRow V4 W.heap.size 3 1 (.slice A (q.take m ++ [not3 a]).length c) (q.take m ++ [not3 a]).length ((q.take m ++ [not3 a]).map (.int .i64)) from by
            have e : (q.take m ++ [not3 a]).length = m + 1 := by simp; omega
            rw [e]
            exact ⟨A4, c4, rfl, by rw [List.map_append]; exact own_lowerS HC.out HBU.out.size⟩)
          have HB7 := Lib.hid (Btrans HBU.out hbX)
          have HE7 := Lib.hid (HEV.out.trans (step_not HLM.out rfl HM.out HA.out))
          clear hHeld dO
          try clear dO2
          go_wp2
          go_roundw
          case rel => exact ⟨j + 1, q.take m ++ [not3 a], by omega, by simp; omega, by go_num, HB7.out, HE7.out, HO7.out⟩
          case measure => simp [intOf]; omega
        · have q5 : (op == 5) = false := beq_false_of_ne h5
          have H5 := Lib.hid h5
          obtain ⟨m, hm⟩ : ∃ m, q.length = m + 1 + 1 := ⟨q.length - 2, by have := HND.out.2 h5; omega⟩
          obtain ⟨m1, hm1⟩ : ∃ m1, m1 = m + 1 := ⟨_, rfl⟩
          obtain ⟨b, hb⟩ : ∃ a, q[m]? = some a := ⟨_, List.getElem?_eq_getElem (by omega)⟩
          obtain ⟨a, ha⟩ : ∃ a, q[m1]? = some a := ⟨_, List.getElem?_eq_getElem (by omega)⟩
          obtain ⟨od, rfl⟩ : ∃ od, OA = some od := by
            obtain ⟨_, hh⟩ := HO.out
            rcases hh with ⟨_, h0⟩ | ⟨g, cap, cur, e, _⟩
            · omega
            · injection e with e; exact ⟨_, e⟩
          obtain ⟨_, hoc, hocm⟩ := row_len (Row.of_own HO.out)
          have HA := Lib.hid ha
          have HBB := Lib.hid hb
          have HA2 := Lib.hid (show q[m + 1]? = some a by rw [← hm1]; exact ha)
          have HM := Lib.hid hm
          have hw1 : IntKind.i64.wrap (((q.length : Nat) : Int) - 1) = (m1 : Int) := by rw [IntWalk.i64_in _ (by omega)]; omega
          have hw2 : IntKind.i64.wrap (((q.length : Nat) : Int) - 2) = (m : Int) := by rw [IntWalk.i64_in _ (by omega)]; omega
          have hmc : (m : Int) ≤ (oc : Int) := by omega
          have hmq : (m : Int) < (q.length : Int) := by omega
          have hmq1 : (m1 : Int) < (q.length : Int) := by omega
          have hmq2 : m ≤ q.length := by omega
          have hmq3 : m ≤ 100 := by omega
          clear ha hb hm hm1 h5
          by_cases h3 : op = 3
          · subst h3
            clear q5
            go_wp2_with fail
            refine wp_world (fun V => Below W.heap.size W V ∧ World.ownsRow V W.heap.size 3 1 (.slice (some od) q.length oc) q.length (q.map (.int .i64))) ⟨HBU.out, HO.out⟩ fun U ⟨hbU, hoU⟩ => ?_
            clear HBU HO cB lB cT lT
            have HBU := Lib.hid hbU
            have HRU := Lib.hid (Row.of_own hoU)
            clear hbU hoU
            have HPRE := Lib.hid (row_pre HRU.out (k := m) (by omega))
            have HLP := Lib.hid (show ((q.take m).map (Value.int .i64)).length = m by simp; omega)
            have hbX := Below.refl U.heap.size U
            have dO : ∀ w', Below U.heap.size U w' → w'.cell? (od.add m) = some (.int .i64 b) := fun w' hb => row_c (HRU.out.below hb) HBB.out
            have dO2 : ∀ w', Below U.heap.size U w' → w'.cell? (od.add m1) = some (.int .i64 a) := fun w' hb => row_c (HRU.out.below hb) HA.out
            refine wp_region_held_drew (S := fun w' => Below U.heap.size U w') (by kernel_rfl) ((Below.refl _ _).drew) (fun hHeld => ?_)
            refine takeD 1 (some 83) (v := ?_) rfl rfl (by kernel_rfl) (by kernel_rfl) (by kernel_rfl) (fun _ _ _ h => h) (by rfl) ?_ (by assumption) ?_
            rotate_left
            · intro w hSw
              (try dsimp only at hSw)
              go_simp
              try with_reducible rfl
            try simp only [Act.put, List.setIfInBounds_toArray, List.set_cons_zero, List.set_cons_succ]
            refine takeD 2 (some 84) (v := ?_) rfl rfl (by kernel_rfl) (by kernel_rfl) (by kernel_rfl) (fun _ _ _ h => h) (by rfl) ?_ (by assumption) ?_
            rotate_left
            · intro w hSw
              (try dsimp only at hSw)
              go_simp
              try with_reducible rfl
            try simp only [Act.put, List.setIfInBounds_toArray, List.set_cons_zero, List.set_cons_succ]
            refine takeD 3 (some 85) (v := ?_) rfl rfl (by kernel_rfl) (by kernel_rfl) (by kernel_rfl) (fun _ _ _ h => h) (by rfl) ?_ (by assumption) ?_
            rotate_left
            · intro w hSw
              (try dsimp only at hSw)
              go_simp
              try with_reducible rfl
            try simp only [Act.put, List.setIfInBounds_toArray, List.set_cons_zero, List.set_cons_succ]
            refine takeD 4 (some 86) (v := ?_) rfl rfl (by kernel_rfl) (by kernel_rfl) (by kernel_rfl) (fun _ _ _ h => h) (by rfl) ?_ (by assumption) ?_
            rotate_left
            · intro w hSw
              (try dsimp only at hSw)
              go_simp
              try with_reducible rfl
            try simp only [Act.put, List.setIfInBounds_toArray, List.set_cons_zero, List.set_cons_succ]
            refine takeD 6 (some 88) (v := ?_) rfl rfl (by kernel_rfl) (by kernel_rfl) (by kernel_rfl) (fun _ _ _ h => h) (by rfl) ?_ (by assumption) ?_
            rotate_left
            · intro w hSw
              (try dsimp only at hSw)
              go_simp
              try with_reducible rfl
            try simp only [Act.put, List.setIfInBounds_toArray, List.set_cons_zero, List.set_cons_succ]
            refine takeD 7 (some 89) (v := ?_) rfl rfl (by kernel_rfl) (by kernel_rfl) (by kernel_rfl) (fun _ _ _ h => h) (by rfl) ?_ (by assumption) ?_
            rotate_left
            · intro w hSw
              (try dsimp only at hSw)
              go_simp
              try with_reducible rfl
            try simp only [Act.put, List.setIfInBounds_toArray, List.set_cons_zero, List.set_cons_succ]
            refine takeD 8 (some 90) (v := ?_) rfl rfl (by kernel_rfl) (by kernel_rfl) (by kernel_rfl) (fun _ _ _ h => h) (by rfl) ?_ (by assumption) ?_
            rotate_left
            · intro w hSw
              (try dsimp only at hSw)
              go_simp
              try with_reducible rfl
            try simp only [Act.put, List.setIfInBounds_toArray, List.set_cons_zero, List.set_cons_succ]
            refine takeD 9 (some 91) (v := ?_) rfl rfl (by kernel_rfl) (by kernel_rfl) (by kernel_rfl) (fun _ _ _ h => h) (by rfl) ?_ (by assumption) ?_
            rotate_left
            · intro w hSw
              (try dsimp only at hSw)
              go_simp
              try with_reducible rfl
            try simp only [Act.put, List.setIfInBounds_toArray, List.set_cons_zero, List.set_cons_succ]
            refine takeD 10 (some 92) (v := ?_) rfl rfl (by kernel_rfl) (by kernel_rfl) (by kernel_rfl) (fun _ _ _ h => h) (by rfl) ?_ (by assumption) ?_
            rotate_left
            · intro w hSw
              (try dsimp only at hSw)
              go_simp
              try with_reducible rfl
            try simp only [Act.put, List.setIfInBounds_toArray, List.set_cons_zero, List.set_cons_succ]
            refine takeD 11 (some 93) (v := ?_) rfl rfl (by kernel_rfl) (by kernel_rfl) (by kernel_rfl) (fun _ _ _ h => h) (by rfl) ?_ (by assumption) ?_
            rotate_left
            · intro w hSw
              (try dsimp only at hSw)
              go_simp
              try with_reducible rfl
            try simp only [Act.put, List.setIfInBounds_toArray, List.set_cons_zero, List.set_cons_succ]
            refine takeD 12 (some 94) (v := ?_) rfl rfl (by kernel_rfl) (by kernel_rfl) (by kernel_rfl) (fun _ _ _ h => h) (by rfl) ?_ (by assumption) ?_
            rotate_left
            · intro w hSw
              (try dsimp only at hSw)
              go_simp
              try with_reducible rfl
            try simp only [Act.put, List.setIfInBounds_toArray, List.set_cons_zero, List.set_cons_succ]
            refine takeD 13 (some 95) (v := ?_) rfl rfl (by kernel_rfl) (by kernel_rfl) (by kernel_rfl) (fun _ _ _ h => h) (by rfl) ?_ (by assumption) ?_
            rotate_left
            · intro w hSw
              (try dsimp only at hSw)
              go_simp
              try with_reducible rfl
            try simp only [Act.put, List.setIfInBounds_toArray, List.set_cons_zero, List.set_cons_succ]
            refine takeD 14 (some 96) (v := ?_) rfl rfl (by kernel_rfl) (by kernel_rfl) (by kernel_rfl) (fun _ _ _ h => h) (by rfl) ?_ (by assumption) ?_
            rotate_left
            · intro w hSw
              (try dsimp only at hSw)
              go_simp
              try with_reducible rfl
            try simp only [Act.put, List.setIfInBounds_toArray, List.set_cons_zero, List.set_cons_succ]
            refine takeD 15 (some 97) (v := ?_) rfl rfl (by kernel_rfl) (by kernel_rfl) (by kernel_rfl) (fun _ _ _ h => h) (by rfl) ?_ (by assumption) ?_
            rotate_left
            · intro w hSw
              (try dsimp only at hSw)
              go_simp
              try with_reducible rfl
            try simp only [Act.put, List.setIfInBounds_toArray, List.set_cons_zero, List.set_cons_succ]
            refine wpAnyH_ready (rs := [0]) (by kernel_rfl) (by simp) ?_
            refine AllReadyH.cons rfl (fun K hK => ?_) AllReadyH.nil
            rw [if_pos (by rfl)]
            go_simp
            refine nameV (fun V => Below U.heap.size U V ∧ World.ownsRow V U.heap.size 3 1 (.slice (some ⟨U.heap.size, 0, none⟩) 0 0) 0 []) ⟨(hbX.alloc hbX.size _).drew, World.ownsRow.drew (own_empty _ _ _ _ hbX.size rfl)⟩ fun V1 ⟨hbX2, qHC⟩ => ?_
            have hbX := hbX2
            clear hbX2
            have HC := Lib.hid qHC
            clear qHC
            have hS := hbX
            refine hK.out _ _ ?_ (fun hHeld2 => ?_)
            · clear hK; exact hS
            clear hK K hHeld hS
            have hHeld := hHeld2
            clear hHeld2
            try simp only [Act.put, List.setIfInBounds_toArray, List.set_cons_zero, List.set_cons_succ]
            refine wpAnyH_ready (rs := [5]) (by kernel_rfl) (by simp) ?_
            refine AllReadyH.cons rfl (fun K hK => ?_) AllReadyH.nil
            rw [if_pos (by rfl)]
            refine wp_app el64 (.tmp 82) (.tmp 86) rfl U.heap.size (.slice (some ⟨U.heap.size, 0, none⟩) 0 0) 0 [] rfl HC.out _ ((q.take m).map (Value.int .i64)) rfl (HPRE.out.below hbX) (one_ints _ _) (by rw [HLP.out]; unfold maxLen; omega) (by rw [HLP.out]; omega) hbX.size ?_
            intro v2 V2 hO hg hor
            rw [HLP.out] at hO
            have hbX2 := below_app hbX hbX.size HC.out hg (Nat.le_refl _)
            rw [Nat.zero_add, List.nil_append] at hO
            clear HC
            have HC := Lib.hid hO
            clear hO hg hor hbX
            have hbX := hbX2
            clear hbX2
            have hS := hbX
            refine hK.out _ _ ?_ (fun hHeld2 => ?_)
            · clear hK; exact hS
            clear hK K hHeld hS
            have hHeld := hHeld2
            clear hHeld2
            try simp only [Act.put, List.setIfInBounds_toArray, List.set_cons_zero, List.set_cons_succ]
            refine wpAnyH_ready (rs := [16]) (by kernel_rfl) (by simp) ?_
            refine AllReadyH.cons rfl (fun K hK => ?_) AllReadyH.nil
            rw [if_pos (by rfl)]
            go_simp
            go_at_call 63
            refine (rand_any b a _).mono ?_
            rintro e u ⟨rfl, rfl⟩
            have hS := hbX
            go_wp2_with fail
            refine hK.out _ _ ?_ (fun hHeld2 => ?_)
            · clear hK; exact hS
            clear hK K hHeld hS
            have hHeld := hHeld2
            clear hHeld2
            try simp only [Act.put, List.setIfInBounds_toArray, List.set_cons_zero, List.set_cons_succ]
            refine wpAnyH_ready (rs := [17]) (by kernel_rfl) (by simp) ?_
            refine AllReadyH.cons rfl (fun K hK => ?_) AllReadyH.nil
            rw [if_pos (by rfl)]
            go_simp
            refine nameV (fun V => Below U.heap.size U V ∧ World.ownsRow V U.heap.size 3 1 v2 m ((q.take m).map (.int .i64)) ∧ Blk V V2.heap.size 3 #[.int .i64 (and3 b a)]) ⟨hbX.alloc hbX.size _, own_below HC.out ((Below.refl _ _).alloc (Nat.le_refl _) _), Blk.new _ _ _ _ rfl⟩ fun V3 ⟨hbX2, qHC, qHN⟩ => ?_
            clear HC hbX
            have hbX := hbX2
            clear hbX2
            have HC := Lib.hid qHC
            have HN := Lib.hid qHN
            clear qHC qHN
            have hS := hbX
            refine hK.out _ _ ?_ (fun hHeld2 => ?_)
            · clear hK; exact hS
            clear hK K hHeld hS
            have hHeld := hHeld2
            clear hHeld2
            try simp only [Act.put, List.setIfInBounds_toArray, List.set_cons_zero, List.set_cons_succ]
            refine wpAnyH_ready (rs := [18]) (by kernel_rfl) (by simp) ?_
            refine AllReadyH.cons rfl (fun K hK => ?_) AllReadyH.nil
            rw [if_pos (by rfl)]
            refine wp_app el64 (.tmp 87) (.tmp 99) rfl U.heap.size v2 m ((q.take m).map (Value.int .i64)) rfl HC.out _ [Value.int .i64 (and3 b a)] rfl (Row.of_block HN.out rfl rfl (Nat.le_refl _) (by decide)) (one_ints _ [and3 b a]) (by rw [show ([Value.int IntKind.i64 (and3 b a)] : List Value).length = 1 from rfl]; unfold maxLen; omega) (by rw [show ([Value.int IntKind.i64 (and3 b a)] : List Value).length = 1 from rfl]; omega) hbX.size ?_
            intro v3 V4 hO hg hor
            rw [show ([Value.int IntKind.i64 (and3 b a)] : List Value).length = 1 from rfl] at hO
            have hbX2 := below_app hbX hbX.size HC.out hg (Nat.le_refl _)
            obtain ⟨A4, c4, rfl⟩ := own_shape hO
            clear HC HN
            have HC := Lib.hid hO
            clear hO hg hor hbX
            have hbX := hbX2
            clear hbX2
            have hS := hbX
            refine hK.out _ _ ?_ (fun hHeld2 => ?_)
            · clear hK; exact hS
            clear hK K hHeld hS
            have hHeld := hHeld2
            clear hHeld2
            try simp only [Act.put, List.setIfInBounds_toArray, List.set_cons_zero, List.set_cons_succ]
            refine takeD 19 (some 5) (v := ?_) rfl rfl (by kernel_rfl) (by kernel_rfl) (by kernel_rfl) (fun _ _ _ h => h) (by rfl) ?_ (by assumption) ?_
            rotate_left
            · intro w hSw
              (try dsimp only at hSw)
              go_simp
              try with_reducible rfl
            try simp only [Act.put, List.setIfInBounds_toArray, List.set_cons_zero, List.set_cons_succ]
            refine wpAnyH_done (by kernel_rfl) ?_ _
            have HO7 := Lib.hid (show ∃ A c, Value.slice A4 (m + 1) c4 = .slice A (q.take m ++ [and3 b a]).length c ∧ World.ownsRow V4 W.heap.size 3 1 (.slice A (q.take m ++ [and3 b a]).length c) (q.take m ++ [and3 b a]).length ((q.take m ++ [and3 b a]).map (.int .i64)) from by
              have e : (q.take m ++ [and3 b a]).length = m + 1 := by simp; omega
              rw [e]
              exact ⟨A4, c4, rfl, by rw [List.map_append]; exact own_lowerS HC.out HBU.out.size⟩)
            have HB7 := Lib.hid (Btrans HBU.out hbX)
            have HE7 := Lib.hid (HEV.out.trans (step_and HLM.out rfl HM.out HBB.out HA2.out))
            clear hHeld dO
            try clear dO2
            go_wp2
            go_roundw
            case rel => exact ⟨j + 1, q.take m ++ [and3 b a], by omega, by simp; omega, by go_num, HB7.out, HE7.out, HO7.out⟩
            case measure => simp [intOf]; omega
          · have q3 : (op == 3) = false := beq_false_of_ne h3
            have H3 := Lib.hid h3
            clear h3
            go_wp2_with fail
            refine wp_world (fun V => Below W.heap.size W V ∧ World.ownsRow V W.heap.size 3 1 (.slice (some od) q.length oc) q.length (q.map (.int .i64))) ⟨HBU.out, HO.out⟩ fun U ⟨hbU, hoU⟩ => ?_
            clear HBU HO cB lB cT lT
            have HBU := Lib.hid hbU
            have HRU := Lib.hid (Row.of_own hoU)
            clear hbU hoU
            have HPRE := Lib.hid (row_pre HRU.out (k := m) (by omega))
            have HLP := Lib.hid (show ((q.take m).map (Value.int .i64)).length = m by simp; omega)
            have hbX := Below.refl U.heap.size U
            have dO : ∀ w', Below U.heap.size U w' → w'.cell? (od.add m) = some (.int .i64 b) := fun w' hb => row_c (HRU.out.below hb) HBB.out
            have dO2 : ∀ w', Below U.heap.size U w' → w'.cell? (od.add m1) = some (.int .i64 a) := fun w' hb => row_c (HRU.out.below hb) HA.out
            refine wp_region_held_drew (S := fun w' => Below U.heap.size U w') (by kernel_rfl) ((Below.refl _ _).drew) (fun hHeld => ?_)
            refine takeD 1 (some 102) (v := ?_) rfl rfl (by kernel_rfl) (by kernel_rfl) (by kernel_rfl) (fun _ _ _ h => h) (by rfl) ?_ (by assumption) ?_
            rotate_left
            · intro w hSw
              (try dsimp only at hSw)
              go_simp
              try with_reducible rfl
            try simp only [Act.put, List.setIfInBounds_toArray, List.set_cons_zero, List.set_cons_succ]
            refine takeD 2 (some 103) (v := ?_) rfl rfl (by kernel_rfl) (by kernel_rfl) (by kernel_rfl) (fun _ _ _ h => h) (by rfl) ?_ (by assumption) ?_
            rotate_left
            · intro w hSw
              (try dsimp only at hSw)
              go_simp
              try with_reducible rfl
            try simp only [Act.put, List.setIfInBounds_toArray, List.set_cons_zero, List.set_cons_succ]
            refine takeD 3 (some 104) (v := ?_) rfl rfl (by kernel_rfl) (by kernel_rfl) (by kernel_rfl) (fun _ _ _ h => h) (by rfl) ?_ (by assumption) ?_
            rotate_left
            · intro w hSw
              (try dsimp only at hSw)
              go_simp
              try with_reducible rfl
            try simp only [Act.put, List.setIfInBounds_toArray, List.set_cons_zero, List.set_cons_succ]
            refine takeD 4 (some 105) (v := ?_) rfl rfl (by kernel_rfl) (by kernel_rfl) (by kernel_rfl) (fun _ _ _ h => h) (by rfl) ?_ (by assumption) ?_
            rotate_left
            · intro w hSw
              (try dsimp only at hSw)
              go_simp
              try with_reducible rfl
            try simp only [Act.put, List.setIfInBounds_toArray, List.set_cons_zero, List.set_cons_succ]
            refine takeD 6 (some 107) (v := ?_) rfl rfl (by kernel_rfl) (by kernel_rfl) (by kernel_rfl) (fun _ _ _ h => h) (by rfl) ?_ (by assumption) ?_
            rotate_left
            · intro w hSw
              (try dsimp only at hSw)
              go_simp
              try with_reducible rfl
            try simp only [Act.put, List.setIfInBounds_toArray, List.set_cons_zero, List.set_cons_succ]
            refine takeD 7 (some 108) (v := ?_) rfl rfl (by kernel_rfl) (by kernel_rfl) (by kernel_rfl) (fun _ _ _ h => h) (by rfl) ?_ (by assumption) ?_
            rotate_left
            · intro w hSw
              (try dsimp only at hSw)
              go_simp
              try with_reducible rfl
            try simp only [Act.put, List.setIfInBounds_toArray, List.set_cons_zero, List.set_cons_succ]
            refine takeD 8 (some 109) (v := ?_) rfl rfl (by kernel_rfl) (by kernel_rfl) (by kernel_rfl) (fun _ _ _ h => h) (by rfl) ?_ (by assumption) ?_
            rotate_left
            · intro w hSw
              (try dsimp only at hSw)
              go_simp
              try with_reducible rfl
            try simp only [Act.put, List.setIfInBounds_toArray, List.set_cons_zero, List.set_cons_succ]
            refine takeD 9 (some 110) (v := ?_) rfl rfl (by kernel_rfl) (by kernel_rfl) (by kernel_rfl) (fun _ _ _ h => h) (by rfl) ?_ (by assumption) ?_
            rotate_left
            · intro w hSw
              (try dsimp only at hSw)
              go_simp
              try with_reducible rfl
            try simp only [Act.put, List.setIfInBounds_toArray, List.set_cons_zero, List.set_cons_succ]
            refine takeD 10 (some 111) (v := ?_) rfl rfl (by kernel_rfl) (by kernel_rfl) (by kernel_rfl) (fun _ _ _ h => h) (by rfl) ?_ (by assumption) ?_
            rotate_left
            · intro w hSw
              (try dsimp only at hSw)
              go_simp
              try with_reducible rfl
            try simp only [Act.put, List.setIfInBounds_toArray, List.set_cons_zero, List.set_cons_succ]
            refine takeD 11 (some 112) (v := ?_) rfl rfl (by kernel_rfl) (by kernel_rfl) (by kernel_rfl) (fun _ _ _ h => h) (by rfl) ?_ (by assumption) ?_
            rotate_left
            · intro w hSw
              (try dsimp only at hSw)
              go_simp
              try with_reducible rfl
            try simp only [Act.put, List.setIfInBounds_toArray, List.set_cons_zero, List.set_cons_succ]
            refine takeD 12 (some 113) (v := ?_) rfl rfl (by kernel_rfl) (by kernel_rfl) (by kernel_rfl) (fun _ _ _ h => h) (by rfl) ?_ (by assumption) ?_
            rotate_left
            · intro w hSw
              (try dsimp only at hSw)
              go_simp
              try with_reducible rfl
            try simp only [Act.put, List.setIfInBounds_toArray, List.set_cons_zero, List.set_cons_succ]
            refine takeD 13 (some 114) (v := ?_) rfl rfl (by kernel_rfl) (by kernel_rfl) (by kernel_rfl) (fun _ _ _ h => h) (by rfl) ?_ (by assumption) ?_
            rotate_left
            · intro w hSw
              (try dsimp only at hSw)
              go_simp
              try with_reducible rfl
            try simp only [Act.put, List.setIfInBounds_toArray, List.set_cons_zero, List.set_cons_succ]
            refine takeD 14 (some 115) (v := ?_) rfl rfl (by kernel_rfl) (by kernel_rfl) (by kernel_rfl) (fun _ _ _ h => h) (by rfl) ?_ (by assumption) ?_
            rotate_left
            · intro w hSw
              (try dsimp only at hSw)
              go_simp
              try with_reducible rfl
            try simp only [Act.put, List.setIfInBounds_toArray, List.set_cons_zero, List.set_cons_succ]
            refine takeD 15 (some 116) (v := ?_) rfl rfl (by kernel_rfl) (by kernel_rfl) (by kernel_rfl) (fun _ _ _ h => h) (by rfl) ?_ (by assumption) ?_
            rotate_left
            · intro w hSw
              (try dsimp only at hSw)
              go_simp
              try with_reducible rfl
            try simp only [Act.put, List.setIfInBounds_toArray, List.set_cons_zero, List.set_cons_succ]
            refine wpAnyH_ready (rs := [0]) (by kernel_rfl) (by simp) ?_
            refine AllReadyH.cons rfl (fun K hK => ?_) AllReadyH.nil
            rw [if_pos (by rfl)]
            go_simp
            refine nameV (fun V => Below U.heap.size U V ∧ World.ownsRow V U.heap.size 3 1 (.slice (some ⟨U.heap.size, 0, none⟩) 0 0) 0 []) ⟨(hbX.alloc hbX.size _).drew, World.ownsRow.drew (own_empty _ _ _ _ hbX.size rfl)⟩ fun V1 ⟨hbX2, qHC⟩ => ?_
            have hbX := hbX2
            clear hbX2
            have HC := Lib.hid qHC
            clear qHC
            have hS := hbX
            refine hK.out _ _ ?_ (fun hHeld2 => ?_)
            · clear hK; exact hS
            clear hK K hHeld hS
            have hHeld := hHeld2
            clear hHeld2
            try simp only [Act.put, List.setIfInBounds_toArray, List.set_cons_zero, List.set_cons_succ]
            refine wpAnyH_ready (rs := [5]) (by kernel_rfl) (by simp) ?_
            refine AllReadyH.cons rfl (fun K hK => ?_) AllReadyH.nil
            rw [if_pos (by rfl)]
            refine wp_app el64 (.tmp 101) (.tmp 105) rfl U.heap.size (.slice (some ⟨U.heap.size, 0, none⟩) 0 0) 0 [] rfl HC.out _ ((q.take m).map (Value.int .i64)) rfl (HPRE.out.below hbX) (one_ints _ _) (by rw [HLP.out]; unfold maxLen; omega) (by rw [HLP.out]; omega) hbX.size ?_
            intro v2 V2 hO hg hor
            rw [HLP.out] at hO
            have hbX2 := below_app hbX hbX.size HC.out hg (Nat.le_refl _)
            rw [Nat.zero_add, List.nil_append] at hO
            clear HC
            have HC := Lib.hid hO
            clear hO hg hor hbX
            have hbX := hbX2
            clear hbX2
            have hS := hbX
            refine hK.out _ _ ?_ (fun hHeld2 => ?_)
            · clear hK; exact hS
            clear hK K hHeld hS
            have hHeld := hHeld2
            clear hHeld2
            try simp only [Act.put, List.setIfInBounds_toArray, List.set_cons_zero, List.set_cons_succ]
            refine wpAnyH_ready (rs := [16]) (by kernel_rfl) (by simp) ?_
            refine AllReadyH.cons rfl (fun K hK => ?_) AllReadyH.nil
            rw [if_pos (by rfl)]
            go_simp
            go_at_call 64
            refine (ror_any b a _).mono ?_
            rintro e u ⟨rfl, rfl⟩
            have hS := hbX
            go_wp2_with fail
            refine hK.out _ _ ?_ (fun hHeld2 => ?_)
            · clear hK; exact hS
            clear hK K hHeld hS
            have hHeld := hHeld2
            clear hHeld2
            try simp only [Act.put, List.setIfInBounds_toArray, List.set_cons_zero, List.set_cons_succ]
            refine wpAnyH_ready (rs := [17]) (by kernel_rfl) (by simp) ?_
            refine AllReadyH.cons rfl (fun K hK => ?_) AllReadyH.nil
            rw [if_pos (by rfl)]
            go_simp
            refine nameV (fun V => Below U.heap.size U V ∧ World.ownsRow V U.heap.size 3 1 v2 m ((q.take m).map (.int .i64)) ∧ Blk V V2.heap.size 3 #[.int .i64 (or3 b a)]) ⟨hbX.alloc hbX.size _, own_below HC.out ((Below.refl _ _).alloc (Nat.le_refl _) _), Blk.new _ _ _ _ rfl⟩ fun V3 ⟨hbX2, qHC, qHN⟩ => ?_
            clear HC hbX
            have hbX := hbX2
            clear hbX2
            have HC := Lib.hid qHC
            have HN := Lib.hid qHN
            clear qHC qHN
            have hS := hbX
            refine hK.out _ _ ?_ (fun hHeld2 => ?_)
            · clear hK; exact hS
            clear hK K hHeld hS
            have hHeld := hHeld2
            clear hHeld2
            try simp only [Act.put, List.setIfInBounds_toArray, List.set_cons_zero, List.set_cons_succ]
            refine wpAnyH_ready (rs := [18]) (by kernel_rfl) (by simp) ?_
            refine AllReadyH.cons rfl (fun K hK => ?_) AllReadyH.nil
            rw [if_pos (by rfl)]
            refine wp_app el64 (.tmp 106) (.tmp 118) rfl U.heap.size v2 m ((q.take m).map (Value.int .i64)) rfl HC.out _ [Value.int .i64 (or3 b a)] rfl (Row.of_block HN.out rfl rfl (Nat.le_refl _) (by decide)) (one_ints _ [or3 b a]) (by rw [show ([Value.int IntKind.i64 (or3 b a)] : List Value).length = 1 from rfl]; unfold maxLen; omega) (by rw [show ([Value.int IntKind.i64 (or3 b a)] : List Value).length = 1 from rfl]; omega) hbX.size ?_
            intro v3 V4 hO hg hor
            rw [show ([Value.int IntKind.i64 (or3 b a)] : List Value).length = 1 from rfl] at hO
            have hbX2 := below_app hbX hbX.size HC.out hg (Nat.le_refl _)
            obtain ⟨A4, c4, rfl⟩ := own_shape hO
            clear HC HN
            have HC := Lib.hid hO
            clear hO hg hor hbX
            have hbX := hbX2
            clear hbX2
            have hS := hbX
            refine hK.out _ _ ?_ (fun hHeld2 => ?_)
            · clear hK; exact hS
            clear hK K hHeld hS
            have hHeld := hHeld2
            clear hHeld2
            try simp only [Act.put, List.setIfInBounds_toArray, List.set_cons_zero, List.set_cons_succ]
            refine takeD 19 (some 5) (v := ?_) rfl rfl (by kernel_rfl) (by kernel_rfl) (by kernel_rfl) (fun _ _ _ h => h) (by rfl) ?_ (by assumption) ?_
            rotate_left
            · intro w hSw
              (try dsimp only at hSw)
              go_simp
              try with_reducible rfl
            try simp only [Act.put, List.setIfInBounds_toArray, List.set_cons_zero, List.set_cons_succ]
            refine wpAnyH_done (by kernel_rfl) ?_ _
            have HO7 := Lib.hid (show ∃ A c, Value.slice A4 (m + 1) c4 = .slice A (q.take m ++ [or3 b a]).length c ∧ World.ownsRow V4 W.heap.size 3 1 (.slice A (q.take m ++ [or3 b a]).length c) (q.take m ++ [or3 b a]).length ((q.take m ++ [or3 b a]).map (.int .i64)) from by
              have e : (q.take m ++ [or3 b a]).length = m + 1 := by simp; omega
              rw [e]
              exact ⟨A4, c4, rfl, by rw [List.map_append]; exact own_lowerS HC.out HBU.out.size⟩)
            have HB7 := Lib.hid (Btrans HBU.out hbX)
            have HE7 := Lib.hid (HEV.out.trans (step_or HLM.out H5.out H3.out HM.out HBB.out HA2.out))
            clear hHeld dO
            try clear dO2
            go_wp2
            go_roundw
            case rel => exact ⟨j + 1, q.take m ++ [or3 b a], by omega, by simp; omega, by go_num, HB7.out, HE7.out, HO7.out⟩
            case measure => simp [intOf]; omega
    · obtain rfl : j = l.length := by omega
      rw [List.take_length] at hevj
      obtain ⟨x, hx, hs⟩ := said_some (g := gOf cs) HVN.out
      rw [hx] at hevj
      injection hevj with hevj
      obtain rfl : q = [x] := by
        have := congrArg List.reverse hevj
        rw [List.reverse_reverse] at this
        exact this.symm
      have HRO := Lib.hid (Row.of_own hro)
      have HX := Lib.hid (show saysR l cs = x by unfold saysR; rw [hs])
      have HFI := Lib.hid (Btrans HW.out hbj)
      obtain ⟨od, rfl⟩ : ∃ od, OA = some od := by
        obtain ⟨_, hh⟩ := hro
        rcases hh with ⟨_, h0⟩ | ⟨g, cap, cur, e, _⟩
        · simp at h0
        · injection e with e; exact ⟨_, e⟩
      have cO : wr.cell? od = some (.int .i64 x) := by
        have := row_c (k := 0) (x := x) HRO.out rfl
        simpa [Addr.add] using this
      have cB := (HBW0.out.below hbj).cells
      have lB := (HBW0.out.below hbj).lt
      clear hro hbj hx hs hevj
      go_wp2
      go_ret
      exact ⟨by rw [HX.out]; first | rfl | simp, HFI.out⟩
end Go.Proofs.Ytcdmojimdiiepaa
/- Layer 21: the document's acks. -/
namespace Go.Proofs.Ytcdmojimdiiepaa
open Go.ChangeShapes Go.WideShapes Go.ChangeAt Go.RowKit
set_option linter.unusedVariables false
set_option linter.unusedSimpArgs false

def ackO (n : Int) (l : List Bool) (k : Nat) : List Bool := (List.range k).map fun i => l.getD i false || decide ((i : Int) = n)
theorem ackO_len (n : Int) (l : List Bool) (k : Nat) : (ackO n l k).length = k := by simp [ackO]
theorem ackO_succ (n : Int) (l : List Bool) (k : Nat) : ackO n l (k + 1) = ackO n l k ++ [l.getD k false || decide ((k : Int) = n)] := by simp [ackO, List.range_succ]
theorem elB : Elem Try.prog 51 4 1 1 := Elem.mk' (z := .bool false) (by kernel_rfl) (by kernel_rfl) rfl (by decide)
set_option maxRecDepth 100000 in
set_option maxHeartbeats 2000000 in
theorem acked_any (v : Value) (l : List Bool) (n : Int) (w : World) (h : Row w v (l.map .bool)) (hl : l.length ≤ 100000) :
    Calls Try.prog 38 #[v, .int .i64 n] w fun e w' => ∃ A c, e = .returned (.slice A l.length c) ∧ w'.ownsRow w.heap.size 4 1 (.slice A l.length c) l.length ((ackO n l l.length).map .bool) ∧ Below w.heap.size w w' := by
  obtain ⟨A, c, rfl, hc, hcm, hA⟩ := h
  rw [List.length_map] at hc hA ⊢
  have HCL : RowKit.Hid (∀ k x, l[k]? = some x → ∃ ad, A = some ad ∧ ad.block < w.heap.size ∧ w.cell? (ad.add k) = some (.bool x)) := Lib.hid (by
    intro k x hx
    have hk : k < l.length := (List.getElem?_eq_some_iff.1 hx).1
    rcases hA with ⟨_, h0⟩ | ⟨ad, h1, h2, h3⟩
    · omega
    · exact ⟨ad, h1, h2 (by omega), h3 k _ (by rw [List.getElem?_map, hx]; rfl)⟩)
  clear hA
  go_enter Try.func38, Try.ntmps38
  go_wp2_with fail
  go_loopw [5, 6] (fun f i wr => ∃ (k : Nat) (FA : Option Addr) (fc : Nat), k ≤ l.length ∧ i = .int .i64 k ∧ f = .slice FA k fc ∧ Below w.heap.size w wr ∧ wr.ownsRow w.heap.size 4 1 (.slice FA k fc) k ((ackO n l k).map .bool)) (fun _ i _ => l.length - (intOf i).toNat)
  case atStart => exact ⟨0, none, 0, Nat.zero_le _, rfl, rfl, Below.refl _ _, own_nil _ _⟩
  case round =>
    obtain ⟨k, FA, fc, hk, rfl, rfl, hb, ho⟩ := hrel
    have HB := Lib.hid hb
    have HO := Lib.hid ho
    have hz := hb.size
    clear hb ho
    by_cases hlt : k < l.length
    · obtain ⟨x, hx⟩ : ∃ x, l[k]? = some x := ⟨_, List.getElem?_eq_getElem hlt⟩
      obtain ⟨ad, rfl, had, hcx⟩ := HCL.out k x hx
      have hcx' : wr.cell? (ad.add k) = some (.bool x) := by rw [HB.out.cell (by rw [block_add]; exact had)]; exact hcx
      have HGD := Lib.hid (getD_lt l k false x hx)
      have gk : (k : Int) < (l.length : Int) := by omega
      clear hx hcx
      cases x with
      | true =>
        have HTE := Lib.hid (show (l.getD k false || decide ((k : Int) = n)) = true by rw [HGD.out]; rfl)
        go_wp2_with (at_builtin; refine wpList_app elB rfl (.tmp 13) (.tmp 23) rfl w.heap.size _ k ((ackO n l k).map .bool) rfl (own_below HO.out (by go_grown)) _ [.bool true] rfl (Row.of_block (heap_at _ _ _ (by simp)) rfl rfl (Nat.le_refl _) (by decide)) (by simp; rfl) (by unfold maxLen; simp; omega) (by simp; omega) (by simp; omega) ?_)
        intro v5 WA hO5 hg5 _
        have HBA := Lib.hid (below_app (B := w.heap.size) (show Below w.heap.size w _ from HB.out.trans ((show Below wr.heap.size wr _ by go_grown).mono hz)) (by simp; omega) (own_below HO.out (by go_grown)) hg5 (Nat.le_refl _))
        obtain ⟨FB, fd, rfl⟩ := own_shape hO5
        have HO5 := Lib.hid (show WA.ownsRow w.heap.size 4 1 (.slice FB (k + 1) fd) (k + 1) ((ackO n l (k + 1)).map .bool) by rw [ackO_succ, HTE.out, List.map_append]; exact hO5)
        clear hO5 hg5 hcx'
        go_wp2
        go_roundw
        case rel => exact ⟨k + 1, FB, fd, by omega, by go_num, rfl, HBA.out, HO5.out⟩
        case measure => simp [intOf]; omega
      | false =>
        by_cases hn : (k : Int) = n
        · have gn : ((k : Int) == n) = true := by rw [beq_iff_eq]; exact hn
          have HTE := Lib.hid (show (l.getD k false || decide ((k : Int) = n)) = true by rw [HGD.out, decide_eq_true hn]; rfl)
          clear hn
          go_wp2_with (at_builtin; refine wpList_app elB rfl (.tmp 13) (.tmp 23) rfl w.heap.size _ k ((ackO n l k).map .bool) rfl (own_below HO.out (by go_grown)) _ [.bool true] rfl (Row.of_block (heap_at _ _ _ (by simp)) rfl rfl (Nat.le_refl _) (by decide)) (by simp; rfl) (by unfold maxLen; simp; omega) (by simp; omega) (by simp; omega) ?_)
          intro v5 WA hO5 hg5 _
          have HBA := Lib.hid (below_app (B := w.heap.size) (show Below w.heap.size w _ from HB.out.trans ((show Below wr.heap.size wr _ by go_grown).mono hz)) (by simp; omega) (own_below HO.out (by go_grown)) hg5 (Nat.le_refl _))
          obtain ⟨FB, fd, rfl⟩ := own_shape hO5
          have HO5 := Lib.hid (show WA.ownsRow w.heap.size 4 1 (.slice FB (k + 1) fd) (k + 1) ((ackO n l (k + 1)).map .bool) by rw [ackO_succ, HTE.out, List.map_append]; exact hO5)
          clear hO5 hg5 hcx'
          go_wp2
          go_roundw
          case rel => exact ⟨k + 1, FB, fd, by omega, by go_num, rfl, HBA.out, HO5.out⟩
          case measure => simp [intOf]; omega
        · have gn : ((k : Int) == n) = false := by rw [beq_eq_false_iff_ne]; exact hn
          have HTE := Lib.hid (show (l.getD k false || decide ((k : Int) = n)) = false by rw [HGD.out, decide_eq_false hn]; rfl)
          clear hn
          go_wp2_with (at_builtin; refine wpList_app elB rfl (.tmp 13) (.tmp 23) rfl w.heap.size _ k ((ackO n l k).map .bool) rfl (own_below HO.out (by go_grown)) _ [.bool false] rfl (Row.of_block (heap_at _ _ _ (by simp)) rfl rfl (Nat.le_refl _) (by decide)) (by simp; rfl) (by unfold maxLen; simp; omega) (by simp; omega) (by simp; omega) ?_)
          intro v5 WA hO5 hg5 _
          have HBA := Lib.hid (below_app (B := w.heap.size) (show Below w.heap.size w _ from HB.out.trans ((show Below wr.heap.size wr _ by go_grown).mono hz)) (by simp; omega) (own_below HO.out (by go_grown)) hg5 (Nat.le_refl _))
          obtain ⟨FB, fd, rfl⟩ := own_shape hO5
          have HO5 := Lib.hid (show WA.ownsRow w.heap.size 4 1 (.slice FB (k + 1) fd) (k + 1) ((ackO n l (k + 1)).map .bool) by rw [ackO_succ, HTE.out, List.map_append]; exact hO5)
          clear hO5 hg5 hcx'
          go_wp2
          go_roundw
          case rel => exact ⟨k + 1, FB, fd, by omega, by go_num, rfl, HBA.out, HO5.out⟩
          case measure => simp [intOf]; omega
    · obtain rfl : k = l.length := by omega
      go_wp2
      go_returns
      exact ⟨FA, fc, rfl, HO.out, HB.out⟩
end Go.Proofs.Ytcdmojimdiiepaa
/- Layer 21: the document's state. -/
namespace Go.Proofs.Ytcdmojimdiiepaa
open Go.ChangeShapes Go.WideShapes Go.ChangeAt Go.RowKit
set_option linter.unusedVariables false
set_option linter.unusedSimpArgs false

def p3 (l : List Ph) : List Value := l.flatMap fun s => [.int .i64 s.run, .bool s.on, .bool s.now]
def t4 (l : List Te) : List Value := l.flatMap fun s => [.int .i64 s.run, .bool s.on, .bool s.now, .bool s.ok]
/-- a slice's block lies from lo on, and is not pb -/
def Off (pb lo : Nat) (A : Option Addr) : Prop := ∀ ad, A = some ad → lo ≤ ad.block ∧ ad.block ≠ pb
/-- the document's state: its rows lie from lo on -/
structure RSt (w : World) (lo pb : Nat) (rs : List Rl) (k : Int) (R : List Ph) (Ch : List Te) (ar ac : List Bool) : Prop where
  ex : ∃ sA sc rA rc cA cc aA a_c bA bc, Blk w pb 86 #[.slice sA rs.length sc, .int .i64 k, .slice rA R.length rc, .slice cA Ch.length cc, .slice aA ar.length a_c, .slice bA ac.length bc] ∧
    (RowN 3 w (.slice sA rs.length sc) rs.length (r3 rs) ∧ Off pb lo sA) ∧ (RowN 3 w (.slice rA R.length rc) R.length (p3 R) ∧ Off pb lo rA) ∧ (RowN 4 w (.slice cA Ch.length cc) Ch.length (t4 Ch) ∧ Off pb lo cA) ∧
    (Row w (.slice aA ar.length a_c) (ar.map .bool) ∧ Off pb lo aA) ∧ (Row w (.slice bA ac.length bc) (ac.map .bool) ∧ Off pb lo bA)
  terms : ∀ r ∈ rs, RowN 3 w (.slice r.A r.l.length r.rc) r.l.length (c3c r.l) ∧ Off pb lo r.A
  head : lo ≤ pb ∧ pb < w.heap.size
theorem RowN.off {k n pb lo c : Nat} {w w' : World} {A : Option Addr} {m : Nat} {xs : List Value} (h : RowN k w (.slice A m c) n xs) (o : Off pb lo A) (ho : Only [pb] w w') : RowN k w' (.slice A m c) n xs :=
  h.only ho (fun ad n' c' e hm => by injection e with e; have := o ad e; simp at hm; omega)
theorem Row.off {pb lo c m : Nat} {w w' : World} {A : Option Addr} {xs : List Value} (h : Row w (.slice A m c) xs) (o : Off pb lo A) (ho : Only [pb] w w') : Row w' (.slice A m c) xs :=
  h.only ho (fun ad n' c' e hm => by injection e with e; have := o ad e; simp at hm; omega)
theorem RSt.only {w w' : World} {lo pb : Nat} {rs : List Rl} {k : Int} {R : List Ph} {Ch : List Te} {ar ac : List Bool} {s : List Nat} (h : RSt w lo pb rs k R Ch ar ac) (ho : Only s w w') (hs : ∀ b ∈ s, b < lo) : RSt w' lo pb rs k R Ch ar ac := by
  have hn : ∀ b, lo ≤ b → b ∉ s := fun b h1 hm => by have := hs b hm; omega
  have hr : ∀ {j n m c : Nat} {A : Option Addr} {xs : List Value}, RowN j w (.slice A m c) n xs → Off pb lo A → RowN j w' (.slice A m c) n xs := fun h1 h2 => h1.only ho (fun ad n' c' e => by injection e with e; exact hn _ (h2 ad e).1)
  have hq : ∀ {m c : Nat} {A : Option Addr} {xs : List Value}, Row w (.slice A m c) xs → Off pb lo A → Row w' (.slice A m c) xs := fun h1 h2 => h1.only ho (fun ad n' c' e => by injection e with e; exact hn _ (h2 ad e).1)
  obtain ⟨⟨sA, sc, rA, rc, cA, cc, aA, a_c, bA, bc, h0, ⟨h1, o1⟩, ⟨h2, o2⟩, ⟨h3, o3⟩, ⟨h4, o4⟩, ⟨h5, o5⟩⟩, ht, hh⟩ := h
  exact ⟨⟨sA, sc, rA, rc, cA, cc, aA, a_c, bA, bc, h0.only ho (hn _ hh.1), ⟨hr h1 o1, o1⟩, ⟨hr h2 o2, o2⟩, ⟨hr h3 o3, o3⟩, ⟨hq h4 o4, o4⟩, ⟨hq h5 o5, o5⟩⟩, fun r hr' => ⟨hr (ht r hr').1 (ht r hr').2, (ht r hr').2⟩, ⟨hh.1, Nat.lt_of_lt_of_le hh.2 ho.size⟩⟩
set_option maxRecDepth 100000 in
set_option maxHeartbeats 2000000 in
theorem rackR_any (w : World) (lo pb : Nat) (rs : List Rl) (k : Int) (R : List Ph) (Ch : List Te) (ar ac : List Bool) (n : Int) (h : RSt w lo pb rs k R Ch ar ac) (hl : ar.length ≤ 100000) :
    Calls Try.prog 17 #[.pointer (some ⟨pb, 0, none⟩), .int .i64 n] w fun e w' => e = .returned (.bool (decide (0 ≤ n ∧ n < (ar.length : Int)))) ∧ RSt w' lo pb rs k R Ch (ackO n ar ar.length) ac ∧ Only [pb] w w' := by
  obtain ⟨⟨sA, sc, rA, rc, cA, cc, aA, a_c, bA, bc, h0, ⟨h1, o1⟩, ⟨h2, o2⟩, ⟨h3, o3⟩, ⟨h4, o4⟩, ⟨h5, o5⟩⟩, ht, hh⟩ := h
  have H0 := Lib.hid h0
  have H1 := Lib.hid h1
  have H2 := Lib.hid h2
  have H3 := Lib.hid h3
  have H4 := Lib.hid h4
  have H5 := Lib.hid h5
  have HT := Lib.hid ht
  have O1 := Lib.hid o1
  have O2 := Lib.hid o2
  have O3 := Lib.hid o3
  have O4 := Lib.hid o4
  have O5 := Lib.hid o5
  have cB := h0.cells
  have lB := h0.lt
  clear h0 h1 h2 h3 h4 h5 ht o1 o2 o3 o4 o5
  go_enter Try.func17, Try.ntmps17
  go_wp2_with fail
  refine (acked_any _ ar n _ H4.out hl).mono ?_
  rintro e w1 ⟨NA, nc, rfl, hrow, hk⟩
  have HROW := Lib.hid (Row.of_own hrow)
  have HOB := Lib.hid (own_blk (w := w1) (base := w.heap.size) hrow)
  have HK := Lib.hid hk
  have HB1 := Lib.hid (H0.out.below hk)
  have hso : Only [pb] w (w1.setCell ⟨pb, 4, none⟩ (.slice NA ar.length nc)) := (Only.of_below [pb] hk).setCell (p := ⟨pb, 4, none⟩) (by simp) _
  have HSO := Lib.hid hso
  have hs1 : Only [pb] w1 (w1.setCell ⟨pb, 4, none⟩ (.slice NA ar.length nc)) := (Only.refl _ _).setCell (p := ⟨pb, 4, none⟩) (by simp) _
  have HOF := Lib.hid (show Off pb lo NA from fun ad e => by have := HOB.out ad e; have := hh.1; omega)
  have hrow2 := HROW.out.off HOF.out hs1
  have HRS := Lib.hid (show RSt (w1.setCell ⟨pb, 4, none⟩ (.slice NA ar.length nc)) lo pb rs k R Ch (ackO n ar ar.length) ac from ⟨⟨sA, sc, rA, rc, cA, cc, NA, nc, bA, bc, by rw [ackO_len]; exact HB1.out.set 4 _, ⟨H1.out.off O1.out hso, O1.out⟩, ⟨H2.out.off O2.out hso, O2.out⟩, ⟨H3.out.off O3.out hso, O3.out⟩, ⟨by rw [ackO_len]; exact hrow2, HOF.out⟩, ⟨H5.out.off O5.out hso, O5.out⟩⟩, fun r hr => ⟨(HT.out r hr).1.off (HT.out r hr).2 hso, (HT.out r hr).2⟩, ⟨hh.1, by have := HB1.out.lt; simp; omega⟩⟩)
  have cS := (HB1.out.set 4 (.slice NA ar.length nc)).cells
  have cB1 := HB1.out.cells
  have fB1 := HB1.out.froz
  have lB1 := HB1.out.lt
  clear hrow hk hso hs1 hrow2 cB
  by_cases g0 : n < 0
  · have g1 : decide (n ≥ 0) = false := decide_eq_false (by omega)
    have g2 : decide (0 ≤ n) = false := decide_eq_false (by omega)
    have HD := Lib.hid (show decide (0 ≤ n ∧ n < (ar.length : Int)) = false from decide_eq_false (by omega))
    clear cS g0
    go_wp2
    go_ret
    exact ⟨ret_bool (by rw [HD.out]), HRS.out, HSO.out⟩
  have g1 : decide (n ≥ 0) = true := decide_eq_true (by omega)
  have g2 : decide (0 ≤ n) = true := decide_eq_true (by omega)
  by_cases g3 : n < (ar.length : Int)
  · have g4 : decide (n < (ar.length : Int)) = true := decide_eq_true g3
    have HD := Lib.hid (show decide (0 ≤ n ∧ n < (ar.length : Int)) = true from decide_eq_true (by omega))
    clear cS g0
    go_wp2
    go_ret
    exact ⟨ret_bool (by rw [HD.out]), HRS.out, HSO.out⟩
  · have g4 : decide (n < (ar.length : Int)) = false := decide_eq_false g3
    have HD := Lib.hid (show decide (0 ≤ n ∧ n < (ar.length : Int)) = false from decide_eq_false (by omega))
    clear cS g0
    go_wp2
    go_ret
    exact ⟨ret_bool (by rw [HD.out]), HRS.out, HSO.out⟩
set_option maxRecDepth 100000 in
set_option maxHeartbeats 2000000 in
theorem rackC_any (w : World) (lo pb : Nat) (rs : List Rl) (k : Int) (R : List Ph) (Ch : List Te) (ar ac : List Bool) (n : Int) (h : RSt w lo pb rs k R Ch ar ac) (hl : ac.length ≤ 100000) :
    Calls Try.prog 19 #[.pointer (some ⟨pb, 0, none⟩), .int .i64 n] w fun e w' => e = .returned (.bool (decide (0 ≤ n ∧ n < (ac.length : Int)))) ∧ RSt w' lo pb rs k R Ch ar (ackO n ac ac.length) ∧ Only [pb] w w' := by
  obtain ⟨⟨sA, sc, rA, rc, cA, cc, aA, a_c, bA, bc, h0, ⟨h1, o1⟩, ⟨h2, o2⟩, ⟨h3, o3⟩, ⟨h4, o4⟩, ⟨h5, o5⟩⟩, ht, hh⟩ := h
  have H0 := Lib.hid h0
  have H1 := Lib.hid h1
  have H2 := Lib.hid h2
  have H3 := Lib.hid h3
  have H4 := Lib.hid h4
  have H5 := Lib.hid h5
  have HT := Lib.hid ht
  have O1 := Lib.hid o1
  have O2 := Lib.hid o2
  have O3 := Lib.hid o3
  have O4 := Lib.hid o4
  have O5 := Lib.hid o5
  have cB := h0.cells
  have lB := h0.lt
  clear h0 h1 h2 h3 h4 h5 ht o1 o2 o3 o4 o5
  go_enter Try.func19, Try.ntmps19
  go_wp2_with fail
  refine (acked_any _ ac n _ H5.out hl).mono ?_
  rintro e w1 ⟨NA, nc, rfl, hrow, hk⟩
  have HROW := Lib.hid (Row.of_own hrow)
  have HOB := Lib.hid (own_blk (w := w1) (base := w.heap.size) hrow)
  have HK := Lib.hid hk
  have HB1 := Lib.hid (H0.out.below hk)
  have hso : Only [pb] w (w1.setCell ⟨pb, 5, none⟩ (.slice NA ac.length nc)) := (Only.of_below [pb] hk).setCell (p := ⟨pb, 5, none⟩) (by simp) _
  have HSO := Lib.hid hso
  have hs1 : Only [pb] w1 (w1.setCell ⟨pb, 5, none⟩ (.slice NA ac.length nc)) := (Only.refl _ _).setCell (p := ⟨pb, 5, none⟩) (by simp) _
  have HOF := Lib.hid (show Off pb lo NA from fun ad e => by have := HOB.out ad e; have := hh.1; omega)
  have hrow2 := HROW.out.off HOF.out hs1
  have HRS := Lib.hid (show RSt (w1.setCell ⟨pb, 5, none⟩ (.slice NA ac.length nc)) lo pb rs k R Ch ar (ackO n ac ac.length) from ⟨⟨sA, sc, rA, rc, cA, cc, aA, a_c, NA, nc, by rw [ackO_len]; exact HB1.out.set 5 _, ⟨H1.out.off O1.out hso, O1.out⟩, ⟨H2.out.off O2.out hso, O2.out⟩, ⟨H3.out.off O3.out hso, O3.out⟩, ⟨H4.out.off O4.out hso, O4.out⟩, ⟨by rw [ackO_len]; exact hrow2, HOF.out⟩⟩, fun r hr => ⟨(HT.out r hr).1.off (HT.out r hr).2 hso, (HT.out r hr).2⟩, ⟨hh.1, by have := HB1.out.lt; simp; omega⟩⟩)
  have cS := (HB1.out.set 5 (.slice NA ac.length nc)).cells
  have cB1 := HB1.out.cells
  have fB1 := HB1.out.froz
  have lB1 := HB1.out.lt
  clear hrow hk hso hs1 hrow2 cB
  by_cases g0 : n < 0
  · have g1 : decide (n ≥ 0) = false := decide_eq_false (by omega)
    have g2 : decide (0 ≤ n) = false := decide_eq_false (by omega)
    have HD := Lib.hid (show decide (0 ≤ n ∧ n < (ac.length : Int)) = false from decide_eq_false (by omega))
    clear cS g0
    go_wp2
    go_ret
    exact ⟨ret_bool (by rw [HD.out]), HRS.out, HSO.out⟩
  have g1 : decide (n ≥ 0) = true := decide_eq_true (by omega)
  have g2 : decide (0 ≤ n) = true := decide_eq_true (by omega)
  by_cases g3 : n < (ac.length : Int)
  · have g4 : decide (n < (ac.length : Int)) = true := decide_eq_true g3
    have HD := Lib.hid (show decide (0 ≤ n ∧ n < (ac.length : Int)) = true from decide_eq_true (by omega))
    clear cS g0
    go_wp2
    go_ret
    exact ⟨ret_bool (by rw [HD.out]), HRS.out, HSO.out⟩
  · have g4 : decide (n < (ac.length : Int)) = false := decide_eq_false g3
    have HD := Lib.hid (show decide (0 ≤ n ∧ n < (ac.length : Int)) = false from decide_eq_false (by omega))
    clear cS g0
    go_wp2
    go_ret
    exact ⟨ret_bool (by rw [HD.out]), HRS.out, HSO.out⟩
end Go.Proofs.Ytcdmojimdiiepaa
/- Layer 21: tools for the document's tick: two owned rows of unlike types; rows of Phys and Tech read at a place. -/
namespace Go.Proofs.Ytcdmojimdiiepaa
open Go.ChangeShapes Go.WideShapes Go.ChangeAt Go.RowKit
set_option linter.unusedVariables false
set_option linter.unusedSimpArgs false

/-- a row of the call's own outlives an append to another one of another type -/
theorem own_kept {w w' : World} {ba bb na nb ka kb : Nat} {ea eb : TypeId} {va vb : Value} {xa xb : List Value} (ha : w.ownsRow ba ea ka va na xa) (hb : w.ownsRow bb eb kb vb nb xb) (ht : ea ≠ eb) (hg : w.grownBy w' vb.ownBlock) : w'.ownsRow ba ea ka va na xa := by
  obtain ⟨h1, h2⟩ := ha
  rcases h2 with h2 | ⟨g, cap, cur, hv, hbg, hgg, hrest⟩
  · exact ⟨h1, .inl h2⟩
  · have hne : some g ≠ vb.ownBlock := own_ne hb (show Blk w g ea cur from hgg) ht
    exact ⟨h1, .inr ⟨g, cap, cur, hv, hbg, (hg.block g (Array.getElem?_eq_some_iff.1 hgg).1 hne).trans hgg, hrest⟩⟩
theorem p3_t3 (l : List Ph) : p3 l = t3 (fun s => (.int .i64 s.run, .bool s.on, .bool s.now)) l := rfl
theorem p3_app (l m : List Ph) : p3 (l ++ m) = p3 l ++ p3 m := by simp [p3]
theorem t4_app (l m : List Te) : t4 (l ++ m) = t4 l ++ t4 m := by simp [t4]
theorem p3_one (l : List Ph) : ∀ u ∈ p3 l, u.oneCell' = true := by
  intro u hu
  obtain ⟨a, _, h⟩ := List.mem_flatMap.1 hu
  simp only [List.mem_cons, List.not_mem_nil, or_false] at h
  rcases h with rfl | rfl | rfl <;> rfl
theorem t4_one (l : List Te) : ∀ u ∈ t4 l, u.oneCell' = true := by
  intro u hu
  obtain ⟨a, _, h⟩ := List.mem_flatMap.1 hu
  simp only [List.mem_cons, List.not_mem_nil, or_false] at h
  rcases h with rfl | rfl | rfl | rfl <;> rfl
theorem t4_len (l : List Te) : (t4 l).length = l.length * 4 := by
  induction l with
  | nil => rfl
  | cons a l ih => simp [t4] at ih ⊢; omega
theorem t4_at (l : List Te) (i : Nat) (a : Te) (h : l[i]? = some a) : (t4 l)[i * 4]? = some (.int .i64 a.run) ∧ (t4 l)[i * 4 + 1]? = some (.bool a.on) ∧ (t4 l)[i * 4 + 2]? = some (.bool a.now) ∧ (t4 l)[i * 4 + 3]? = some (.bool a.ok) := by
  induction l generalizing i with
  | nil => simp at h
  | cons b l ih =>
    cases i with
    | zero =>
      simp at h
      subst h
      exact ⟨rfl, rfl, rfl, rfl⟩
    | succ i =>
      have h' : l[i]? = some a := by simpa using h
      have := ih i h'
      have e1 : (i + 1) * 4 = i * 4 + 4 := by omega
      rw [e1]
      exact this
/-- a place of a row of Phys -/
theorem rowP_at {w : World} {A : Option Addr} {c m : Nat} {ks : List Ph} {a : Ph} (h : RowN 3 w (.slice A ks.length c) ks.length (p3 ks)) (hm : ks[m]? = some a) :
    ∃ ad, A = some ad ∧ ad.block < w.heap.size ∧ w.cell? (ad.add (m * 3)) = some (.int .i64 a.run) ∧ w.cell? ⟨(ad.add (m * 3)).block, (ad.add (m * 3)).off + 1, none⟩ = some (.bool a.on) ∧ w.cell? ⟨(ad.add (m * 3)).block, (ad.add (m * 3)).off + 2, none⟩ = some (.bool a.now) := by
  obtain ⟨_, A', c', e1, _, _, hA⟩ := h
  injection e1 with e1 _ _
  subst e1
  obtain ⟨q1, q2, q3⟩ := t3_at (fun s : Ph => (.int .i64 s.run, .bool s.on, .bool s.now)) ks m a hm
  have hl := (List.getElem?_eq_some_iff.1 hm).1
  rcases hA with ⟨rfl, h0⟩ | ⟨ad, rfl, h1, h2⟩
  · omega
  · have g : ∀ i v, 0 < i → (p3 ks)[m * 3 + i]? = some v → w.cell? ⟨(ad.add (m * 3)).block, (ad.add (m * 3)).off + i, none⟩ = some v := fun i v hi hv => by
      have := h2 _ _ hv
      rwa [← Go.Deep.add_add, addk _ i hi] at this
    exact ⟨ad, rfl, h1 (by rw [p3_t3, t3_len]; omega), h2 _ _ q1, g 1 _ (by omega) q2, g 2 _ (by omega) q3⟩
/-- a place of a row of Tech -/
theorem rowE_at {w : World} {A : Option Addr} {c m : Nat} {ks : List Te} {a : Te} (h : RowN 4 w (.slice A ks.length c) ks.length (t4 ks)) (hm : ks[m]? = some a) :
    ∃ ad, A = some ad ∧ ad.block < w.heap.size ∧ w.cell? (ad.add (m * 4)) = some (.int .i64 a.run) ∧ w.cell? ⟨(ad.add (m * 4)).block, (ad.add (m * 4)).off + 1, none⟩ = some (.bool a.on) ∧ w.cell? ⟨(ad.add (m * 4)).block, (ad.add (m * 4)).off + 2, none⟩ = some (.bool a.now) ∧ w.cell? ⟨(ad.add (m * 4)).block, (ad.add (m * 4)).off + 3, none⟩ = some (.bool a.ok) := by
  obtain ⟨_, A', c', e1, _, _, hA⟩ := h
  injection e1 with e1 _ _
  subst e1
  obtain ⟨q1, q2, q3, q4⟩ := t4_at ks m a hm
  have hl := (List.getElem?_eq_some_iff.1 hm).1
  rcases hA with ⟨rfl, h0⟩ | ⟨ad, rfl, h1, h2⟩
  · omega
  · have g : ∀ i v, 0 < i → (t4 ks)[m * 4 + i]? = some v → w.cell? ⟨(ad.add (m * 4)).block, (ad.add (m * 4)).off + i, none⟩ = some v := fun i v hi hv => by
      have := h2 _ _ hv
      rwa [← Go.Deep.add_add, addk _ i hi] at this
    exact ⟨ad, rfl, h1 (by rw [t4_len]; omega), h2 _ _ q1, g 1 _ (by omega) q2, g 2 _ (by omega) q3, g 3 _ (by omega) q4⟩
theorem elPh : Elem Try.prog 83 71 3 16 := Elem.mk' (z := .agg #[.int .i64 0, .bool false, .bool false]) (by kernel_rfl) (by kernel_rfl) rfl (by decide)
theorem elTe : Elem Try.prog 84 80 4 16 := Elem.mk' (z := .agg #[.int .i64 0, .bool false, .bool false, .bool false]) (by kernel_rfl) (by kernel_rfl) rfl (by decide)
end Go.Proofs.Ytcdmojimdiiepaa
/- Layer 21: the document's tick. -/
namespace Go.Proofs.Ytcdmojimdiiepaa
open Go.ChangeShapes Go.WideShapes Go.ChangeAt Go.RowKit
set_option linter.unusedVariables false
set_option linter.unusedSimpArgs false

def phO (rs : List Rl) (R : List Ph) (ar : List Bool) (cs : List Cl) (i : Nat) : Ph := pstep (rs.getD i default).hold (rs.getD i default).latch (R.getD i ⟨0, false, false⟩) (saysR (rs.getD i default).l cs) (ar.getD i false)
def teO (k : Int) (Ch : List Te) (ac : List Bool) (cs : List Cl) (i : Nat) : Te := tstep k (Ch.getD i ⟨0, false, false, false⟩) (sampB cs i) (ac.getD i false)
def phL (rs : List Rl) (R : List Ph) (ar : List Bool) (cs : List Cl) (k : Nat) : List Ph := (List.range k).map (phO rs R ar cs)
def teL (kk : Int) (Ch : List Te) (ac : List Bool) (cs : List Cl) (k : Nat) : List Te := (List.range k).map (teO kk Ch ac cs)
theorem phL_succ (rs : List Rl) (R : List Ph) (ar : List Bool) (cs : List Cl) (k : Nat) : phL rs R ar cs (k + 1) = phL rs R ar cs k ++ [phO rs R ar cs k] := by simp [phL, List.range_succ]
theorem teL_succ (kk : Int) (Ch : List Te) (ac : List Bool) (cs : List Cl) (k : Nat) : teL kk Ch ac cs (k + 1) = teL kk Ch ac cs k ++ [teO kk Ch ac cs k] := by simp [teL, List.range_succ]
theorem phL_len (rs : List Rl) (R : List Ph) (ar : List Bool) (cs : List Cl) (k : Nat) : (phL rs R ar cs k).length = k := by simp [phL]
theorem teL_len (kk : Int) (Ch : List Te) (ac : List Bool) (cs : List Cl) (k : Nat) : (teL kk Ch ac cs k).length = k := by simp [teL]
def alP (l : List Ph) : List (Bool × Bool) := l.map fun s => (s.on, s.now)
def alT (l : List Te) : List (Bool × Bool) := l.map fun s => (s.on, s.now)
set_option maxRecDepth 100000 in
set_option maxHeartbeats 2000000 in
theorem rtick21_any (w : World) (lo pb : Nat) (rs : List Rl) (kk : Int) (R : List Ph) (Ch : List Te) (ar ac : List Bool) (CA : Option Addr) (ccc : Nat) (cs : List Cl) (h : RSt w lo pb rs kk R Ch ar ac) (hc : RowN 3 w (.slice CA cs.length ccc) cs.length (c3c cs)) (hCA : ∀ ad, CA = some ad → ad.block ≠ pb)
    (hn : cs.length = Ch.length) (hR : R.length = rs.length) (har : ar.length = rs.length) (hac : ac.length = Ch.length) (hr8 : rs.length ≤ 100) (hch : Ch.length ≤ 100000) (hok : ∀ r ∈ rs, ruleB r.hold r.l (cs.length : Int) = true) (hkk : 1 ≤ kk ∧ kk ≤ 1000)
    (hRb : ∀ (i : Nat) (s : Ph), R[i]? = some s → 0 ≤ s.run ∧ s.run ≤ 4611686018427387904) (hCb : ∀ (i : Nat) (s : Te), Ch[i]? = some s → 0 ≤ s.run ∧ s.run ≤ 4611686018427387904) :
    Calls Try.prog 21 #[.pointer (some ⟨pb, 0, none⟩), .slice CA cs.length ccc] w fun e w' => ∃ va vb, e = .returned (.tuple #[va, vb]) ∧ RowF w.heap.size 2 w' va rs.length (al2 (alP (phL rs R ar cs rs.length))) ∧ RowF w.heap.size 2 w' vb Ch.length (al2 (alT (teL kk Ch ac cs Ch.length))) ∧
      RSt w' lo pb rs kk (phL rs R ar cs rs.length) (teL kk Ch ac cs Ch.length) (List.replicate rs.length false) (List.replicate Ch.length false) ∧ Only [pb] w w' := by
  have HST := Lib.hid h
  obtain ⟨⟨sA, sc, rA, rc, cA, cc, aA, a_c, bA, bc, h0, ⟨h1, o1⟩, ⟨h2, o2⟩, ⟨h3, o3⟩, ⟨h4, o4⟩, ⟨h5, o5⟩⟩, ht, hh⟩ := h
  have H0 := Lib.hid h0
  have H1 := Lib.hid h1
  have H2 := Lib.hid h2
  have H3 := Lib.hid h3
  have H4 := Lib.hid h4
  have H5 := Lib.hid h5
  have HT := Lib.hid (fun r hr => (ht r hr).1)
  have ht2 := fun r hr => (ht r hr).2
  have HC := Lib.hid hc
  have HOK := Lib.hid hok
  have HRB := Lib.hid hRb
  have HCBd := Lib.hid hCb
  have HRL := Lib.hid hR
  have HAL := Lib.hid har
  have HCL := Lib.hid hac
  have HN := Lib.hid hn
  have gn3 : ((cs.length : Int) != (Ch.length : Int)) = false := by rw [hn]; simp
  have gn4 : decide ((cs.length : Int) ≠ (Ch.length : Int)) = false := decide_eq_false (by omega)
  have gn5 : (cs.length != Ch.length) = false := by rw [hn]; simp
  have gn6 : ((cs.length : Int) == (Ch.length : Int)) = true := by rw [hn]; simp
  have gn7 : (cs.length == Ch.length) = true := by rw [hn]; simp
  have cB := h0.cells
  have lB := h0.lt
  clear h0 h1 h2 h3 h4 h5 ht hc hok hRb hCb hR har hac hn
  go_enter Try.func21, Try.ntmps21
  go_wp2_with fail
  go_loopw [6, 8, 10] (fun a r i wr => ∃ (k : Nat) (FA : Option Addr) (fa : Nat) (FR : Option Addr) (fr : Nat), k ≤ rs.length ∧ i = .int .i64 k ∧ a = .slice FA k fa ∧ r = .slice FR k fr ∧ Below w.heap.size w wr ∧ wr.ownsRow w.heap.size 53 2 (.slice FA k fa) k (al2 (alP (phL rs R ar cs k))) ∧ wr.ownsRow w.heap.size 71 3 (.slice FR k fr) k (p3 (phL rs R ar cs k))) (fun _ _ i _ => rs.length - (intOf i).toNat)
  case atStart => exact ⟨0, none, 0, none, 0, Nat.zero_le _, rfl, rfl, rfl, Below.refl _ _, own_nilN _ _, own_nilN _ _⟩
  case round =>
    clear cB lB
    obtain ⟨k, FA, fa, FR, fr, hk, rfl, rfl, rfl, hb, hoa, hor⟩ := hrel
    have HB := Lib.hid hb
    have HOA := Lib.hid hoa
    have HOR := Lib.hid hor
    have HBS := Lib.hid (H0.out.below hb)
    have hz := hb.size
    have cB := HBS.out.cells
    have lB := HBS.out.lt
    clear hb hoa hor
    have gRl : (R.length : Int) = (rs.length : Int) := by rw [HRL.out]
    by_cases hlt : k < rs.length
    · have hkR : k < R.length := by rw [HRL.out]; exact hlt
      have hka : k < ar.length := by rw [HAL.out]; exact hlt
      obtain ⟨r, hr⟩ : ∃ r, rs[k]? = some r := ⟨_, List.getElem?_eq_getElem hlt⟩
      obtain ⟨s, hs⟩ : ∃ s, R[k]? = some s := ⟨_, List.getElem?_eq_getElem hkR⟩
      obtain ⟨y, hy⟩ : ∃ y, ar[k]? = some y := ⟨_, List.getElem?_eq_getElem hka⟩
      obtain ⟨ad1, rfl, hb1, e0, e1, e2⟩ := rowR_at H1.out hr
      obtain ⟨ad2, rfl, hb2, e3, e4, e5⟩ := rowP_at H2.out hs
      obtain ⟨ad4, rfl, e6⟩ := H4.out.at1 k (.bool y) (by rw [List.getElem?_map, hy]; rfl)
      have lc1 : (ad1.add (k * 3)).block < w.heap.size := by rw [block_add]; exact hb1
      have lc2 : (ad2.add (k * 3)).block < w.heap.size := by rw [block_add]; exact hb2
      have lc4 := lt_of_cell e6
      have HE := Lib.hid (show phO rs R ar cs k = pstep r.hold r.latch s (saysR r.l cs) y by unfold phO; simp only [List.getD_eq_getElem?_getD, hr, hs, hy, Option.getD_some])
      have HRU := Lib.hid (rule_h (HOK.out r (List.mem_of_getElem? hr)))
      have HTE := Lib.hid (HT.out r (List.mem_of_getElem? hr))
      have hsb := HRB.out k s hs
      obtain ⟨tr, HTR⟩ : ∃ t, RowKit.Hid (t = saysR r.l cs) := ⟨_, Lib.hid rfl⟩
      obtain ⟨p, HPE⟩ : ∃ p, RowKit.Hid (p = pstep r.hold r.latch s tr y) := ⟨_, Lib.hid rfl⟩
      have HEP := Lib.hid (show phO rs R ar cs k = p by rw [HE.out, HPE.out, HTR.out])
      have hl16 : r.l.length ≤ 100 := by have := HRU.out.2.2.1; omega
      have gk1 : (k : Int) < (rs.length : Int) := by omega
      have gk2 : (k : Int) < (R.length : Int) := by omega
      have gk3 : (k : Int) < (ar.length : Int) := by omega
      have dS : ∀ w', Below wr.heap.size wr w' → ∀ i, w'.cell? ⟨pb, i, none⟩ = (#[.slice (some ad1) rs.length sc, .int .i64 kk, .slice (some ad2) R.length rc, .slice cA Ch.length cc, .slice (some ad4) ar.length a_c, .slice bA ac.length bc] : Array Value)[i]? := fun w' hb => (HBS.out.below hb).cells
      have d0 : ∀ w', Below wr.heap.size wr w' → w'.cell? (ad1.add (k * 3)) = some (.slice r.A r.l.length r.rc) := fun w' hb => ((Btrans HB.out hb).cell lc1).trans e0
      have d1 : ∀ w', Below wr.heap.size wr w' → w'.cell? ⟨(ad1.add (k * 3)).block, (ad1.add (k * 3)).off + 1, none⟩ = some (.int .i64 r.hold) := fun w' hb => ((Btrans HB.out hb).cell (p := ⟨(ad1.add (k * 3)).block, (ad1.add (k * 3)).off + 1, none⟩) lc1).trans e1
      have d2 : ∀ w', Below wr.heap.size wr w' → w'.cell? ⟨(ad1.add (k * 3)).block, (ad1.add (k * 3)).off + 2, none⟩ = some (.bool r.latch) := fun w' hb => ((Btrans HB.out hb).cell (p := ⟨(ad1.add (k * 3)).block, (ad1.add (k * 3)).off + 2, none⟩) lc1).trans e2
      have d3 : ∀ w', Below wr.heap.size wr w' → w'.cell? (ad2.add (k * 3)) = some (.int .i64 s.run) := fun w' hb => ((Btrans HB.out hb).cell lc2).trans e3
      have d4 : ∀ w', Below wr.heap.size wr w' → w'.cell? ⟨(ad2.add (k * 3)).block, (ad2.add (k * 3)).off + 1, none⟩ = some (.bool s.on) := fun w' hb => ((Btrans HB.out hb).cell (p := ⟨(ad2.add (k * 3)).block, (ad2.add (k * 3)).off + 1, none⟩) lc2).trans e4
      have d5 : ∀ w', Below wr.heap.size wr w' → w'.cell? ⟨(ad2.add (k * 3)).block, (ad2.add (k * 3)).off + 2, none⟩ = some (.bool s.now) := fun w' hb => ((Btrans HB.out hb).cell (p := ⟨(ad2.add (k * 3)).block, (ad2.add (k * 3)).off + 2, none⟩) lc2).trans e5
      have d6 : ∀ w', Below wr.heap.size wr w' → w'.cell? (ad4.add k) = some (.bool y) := fun w' hb => ((Btrans HB.out hb).cell lc4).trans e6
      clear e0 e1 e2 e3 e4 e5 e6 hr hs hy
      go_wp2_with fail
      refine wp_region_held_drew (S := fun w' => Below wr.heap.size wr w') (by kernel_rfl) ((Below.refl _ _).drew) (fun hHeld => ?_)
      have hcur : Below wr.heap.size wr _ := hHeld
      refine takeD 0 (some 31) (v := ?_) rfl rfl (by kernel_rfl) (by kernel_rfl) (by kernel_rfl) (fun _ _ _ h => h) (by rfl) ?_ (by assumption) ?_
      rotate_left
      · intro w hSw
        (try dsimp only at hSw)
        go_simp
        try with_reducible rfl
      try simp only [Act.put, List.setIfInBounds_toArray, List.set_cons_zero, List.set_cons_succ]
      refine takeD 1 (some 32) (v := ?_) rfl rfl (by kernel_rfl) (by kernel_rfl) (by kernel_rfl) (fun _ _ _ h => h) (by rfl) ?_ (by assumption) ?_
      rotate_left
      · intro w hSw
        (try dsimp only at hSw)
        go_simp
        try with_reducible rfl
      try simp only [Act.put, List.setIfInBounds_toArray, List.set_cons_zero, List.set_cons_succ]
      refine takeD 2 (some 33) (v := ?_) rfl rfl (by kernel_rfl) (by kernel_rfl) (by kernel_rfl) (fun _ _ _ h => h) (by rfl) ?_ (by assumption) ?_
      rotate_left
      · intro w hSw
        (try dsimp only at hSw)
        go_simp
        try with_reducible rfl
      try simp only [Act.put, List.setIfInBounds_toArray, List.set_cons_zero, List.set_cons_succ]
      refine takeD 3 (some 34) (v := ?_) rfl rfl (by kernel_rfl) (by kernel_rfl) (by kernel_rfl) (fun _ _ _ h => h) (by rfl) ?_ (by assumption) ?_
      rotate_left
      · intro w hSw
        (try dsimp only at hSw)
        go_simp
        try with_reducible rfl
      try simp only [Act.put, List.setIfInBounds_toArray, List.set_cons_zero, List.set_cons_succ]
      refine takeD 4 (some 35) (v := ?_) rfl rfl (by kernel_rfl) (by kernel_rfl) (by kernel_rfl) (fun _ _ _ h => h) (by rfl) ?_ (by assumption) ?_
      rotate_left
      · intro w hSw
        (try dsimp only at hSw)
        go_simp
        try with_reducible rfl
      try simp only [Act.put, List.setIfInBounds_toArray, List.set_cons_zero, List.set_cons_succ]
      refine takeD 5 (some 36) (v := ?_) rfl rfl (by kernel_rfl) (by kernel_rfl) (by kernel_rfl) (fun _ _ _ h => h) (by rfl) ?_ (by assumption) ?_
      rotate_left
      · intro w hSw
        (try dsimp only at hSw)
        go_simp
        try with_reducible rfl
      try simp only [Act.put, List.setIfInBounds_toArray, List.set_cons_zero, List.set_cons_succ]
      refine takeD 6 (some 37) (v := ?_) rfl rfl (by kernel_rfl) (by kernel_rfl) (by kernel_rfl) (fun _ _ _ h => h) (by rfl) ?_ (by assumption) ?_
      rotate_left
      · intro w hSw
        (try dsimp only at hSw)
        go_simp
        try with_reducible rfl
      try simp only [Act.put, List.setIfInBounds_toArray, List.set_cons_zero, List.set_cons_succ]
      refine takeD 7 (some 38) (v := ?_) rfl rfl (by kernel_rfl) (by kernel_rfl) (by kernel_rfl) (fun _ _ _ h => h) (by rfl) ?_ (by assumption) ?_
      rotate_left
      · intro w hSw
        (try dsimp only at hSw)
        go_simp
        try with_reducible rfl
      try simp only [Act.put, List.setIfInBounds_toArray, List.set_cons_zero, List.set_cons_succ]
      refine takeD 8 (some 39) (v := ?_) rfl rfl (by kernel_rfl) (by kernel_rfl) (by kernel_rfl) (fun _ _ _ h => h) (by rfl) ?_ (by assumption) ?_
      rotate_left
      · intro w hSw
        (try dsimp only at hSw)
        go_simp
        try with_reducible rfl
      try simp only [Act.put, List.setIfInBounds_toArray, List.set_cons_zero, List.set_cons_succ]
      refine takeD 9 (some 40) (v := ?_) rfl rfl (by kernel_rfl) (by kernel_rfl) (by kernel_rfl) (fun _ _ _ h => h) (by rfl) ?_ (by assumption) ?_
      rotate_left
      · intro w hSw
        (try dsimp only at hSw)
        go_simp
        try with_reducible rfl
      try simp only [Act.put, List.setIfInBounds_toArray, List.set_cons_zero, List.set_cons_succ]
      refine takeD 10 (some 41) (v := ?_) rfl rfl (by kernel_rfl) (by kernel_rfl) (by kernel_rfl) (fun _ _ _ h => h) (by rfl) ?_ (by assumption) ?_
      rotate_left
      · intro w hSw
        (try dsimp only at hSw)
        go_simp
        try with_reducible rfl
      try simp only [Act.put, List.setIfInBounds_toArray, List.set_cons_zero, List.set_cons_succ]
      refine takeD 11 (some 42) (v := ?_) rfl rfl (by kernel_rfl) (by kernel_rfl) (by kernel_rfl) (fun _ _ _ h => h) (by rfl) ?_ (by assumption) ?_
      rotate_left
      · intro w hSw
        (try dsimp only at hSw)
        go_simp
        try with_reducible rfl
      try simp only [Act.put, List.setIfInBounds_toArray, List.set_cons_zero, List.set_cons_succ]
      refine takeD 12 (some 43) (v := ?_) rfl rfl (by kernel_rfl) (by kernel_rfl) (by kernel_rfl) (fun _ _ _ h => h) (by rfl) ?_ (by assumption) ?_
      rotate_left
      · intro w hSw
        (try dsimp only at hSw)
        go_simp
        try with_reducible rfl
      try simp only [Act.put, List.setIfInBounds_toArray, List.set_cons_zero, List.set_cons_succ]
      refine takeD 13 (some 44) (v := ?_) rfl rfl (by kernel_rfl) (by kernel_rfl) (by kernel_rfl) (fun _ _ _ h => h) (by rfl) ?_ (by assumption) ?_
      rotate_left
      · intro w hSw
        (try dsimp only at hSw)
        go_simp
        try with_reducible rfl
      try simp only [Act.put, List.setIfInBounds_toArray, List.set_cons_zero, List.set_cons_succ]
      refine takeD 14 (some 45) (v := ?_) rfl rfl (by kernel_rfl) (by kernel_rfl) (by kernel_rfl) (fun _ _ _ h => h) (by rfl) ?_ (by assumption) ?_
      rotate_left
      · intro w hSw
        (try dsimp only at hSw)
        go_simp
        try with_reducible rfl
      try simp only [Act.put, List.setIfInBounds_toArray, List.set_cons_zero, List.set_cons_succ]
      refine takeD 15 (some 46) (v := ?_) rfl rfl (by kernel_rfl) (by kernel_rfl) (by kernel_rfl) (fun _ _ _ h => h) (by rfl) ?_ (by assumption) ?_
      rotate_left
      · intro w hSw
        (try dsimp only at hSw)
        go_simp
        try with_reducible rfl
      try simp only [Act.put, List.setIfInBounds_toArray, List.set_cons_zero, List.set_cons_succ]
      refine takeD 16 (some 47) (v := ?_) rfl rfl (by kernel_rfl) (by kernel_rfl) (by kernel_rfl) (fun _ _ _ h => h) (by rfl) ?_ (by assumption) ?_
      rotate_left
      · intro w hSw
        (try dsimp only at hSw)
        go_simp
        try with_reducible rfl
      try simp only [Act.put, List.setIfInBounds_toArray, List.set_cons_zero, List.set_cons_succ]
      refine takeD 17 (some 48) (v := ?_) rfl rfl (by kernel_rfl) (by kernel_rfl) (by kernel_rfl) (fun _ _ _ h => h) (by rfl) ?_ (by assumption) ?_
      rotate_left
      · intro w hSw
        (try dsimp only at hSw)
        go_simp
        try with_reducible rfl
      try simp only [Act.put, List.setIfInBounds_toArray, List.set_cons_zero, List.set_cons_succ]
      refine takeD 18 (some 49) (v := ?_) rfl rfl (by kernel_rfl) (by kernel_rfl) (by kernel_rfl) (fun _ _ _ h => h) (by rfl) ?_ (by assumption) ?_
      rotate_left
      · intro w hSw
        (try dsimp only at hSw)
        go_simp
        try with_reducible rfl
      try simp only [Act.put, List.setIfInBounds_toArray, List.set_cons_zero, List.set_cons_succ]
      refine takeD 19 (some 50) (v := ?_) rfl rfl (by kernel_rfl) (by kernel_rfl) (by kernel_rfl) (fun _ _ _ h => h) (by rfl) ?_ (by assumption) ?_
      rotate_left
      · intro w hSw
        (try dsimp only at hSw)
        go_simp
        try with_reducible rfl
      try simp only [Act.put, List.setIfInBounds_toArray, List.set_cons_zero, List.set_cons_succ]
      refine takeD 20 (some 51) (v := ?_) rfl rfl (by kernel_rfl) (by kernel_rfl) (by kernel_rfl) (fun _ _ _ h => h) (by rfl) ?_ (by assumption) ?_
      rotate_left
      · intro w hSw
        (try dsimp only at hSw)
        go_simp
        try with_reducible rfl
      try simp only [Act.put, List.setIfInBounds_toArray, List.set_cons_zero, List.set_cons_succ]
      refine takeD 21 (some 52) (v := ?_) rfl rfl (by kernel_rfl) (by kernel_rfl) (by kernel_rfl) (fun _ _ _ h => h) (by rfl) ?_ (by assumption) ?_
      rotate_left
      · intro w hSw
        (try dsimp only at hSw)
        go_simp
        try with_reducible rfl
      try simp only [Act.put, List.setIfInBounds_toArray, List.set_cons_zero, List.set_cons_succ]
      refine takeD 23 (some 54) (v := ?_) rfl rfl (by kernel_rfl) (by kernel_rfl) (by kernel_rfl) (fun _ _ _ h => h) (by rfl) ?_ (by assumption) ?_
      rotate_left
      · intro w hSw
        (try dsimp only at hSw)
        go_simp
        try with_reducible rfl
      try simp only [Act.put, List.setIfInBounds_toArray, List.set_cons_zero, List.set_cons_succ]
      refine takeD 24 (some 55) (v := ?_) rfl rfl (by kernel_rfl) (by kernel_rfl) (by kernel_rfl) (fun _ _ _ h => h) (by rfl) ?_ (by assumption) ?_
      rotate_left
      · intro w hSw
        (try dsimp only at hSw)
        go_simp
        try with_reducible rfl
      try simp only [Act.put, List.setIfInBounds_toArray, List.set_cons_zero, List.set_cons_succ]
      refine takeD 25 (some 56) (v := ?_) rfl rfl (by kernel_rfl) (by kernel_rfl) (by kernel_rfl) (fun _ _ _ h => h) (by rfl) ?_ (by assumption) ?_
      rotate_left
      · intro w hSw
        (try dsimp only at hSw)
        go_simp
        try with_reducible rfl
      try simp only [Act.put, List.setIfInBounds_toArray, List.set_cons_zero, List.set_cons_succ]
      refine takeD 26 (some 57) (v := ?_) rfl rfl (by kernel_rfl) (by kernel_rfl) (by kernel_rfl) (fun _ _ _ h => h) (by rfl) ?_ (by assumption) ?_
      rotate_left
      · intro w hSw
        (try dsimp only at hSw)
        go_simp
        try with_reducible rfl
      try simp only [Act.put, List.setIfInBounds_toArray, List.set_cons_zero, List.set_cons_succ]
      refine takeD 27 (some 58) (v := ?_) rfl rfl (by kernel_rfl) (by kernel_rfl) (by kernel_rfl) (fun _ _ _ h => h) (by rfl) ?_ (by assumption) ?_
      rotate_left
      · intro w hSw
        (try dsimp only at hSw)
        go_simp
        try with_reducible rfl
      try simp only [Act.put, List.setIfInBounds_toArray, List.set_cons_zero, List.set_cons_succ]
      refine takeD 28 (some 59) (v := ?_) rfl rfl (by kernel_rfl) (by kernel_rfl) (by kernel_rfl) (fun _ _ _ h => h) (by rfl) ?_ (by assumption) ?_
      rotate_left
      · intro w hSw
        (try dsimp only at hSw)
        go_simp
        try with_reducible rfl
      try simp only [Act.put, List.setIfInBounds_toArray, List.set_cons_zero, List.set_cons_succ]
      refine takeD 29 (some 60) (v := ?_) rfl rfl (by kernel_rfl) (by kernel_rfl) (by kernel_rfl) (fun _ _ _ h => h) (by rfl) ?_ (by assumption) ?_
      rotate_left
      · intro w hSw
        (try dsimp only at hSw)
        go_simp
        try with_reducible rfl
      try simp only [Act.put, List.setIfInBounds_toArray, List.set_cons_zero, List.set_cons_succ]
      refine wpAnyH_ready (rs := [22, 31]) (by kernel_rfl) (by simp) ?_
      refine AllReadyH.cons rfl (fun K hK => ?_) (AllReadyH.cons rfl (fun K hK => ?_) AllReadyH.nil)
      · rw [if_pos (by rfl)]
        go_simp
        go_at_call 42
        refine (rsays_any _ r.hold r.latch r.l CA ccc cs _ ⟨r.A, r.rc, rfl, HTE.out.below (HB.out.trans (hcur.mono HB.out.size))⟩ (HC.out.below (HB.out.trans (hcur.mono HB.out.size))) HRU.out.2.2.2.1 HRU.out.2.2.2.2 hl16).mono ?_
        rintro e w1 ⟨rfl, hk⟩
        rw [← HTR.out]
        have hcur2 : Below wr.heap.size wr w1 := hcur.trans (hk.mono hcur.size)
        clear hcur hk
        have hcur := hcur2
        clear hcur2
        have hS := hcur
        go_wp2_with fail
        refine hK.out _ _ ?_ (fun hHeld2 => ?_)
        · clear hK; exact hS
        clear hK K hHeld hS
        have hHeld := hHeld2
        clear hHeld2
        try simp only [Act.put, List.setIfInBounds_toArray, List.set_cons_zero, List.set_cons_succ]
        refine wpAnyH_ready (rs := [30, 31]) (by kernel_rfl) (by simp) ?_
        refine AllReadyH.cons rfl (fun K hK => ?_) (AllReadyH.cons rfl (fun K hK => ?_) AllReadyH.nil)
        · rw [if_pos (by rfl)]
          go_simp
          go_at_call 41
          refine (rstep_any _ r.hold r.latch s tr y _ hsb.1 hsb.2).mono ?_
          rintro e w2 ⟨rfl, hk⟩
          rw [← HPE.out]
          have hcur2 : Below wr.heap.size wr w2 := hcur.trans (hk.mono hcur.size)
          clear hcur hk
          have hcur := hcur2
          clear hcur2
          have hS := hcur
          go_wp2_with fail
          refine hK.out _ _ ?_ (fun hHeld2 => ?_)
          · clear hK; exact hS
          clear hK K hHeld hS
          have hHeld := hHeld2
          clear hHeld2
          try simp only [Act.put, List.setIfInBounds_toArray, List.set_cons_zero, List.set_cons_succ]
          refine wpAnyH_ready (rs := [31]) (by kernel_rfl) (by simp) ?_
          refine AllReadyH.cons rfl (fun K hK => ?_) AllReadyH.nil
          rw [if_pos (by rfl)]
          go_simp
          refine nameV (fun V => Below wr.heap.size wr V ∧ Blk V w2.heap.size 71 #[.int .i64 0, .bool false, .bool false]) ⟨hcur.alloc hcur.size _, Blk.new _ _ _ _ rfl⟩ fun V ⟨hcur2, hx⟩ => ?_
          have HX := Lib.hid hx
          have hxl : wr.heap.size ≤ w2.heap.size := by first | exact Nat.le_refl _ | exact hcur.size
          clear hcur hx
          have hcur := hcur2
          clear hcur2
          have hS := hcur
          refine hK.out _ _ ?_ (fun hHeld2 => ?_)
          · clear hK; exact hS
          clear hK K hHeld hS
          have hHeld := hHeld2
          clear hHeld2
          try simp only [Act.put, List.setIfInBounds_toArray, List.set_cons_zero, List.set_cons_succ]
          refine wpAnyH_ready (rs := [32]) (by kernel_rfl) (by simp) ?_
          refine AllReadyH.cons rfl (fun K hK => ?_) AllReadyH.nil
          rw [if_pos (by rfl)]
          have cX := HX.out.cells
          have fX := HX.out.froz
          go_simp
          have HX3 := Lib.hid (((HX.out.set 0 (.int .i64 p.run)).set 1 (.bool p.on)).set 2 (.bool p.now))
          have hS : Below wr.heap.size wr _ := ((hcur.setCell (p := ⟨w2.heap.size, 0, none⟩) hxl (.int .i64 p.run)).setCell (p := ⟨w2.heap.size, 1, none⟩) hxl (.bool p.on)).setCell (p := ⟨w2.heap.size, 2, none⟩) hxl (.bool p.now)
          clear cX fX
          refine hK.out _ _ ?_ (fun hHeld2 => ?_)
          · clear hK; exact hS
          clear hK K hHeld hS
          have hHeld := hHeld2
          clear hHeld2
          try simp only [Act.put, List.setIfInBounds_toArray, List.set_cons_zero, List.set_cons_succ]
          refine wpAnyH_done (by kernel_rfl) ?_ _
          refine nameV (fun W => Below wr.heap.size wr W ∧ Blk W w2.heap.size 71 #[.int .i64 p.run, .bool p.on, .bool p.now]) ⟨hHeld, HX3.out⟩ fun W6 ⟨h6, hx6⟩ => ?_
          have HB6 := Lib.hid h6
          have HX6 := Lib.hid hx6
          have hz6 := h6.size
          have cX := hx6.cells
          have lX := hx6.lt
          clear hHeld h6 hx6 HX HX3 hcur dS d0 d1 d2 d3 d4 d5 d6 cB lB
          go_wp2_with (at_builtin; refine wpList_appN elPh rfl (.tmp 62) (.tmp 64) rfl w.heap.size _ k (p3 (phL rs R ar cs k)) rfl (own_below (own_below HOR.out HB6.out) (by go_grown)) _ 1 (p3 [p]) rfl (RowN.of_blk (Blk.new _ _ _ _ (by simp)) rfl rfl (Nat.le_refl _) (by decide)) (p3_one _) (by unfold maxLen; omega) (by omega) (by simp; omega) ?_)
          intro v7 W7 hO7 hg7 _
          have HG7 := Lib.hid (show Below W6.heap.size W6 _ by first | exact (Below.refl _ _).alloc (Nat.le_refl _) (.cells #[.int .i64 p.run, .bool p.on, .bool p.now] 71))
          have HB7 := Lib.hid (below_app (B := w.heap.size) ((HB.out.trans (HB6.out.mono hz)).trans (HG7.out.mono (Nat.le_trans hz hz6))) (by simp; omega) (own_below (own_below HOR.out HB6.out) HG7.out) hg7 (Nat.le_refl _))
          have HOA7 := Lib.hid (own_kept (own_below (own_below HOA.out HB6.out) HG7.out) (own_below (own_below HOR.out HB6.out) HG7.out) (by decide) hg7)
          have HX7 := Lib.hid (show Blk W7 w2.heap.size 71 _ from (hg7.block _ (HX6.out.below HG7.out).lt (fun he => by have := own_lt HOR.out he.symm; omega)).trans (HX6.out.below HG7.out))
          obtain ⟨FB, fb, rfl⟩ := own_shape hO7
          have HO7 := Lib.hid hO7
          have hz7 := HB7.out.size
          clear hO7 hg7 cX lX
          have cX := HX7.out.cells
          have lX := HX7.out.lt
          go_wp2_with (at_builtin; refine wpList_appN elA rfl (.tmp 66) (.tmp 72) rfl w.heap.size _ k (al2 (alP (phL rs R ar cs k))) rfl (own_below HOA7.out (by go_grown)) _ 1 (al2 [(p.on, p.now)]) rfl (RowN.of_blk (Blk.new _ _ _ _ (by simp)) rfl rfl (Nat.le_refl _) (by decide)) (al2_one _) (by unfold maxLen; omega) (by omega) (by simp; omega) ?_)
          intro v8 W8 hO8 hg8 _
          have HG8 := Lib.hid (show Below W7.heap.size W7 _ from (Below.refl _ _).alloc (Nat.le_refl _) (.cells #[.bool p.on, .bool p.now] 53))
          have HB8 := Lib.hid (below_app (B := w.heap.size) (HB7.out.trans (HG8.out.mono hz7)) (by simp; omega) (own_below HOA7.out HG8.out) hg8 (Nat.le_refl _))
          have HO8 := Lib.hid (own_kept (own_below HO7.out HG8.out) (own_below HOA7.out HG8.out) (by decide) hg8)
          obtain ⟨FC, fc, rfl⟩ := own_shape hO8
          have HAO := Lib.hid (show W8.ownsRow w.heap.size 53 2 (.slice FC (k + 1) fc) (k + 1) (al2 (alP (phL rs R ar cs (k + 1)))) by rw [phL_succ, HEP.out]; unfold alP; rw [List.map_append, al2_app]; exact hO8)
          have HRO := Lib.hid (show W8.ownsRow w.heap.size 71 3 (.slice FB (k + 1) fb) (k + 1) (p3 (phL rs R ar cs (k + 1))) by rw [phL_succ, HEP.out, p3_app]; exact HO8.out)
          clear hO8 hg8 cX lX
          go_wp2
          go_roundw
          case rel => exact ⟨k + 1, FC, fc, FB, fb, by omega, by go_num, rfl, rfl, HB8.out, HAO.out, HRO.out⟩
          case measure => simp [intOf]; omega
        · rw [if_pos (by rfl)]
          go_simp
          refine nameV (fun V => Below wr.heap.size wr V ∧ Blk V w1.heap.size 71 #[.int .i64 0, .bool false, .bool false]) ⟨hcur.alloc hcur.size _, Blk.new _ _ _ _ rfl⟩ fun V ⟨hcur2, hx⟩ => ?_
          have HX := Lib.hid hx
          have hxl : wr.heap.size ≤ w1.heap.size := by first | exact Nat.le_refl _ | exact hcur.size
          clear hcur hx
          have hcur := hcur2
          clear hcur2
          have hS := hcur
          refine hK.out _ _ ?_ (fun hHeld2 => ?_)
          · clear hK; exact hS
          clear hK K hHeld hS
          have hHeld := hHeld2
          clear hHeld2
          try simp only [Act.put, List.setIfInBounds_toArray, List.set_cons_zero, List.set_cons_succ]
          refine wpAnyH_ready (rs := [30]) (by kernel_rfl) (by simp) ?_
          refine AllReadyH.cons rfl (fun K hK => ?_) AllReadyH.nil
          rw [if_pos (by rfl)]
          go_simp
          go_at_call 41
          refine (rstep_any _ r.hold r.latch s tr y _ hsb.1 hsb.2).mono ?_
          rintro e w2 ⟨rfl, hk⟩
          rw [← HPE.out]
          have hcur2 : Below wr.heap.size wr w2 := hcur.trans (hk.mono hcur.size)
          have HX2 := Lib.hid (HX.out.below hk)
          clear HX
          have HX := Lib.hid HX2.out
          clear HX2
          clear hcur hk
          have hcur := hcur2
          clear hcur2
          have hS := hcur
          go_wp2_with fail
          refine hK.out _ _ ?_ (fun hHeld2 => ?_)
          · clear hK; exact hS
          clear hK K hHeld hS
          have hHeld := hHeld2
          clear hHeld2
          try simp only [Act.put, List.setIfInBounds_toArray, List.set_cons_zero, List.set_cons_succ]
          refine wpAnyH_ready (rs := [32]) (by kernel_rfl) (by simp) ?_
          refine AllReadyH.cons rfl (fun K hK => ?_) AllReadyH.nil
          rw [if_pos (by rfl)]
          have cX := HX.out.cells
          have fX := HX.out.froz
          go_simp
          have HX3 := Lib.hid (((HX.out.set 0 (.int .i64 p.run)).set 1 (.bool p.on)).set 2 (.bool p.now))
          have hS : Below wr.heap.size wr _ := ((hcur.setCell (p := ⟨w1.heap.size, 0, none⟩) hxl (.int .i64 p.run)).setCell (p := ⟨w1.heap.size, 1, none⟩) hxl (.bool p.on)).setCell (p := ⟨w1.heap.size, 2, none⟩) hxl (.bool p.now)
          clear cX fX
          refine hK.out _ _ ?_ (fun hHeld2 => ?_)
          · clear hK; exact hS
          clear hK K hHeld hS
          have hHeld := hHeld2
          clear hHeld2
          try simp only [Act.put, List.setIfInBounds_toArray, List.set_cons_zero, List.set_cons_succ]
          refine wpAnyH_done (by kernel_rfl) ?_ _
          refine nameV (fun W => Below wr.heap.size wr W ∧ Blk W w1.heap.size 71 #[.int .i64 p.run, .bool p.on, .bool p.now]) ⟨hHeld, HX3.out⟩ fun W6 ⟨h6, hx6⟩ => ?_
          have HB6 := Lib.hid h6
          have HX6 := Lib.hid hx6
          have hz6 := h6.size
          have cX := hx6.cells
          have lX := hx6.lt
          clear hHeld h6 hx6 HX HX3 hcur dS d0 d1 d2 d3 d4 d5 d6 cB lB
          go_wp2_with (at_builtin; refine wpList_appN elPh rfl (.tmp 62) (.tmp 64) rfl w.heap.size _ k (p3 (phL rs R ar cs k)) rfl (own_below (own_below HOR.out HB6.out) (by go_grown)) _ 1 (p3 [p]) rfl (RowN.of_blk (Blk.new _ _ _ _ (by simp)) rfl rfl (Nat.le_refl _) (by decide)) (p3_one _) (by unfold maxLen; omega) (by omega) (by simp; omega) ?_)
          intro v7 W7 hO7 hg7 _
          have HG7 := Lib.hid (show Below W6.heap.size W6 _ by first | exact (Below.refl _ _).alloc (Nat.le_refl _) (.cells #[.int .i64 p.run, .bool p.on, .bool p.now] 71))
          have HB7 := Lib.hid (below_app (B := w.heap.size) ((HB.out.trans (HB6.out.mono hz)).trans (HG7.out.mono (Nat.le_trans hz hz6))) (by simp; omega) (own_below (own_below HOR.out HB6.out) HG7.out) hg7 (Nat.le_refl _))
          have HOA7 := Lib.hid (own_kept (own_below (own_below HOA.out HB6.out) HG7.out) (own_below (own_below HOR.out HB6.out) HG7.out) (by decide) hg7)
          have HX7 := Lib.hid (show Blk W7 w1.heap.size 71 _ from (hg7.block _ (HX6.out.below HG7.out).lt (fun he => by have := own_lt HOR.out he.symm; omega)).trans (HX6.out.below HG7.out))
          obtain ⟨FB, fb, rfl⟩ := own_shape hO7
          have HO7 := Lib.hid hO7
          have hz7 := HB7.out.size
          clear hO7 hg7 cX lX
          have cX := HX7.out.cells
          have lX := HX7.out.lt
          go_wp2_with (at_builtin; refine wpList_appN elA rfl (.tmp 66) (.tmp 72) rfl w.heap.size _ k (al2 (alP (phL rs R ar cs k))) rfl (own_below HOA7.out (by go_grown)) _ 1 (al2 [(p.on, p.now)]) rfl (RowN.of_blk (Blk.new _ _ _ _ (by simp)) rfl rfl (Nat.le_refl _) (by decide)) (al2_one _) (by unfold maxLen; omega) (by omega) (by simp; omega) ?_)
          intro v8 W8 hO8 hg8 _
          have HG8 := Lib.hid (show Below W7.heap.size W7 _ from (Below.refl _ _).alloc (Nat.le_refl _) (.cells #[.bool p.on, .bool p.now] 53))
          have HB8 := Lib.hid (below_app (B := w.heap.size) (HB7.out.trans (HG8.out.mono hz7)) (by simp; omega) (own_below HOA7.out HG8.out) hg8 (Nat.le_refl _))
          have HO8 := Lib.hid (own_kept (own_below HO7.out HG8.out) (own_below HOA7.out HG8.out) (by decide) hg8)
          obtain ⟨FC, fc, rfl⟩ := own_shape hO8
          have HAO := Lib.hid (show W8.ownsRow w.heap.size 53 2 (.slice FC (k + 1) fc) (k + 1) (al2 (alP (phL rs R ar cs (k + 1)))) by rw [phL_succ, HEP.out]; unfold alP; rw [List.map_append, al2_app]; exact hO8)
          have HRO := Lib.hid (show W8.ownsRow w.heap.size 71 3 (.slice FB (k + 1) fb) (k + 1) (p3 (phL rs R ar cs (k + 1))) by rw [phL_succ, HEP.out, p3_app]; exact HO8.out)
          clear hO8 hg8 cX lX
          go_wp2
          go_roundw
          case rel => exact ⟨k + 1, FC, fc, FB, fb, by omega, by go_num, rfl, rfl, HB8.out, HAO.out, HRO.out⟩
          case measure => simp [intOf]; omega
      · rw [if_pos (by rfl)]
        go_simp
        refine nameV (fun V => Below wr.heap.size wr V ∧ Blk V wr.heap.size 71 #[.int .i64 0, .bool false, .bool false]) ⟨hcur.alloc hcur.size _, Blk.new _ _ _ _ rfl⟩ fun V ⟨hcur2, hx⟩ => ?_
        have HX := Lib.hid hx
        have hxl : wr.heap.size ≤ wr.heap.size := by first | exact Nat.le_refl _ | exact hcur.size
        clear hcur hx
        have hcur := hcur2
        clear hcur2
        have hS := hcur
        refine hK.out _ _ ?_ (fun hHeld2 => ?_)
        · clear hK; exact hS
        clear hK K hHeld hS
        have hHeld := hHeld2
        clear hHeld2
        try simp only [Act.put, List.setIfInBounds_toArray, List.set_cons_zero, List.set_cons_succ]
        refine wpAnyH_ready (rs := [22]) (by kernel_rfl) (by simp) ?_
        refine AllReadyH.cons rfl (fun K hK => ?_) AllReadyH.nil
        rw [if_pos (by rfl)]
        go_simp
        go_at_call 42
        refine (rsays_any _ r.hold r.latch r.l CA ccc cs _ ⟨r.A, r.rc, rfl, HTE.out.below (HB.out.trans (hcur.mono HB.out.size))⟩ (HC.out.below (HB.out.trans (hcur.mono HB.out.size))) HRU.out.2.2.2.1 HRU.out.2.2.2.2 hl16).mono ?_
        rintro e w1 ⟨rfl, hk⟩
        rw [← HTR.out]
        have hcur2 : Below wr.heap.size wr w1 := hcur.trans (hk.mono hcur.size)
        have HX2 := Lib.hid (HX.out.below hk)
        clear HX
        have HX := Lib.hid HX2.out
        clear HX2
        clear hcur hk
        have hcur := hcur2
        clear hcur2
        have hS := hcur
        go_wp2_with fail
        refine hK.out _ _ ?_ (fun hHeld2 => ?_)
        · clear hK; exact hS
        clear hK K hHeld hS
        have hHeld := hHeld2
        clear hHeld2
        try simp only [Act.put, List.setIfInBounds_toArray, List.set_cons_zero, List.set_cons_succ]
        refine wpAnyH_ready (rs := [30]) (by kernel_rfl) (by simp) ?_
        refine AllReadyH.cons rfl (fun K hK => ?_) AllReadyH.nil
        rw [if_pos (by rfl)]
        go_simp
        go_at_call 41
        refine (rstep_any _ r.hold r.latch s tr y _ hsb.1 hsb.2).mono ?_
        rintro e w2 ⟨rfl, hk⟩
        rw [← HPE.out]
        have hcur2 : Below wr.heap.size wr w2 := hcur.trans (hk.mono hcur.size)
        have HX2 := Lib.hid (HX.out.below hk)
        clear HX
        have HX := Lib.hid HX2.out
        clear HX2
        clear hcur hk
        have hcur := hcur2
        clear hcur2
        have hS := hcur
        go_wp2_with fail
        refine hK.out _ _ ?_ (fun hHeld2 => ?_)
        · clear hK; exact hS
        clear hK K hHeld hS
        have hHeld := hHeld2
        clear hHeld2
        try simp only [Act.put, List.setIfInBounds_toArray, List.set_cons_zero, List.set_cons_succ]
        refine wpAnyH_ready (rs := [32]) (by kernel_rfl) (by simp) ?_
        refine AllReadyH.cons rfl (fun K hK => ?_) AllReadyH.nil
        rw [if_pos (by rfl)]
        have cX := HX.out.cells
        have fX := HX.out.froz
        go_simp
        have HX3 := Lib.hid (((HX.out.set 0 (.int .i64 p.run)).set 1 (.bool p.on)).set 2 (.bool p.now))
        have hS : Below wr.heap.size wr _ := ((hcur.setCell (p := ⟨wr.heap.size, 0, none⟩) hxl (.int .i64 p.run)).setCell (p := ⟨wr.heap.size, 1, none⟩) hxl (.bool p.on)).setCell (p := ⟨wr.heap.size, 2, none⟩) hxl (.bool p.now)
        clear cX fX
        refine hK.out _ _ ?_ (fun hHeld2 => ?_)
        · clear hK; exact hS
        clear hK K hHeld hS
        have hHeld := hHeld2
        clear hHeld2
        try simp only [Act.put, List.setIfInBounds_toArray, List.set_cons_zero, List.set_cons_succ]
        refine wpAnyH_done (by kernel_rfl) ?_ _
        refine nameV (fun W => Below wr.heap.size wr W ∧ Blk W wr.heap.size 71 #[.int .i64 p.run, .bool p.on, .bool p.now]) ⟨hHeld, HX3.out⟩ fun W6 ⟨h6, hx6⟩ => ?_
        have HB6 := Lib.hid h6
        have HX6 := Lib.hid hx6
        have hz6 := h6.size
        have cX := hx6.cells
        have lX := hx6.lt
        clear hHeld h6 hx6 HX HX3 hcur dS d0 d1 d2 d3 d4 d5 d6 cB lB
        go_wp2_with (at_builtin; refine wpList_appN elPh rfl (.tmp 62) (.tmp 64) rfl w.heap.size _ k (p3 (phL rs R ar cs k)) rfl (own_below (own_below HOR.out HB6.out) (by go_grown)) _ 1 (p3 [p]) rfl (RowN.of_blk (Blk.new _ _ _ _ (by simp)) rfl rfl (Nat.le_refl _) (by decide)) (p3_one _) (by unfold maxLen; omega) (by omega) (by simp; omega) ?_)
        intro v7 W7 hO7 hg7 _
        have HG7 := Lib.hid (show Below W6.heap.size W6 _ by first | exact (Below.refl _ _).alloc (Nat.le_refl _) (.cells #[.int .i64 p.run, .bool p.on, .bool p.now] 71))
        have HB7 := Lib.hid (below_app (B := w.heap.size) ((HB.out.trans (HB6.out.mono hz)).trans (HG7.out.mono (Nat.le_trans hz hz6))) (by simp; omega) (own_below (own_below HOR.out HB6.out) HG7.out) hg7 (Nat.le_refl _))
        have HOA7 := Lib.hid (own_kept (own_below (own_below HOA.out HB6.out) HG7.out) (own_below (own_below HOR.out HB6.out) HG7.out) (by decide) hg7)
        have HX7 := Lib.hid (show Blk W7 wr.heap.size 71 _ from (hg7.block _ (HX6.out.below HG7.out).lt (fun he => by have := own_lt HOR.out he.symm; omega)).trans (HX6.out.below HG7.out))
        obtain ⟨FB, fb, rfl⟩ := own_shape hO7
        have HO7 := Lib.hid hO7
        have hz7 := HB7.out.size
        clear hO7 hg7 cX lX
        have cX := HX7.out.cells
        have lX := HX7.out.lt
        go_wp2_with (at_builtin; refine wpList_appN elA rfl (.tmp 66) (.tmp 72) rfl w.heap.size _ k (al2 (alP (phL rs R ar cs k))) rfl (own_below HOA7.out (by go_grown)) _ 1 (al2 [(p.on, p.now)]) rfl (RowN.of_blk (Blk.new _ _ _ _ (by simp)) rfl rfl (Nat.le_refl _) (by decide)) (al2_one _) (by unfold maxLen; omega) (by omega) (by simp; omega) ?_)
        intro v8 W8 hO8 hg8 _
        have HG8 := Lib.hid (show Below W7.heap.size W7 _ from (Below.refl _ _).alloc (Nat.le_refl _) (.cells #[.bool p.on, .bool p.now] 53))
        have HB8 := Lib.hid (below_app (B := w.heap.size) (HB7.out.trans (HG8.out.mono hz7)) (by simp; omega) (own_below HOA7.out HG8.out) hg8 (Nat.le_refl _))
        have HO8 := Lib.hid (own_kept (own_below HO7.out HG8.out) (own_below HOA7.out HG8.out) (by decide) hg8)
        obtain ⟨FC, fc, rfl⟩ := own_shape hO8
        have HAO := Lib.hid (show W8.ownsRow w.heap.size 53 2 (.slice FC (k + 1) fc) (k + 1) (al2 (alP (phL rs R ar cs (k + 1)))) by rw [phL_succ, HEP.out]; unfold alP; rw [List.map_append, al2_app]; exact hO8)
        have HRO := Lib.hid (show W8.ownsRow w.heap.size 71 3 (.slice FB (k + 1) fb) (k + 1) (p3 (phL rs R ar cs (k + 1))) by rw [phL_succ, HEP.out, p3_app]; exact HO8.out)
        clear hO8 hg8 cX lX
        go_wp2
        go_roundw
        case rel => exact ⟨k + 1, FC, fc, FB, fb, by omega, by go_num, rfl, rfl, HB8.out, HAO.out, HRO.out⟩
        case measure => simp [intOf]; omega
    · obtain rfl : k = rs.length := by omega
      obtain ⟨u1, hu1⟩ : ∃ u, u = wr := ⟨wr, rfl⟩
      subst hu1
      go_wp2_with fail
      go_loopw [7, 9, 12] (fun b c i wk => ∃ (m : Nat) (GA : Option Addr) (ga : Nat) (GT : Option Addr) (gt : Nat), m ≤ Ch.length ∧ i = .int .i64 m ∧ b = .slice GA m ga ∧ c = .slice GT m gt ∧ Below u1.heap.size u1 wk ∧ wk.ownsRow u1.heap.size 53 2 (.slice GA m ga) m (al2 (alT (teL kk Ch ac cs m))) ∧ wk.ownsRow u1.heap.size 80 4 (.slice GT m gt) m (t4 (teL kk Ch ac cs m))) (fun _ _ i _ => Ch.length - (intOf i).toNat)
      case atStart => exact ⟨0, none, 0, none, 0, Nat.zero_le _, rfl, rfl, rfl, Below.refl _ _, own_nilN _ _, own_nilN _ _⟩
      case round =>
        clear cB lB
        obtain ⟨m, GA, ga, GT, gt, hm, rfl, rfl, rfl, hb, hoa, hot⟩ := hrel
        have HBK := Lib.hid hb
        have HOB := Lib.hid hoa
        have HOT := Lib.hid hot
        have HBS2 := Lib.hid (HBS.out.below hb)
        have hz2 := hb.size
        have HB2 := Lib.hid (Btrans HB.out hb)
        have cB := HBS2.out.cells
        have lB := HBS2.out.lt
        clear hb hoa hot
        by_cases hmt : m < Ch.length
        · obtain ⟨s, hs⟩ : ∃ s, Ch[m]? = some s := ⟨_, List.getElem?_eq_getElem hmt⟩
          obtain ⟨y, hy⟩ : ∃ y, ac[m]? = some y := ⟨_, List.getElem?_eq_getElem (by rw [HCL.out]; exact hmt)⟩
          obtain ⟨x, hx⟩ : ∃ x, cs[m]? = some x := ⟨_, List.getElem?_eq_getElem (by rw [HN.out]; exact hmt)⟩
          obtain ⟨ad3, rfl, hb3, e0, e1, e2, e3⟩ := rowE_at H3.out hs
          obtain ⟨ad5, rfl, e6⟩ := H5.out.at1 m (.bool y) (by rw [List.getElem?_map, hy]; rfl)
          obtain ⟨cad, rfl, hcad, e7, _, _⟩ := row3_at HC.out hx
          have lc3 : (ad3.add (m * 4)).block < w.heap.size := by rw [block_add]; exact hb3
          have lc5 := lt_of_cell e6
          have lc7 : (cad.add (m * 3)).block < w.heap.size := by rw [block_add]; exact hcad
          obtain ⟨sb, HSB⟩ : ∃ b, RowKit.Hid (b = sampB cs m) := ⟨_, Lib.hid rfl⟩
          have hxs : (x.1 == 1) = sb := by rw [HSB.out]; unfold sampB; rw [List.getD_eq_getElem?_getD, hx]; by_cases h : x.1 = 1 <;> simp [h]
          have hsb := HCBd.out m s hs
          obtain ⟨p, HPE⟩ : ∃ p, RowKit.Hid (p = tstep kk s sb y) := ⟨_, Lib.hid rfl⟩
          have HEP := Lib.hid (show teO kk Ch ac cs m = p by rw [HPE.out, HSB.out]; unfold teO; simp only [List.getD_eq_getElem?_getD, hs, hy, Option.getD_some])
          have gk1 : (m : Int) < (Ch.length : Int) := by omega
          have gk2 : (m : Int) < (ac.length : Int) := by rw [HCL.out]; omega
          have gk3 : (m : Int) < (cs.length : Int) := by rw [HN.out]; omega
          have dS : ∀ w', Below wr.heap.size wr w' → ∀ i, w'.cell? ⟨pb, i, none⟩ = (#[.slice sA rs.length sc, .int .i64 kk, .slice rA R.length rc, .slice (some ad3) Ch.length cc, .slice aA ar.length a_c, .slice (some ad5) ac.length bc] : Array Value)[i]? := fun w' hb => (HBS2.out.below hb).cells
          have d0 : ∀ w', Below wr.heap.size wr w' → w'.cell? (ad3.add (m * 4)) = some (.int .i64 s.run) := fun w' hb => ((Btrans HB2.out hb).cell lc3).trans e0
          have d1 : ∀ w', Below wr.heap.size wr w' → w'.cell? ⟨(ad3.add (m * 4)).block, (ad3.add (m * 4)).off + 1, none⟩ = some (.bool s.on) := fun w' hb => ((Btrans HB2.out hb).cell (p := ⟨(ad3.add (m * 4)).block, (ad3.add (m * 4)).off + 1, none⟩) lc3).trans e1
          have d2 : ∀ w', Below wr.heap.size wr w' → w'.cell? ⟨(ad3.add (m * 4)).block, (ad3.add (m * 4)).off + 2, none⟩ = some (.bool s.now) := fun w' hb => ((Btrans HB2.out hb).cell (p := ⟨(ad3.add (m * 4)).block, (ad3.add (m * 4)).off + 2, none⟩) lc3).trans e2
          have d3 : ∀ w', Below wr.heap.size wr w' → w'.cell? ⟨(ad3.add (m * 4)).block, (ad3.add (m * 4)).off + 3, none⟩ = some (.bool s.ok) := fun w' hb => ((Btrans HB2.out hb).cell (p := ⟨(ad3.add (m * 4)).block, (ad3.add (m * 4)).off + 3, none⟩) lc3).trans e3
          have d6 : ∀ w', Below wr.heap.size wr w' → w'.cell? (ad5.add m) = some (.bool y) := fun w' hb => ((Btrans HB2.out hb).cell lc5).trans e6
          have d7 : ∀ w', Below wr.heap.size wr w' → w'.cell? (cad.add (m * 3)) = some (.int .i64 x.1) := fun w' hb => ((Btrans HB2.out hb).cell lc7).trans e7
          clear e0 e1 e2 e3 e6 e7 hs hy hx
          go_wp2_with fail
          refine wp_region_held_drew (S := fun w' => Below wr.heap.size wr w') (by kernel_rfl) ((Below.refl _ _).drew) (fun hHeld => ?_)
          have hcur : Below wr.heap.size wr _ := hHeld
          refine takeD 0 (some 83) (v := ?_) rfl rfl (by kernel_rfl) (by kernel_rfl) (by kernel_rfl) (fun _ _ _ h => h) (by rfl) ?_ (by assumption) ?_
          rotate_left
          · intro w hSw
            (try dsimp only at hSw)
            go_simp
            try with_reducible rfl
          try simp only [Act.put, List.setIfInBounds_toArray, List.set_cons_zero, List.set_cons_succ]
          refine takeD 1 (some 84) (v := ?_) rfl rfl (by kernel_rfl) (by kernel_rfl) (by kernel_rfl) (fun _ _ _ h => h) (by rfl) ?_ (by assumption) ?_
          rotate_left
          · intro w hSw
            (try dsimp only at hSw)
            go_simp
            try with_reducible rfl
          try simp only [Act.put, List.setIfInBounds_toArray, List.set_cons_zero, List.set_cons_succ]
          refine takeD 2 (some 85) (v := ?_) rfl rfl (by kernel_rfl) (by kernel_rfl) (by kernel_rfl) (fun _ _ _ h => h) (by rfl) ?_ (by assumption) ?_
          rotate_left
          · intro w hSw
            (try dsimp only at hSw)
            go_simp
            try with_reducible rfl
          try simp only [Act.put, List.setIfInBounds_toArray, List.set_cons_zero, List.set_cons_succ]
          refine takeD 3 (some 86) (v := ?_) rfl rfl (by kernel_rfl) (by kernel_rfl) (by kernel_rfl) (fun _ _ _ h => h) (by rfl) ?_ (by assumption) ?_
          rotate_left
          · intro w hSw
            (try dsimp only at hSw)
            go_simp
            try with_reducible rfl
          try simp only [Act.put, List.setIfInBounds_toArray, List.set_cons_zero, List.set_cons_succ]
          refine takeD 4 (some 87) (v := ?_) rfl rfl (by kernel_rfl) (by kernel_rfl) (by kernel_rfl) (fun _ _ _ h => h) (by rfl) ?_ (by assumption) ?_
          rotate_left
          · intro w hSw
            (try dsimp only at hSw)
            go_simp
            try with_reducible rfl
          try simp only [Act.put, List.setIfInBounds_toArray, List.set_cons_zero, List.set_cons_succ]
          refine takeD 5 (some 88) (v := ?_) rfl rfl (by kernel_rfl) (by kernel_rfl) (by kernel_rfl) (fun _ _ _ h => h) (by rfl) ?_ (by assumption) ?_
          rotate_left
          · intro w hSw
            (try dsimp only at hSw)
            go_simp
            try with_reducible rfl
          try simp only [Act.put, List.setIfInBounds_toArray, List.set_cons_zero, List.set_cons_succ]
          refine takeD 6 (some 89) (v := ?_) rfl rfl (by kernel_rfl) (by kernel_rfl) (by kernel_rfl) (fun _ _ _ h => h) (by rfl) ?_ (by assumption) ?_
          rotate_left
          · intro w hSw
            (try dsimp only at hSw)
            go_simp
            try with_reducible rfl
          try simp only [Act.put, List.setIfInBounds_toArray, List.set_cons_zero, List.set_cons_succ]
          refine takeD 7 (some 90) (v := ?_) rfl rfl (by kernel_rfl) (by kernel_rfl) (by kernel_rfl) (fun _ _ _ h => h) (by rfl) ?_ (by assumption) ?_
          rotate_left
          · intro w hSw
            (try dsimp only at hSw)
            go_simp
            try with_reducible rfl
          try simp only [Act.put, List.setIfInBounds_toArray, List.set_cons_zero, List.set_cons_succ]
          refine takeD 8 (some 91) (v := ?_) rfl rfl (by kernel_rfl) (by kernel_rfl) (by kernel_rfl) (fun _ _ _ h => h) (by rfl) ?_ (by assumption) ?_
          rotate_left
          · intro w hSw
            (try dsimp only at hSw)
            go_simp
            try with_reducible rfl
          try simp only [Act.put, List.setIfInBounds_toArray, List.set_cons_zero, List.set_cons_succ]
          refine takeD 9 (some 92) (v := ?_) rfl rfl (by kernel_rfl) (by kernel_rfl) (by kernel_rfl) (fun _ _ _ h => h) (by rfl) ?_ (by assumption) ?_
          rotate_left
          · intro w hSw
            (try dsimp only at hSw)
            go_simp
            try with_reducible rfl
          try simp only [Act.put, List.setIfInBounds_toArray, List.set_cons_zero, List.set_cons_succ]
          refine takeD 10 (some 93) (v := ?_) rfl rfl (by kernel_rfl) (by kernel_rfl) (by kernel_rfl) (fun _ _ _ h => h) (by rfl) ?_ (by assumption) ?_
          rotate_left
          · intro w hSw
            (try dsimp only at hSw)
            go_simp
            try with_reducible rfl
          try simp only [Act.put, List.setIfInBounds_toArray, List.set_cons_zero, List.set_cons_succ]
          refine takeD 11 (some 94) (v := ?_) rfl rfl (by kernel_rfl) (by kernel_rfl) (by kernel_rfl) (fun _ _ _ h => h) (by rfl) ?_ (by assumption) ?_
          rotate_left
          · intro w hSw
            (try dsimp only at hSw)
            go_simp
            try with_reducible rfl
          try simp only [Act.put, List.setIfInBounds_toArray, List.set_cons_zero, List.set_cons_succ]
          refine takeD 12 (some 95) (v := ?_) rfl rfl (by kernel_rfl) (by kernel_rfl) (by kernel_rfl) (fun _ _ _ h => h) (by rfl) ?_ (by assumption) ?_
          rotate_left
          · intro w hSw
            (try dsimp only at hSw)
            go_simp
            try with_reducible rfl
          try simp only [Act.put, List.setIfInBounds_toArray, List.set_cons_zero, List.set_cons_succ]
          refine takeD 13 (some 96) (v := ?_) rfl rfl (by kernel_rfl) (by kernel_rfl) (by kernel_rfl) (fun _ _ _ h => h) (by rfl) ?_ (by assumption) ?_
          rotate_left
          · intro w hSw
            (try dsimp only at hSw)
            go_simp
            try with_reducible rfl
          try simp only [Act.put, List.setIfInBounds_toArray, List.set_cons_zero, List.set_cons_succ]
          refine takeD 14 (some 97) (v := ?_) rfl rfl (by kernel_rfl) (by kernel_rfl) (by kernel_rfl) (fun _ _ _ h => h) (by rfl) ?_ (by assumption) ?_
          rotate_left
          · intro w hSw
            (try dsimp only at hSw)
            go_simp
            try with_reducible rfl
          try simp only [Act.put, List.setIfInBounds_toArray, List.set_cons_zero, List.set_cons_succ]
          refine takeD 15 (some 98) (v := ?_) rfl rfl (by kernel_rfl) (by kernel_rfl) (by kernel_rfl) (fun _ _ _ h => h) (by rfl) ?_ (by assumption) ?_
          rotate_left
          · intro w hSw
            (try dsimp only at hSw)
            go_simp
            try with_reducible rfl
          try simp only [Act.put, List.setIfInBounds_toArray, List.set_cons_zero, List.set_cons_succ]
          refine takeD 16 (some 99) (v := ?_) rfl rfl (by kernel_rfl) (by kernel_rfl) (by kernel_rfl) (fun _ _ _ h => h) (by rfl) ?_ (by assumption) ?_
          rotate_left
          · intro w hSw
            (try dsimp only at hSw)
            go_simp
            try with_reducible rfl
          try simp only [Act.put, List.setIfInBounds_toArray, List.set_cons_zero, List.set_cons_succ]
          refine takeD 17 (some 100) (v := ?_) rfl rfl (by kernel_rfl) (by kernel_rfl) (by kernel_rfl) (fun _ _ _ h => h) (by rfl) ?_ (by assumption) ?_
          rotate_left
          · intro w hSw
            (try dsimp only at hSw)
            go_simp
            try with_reducible rfl
          try simp only [Act.put, List.setIfInBounds_toArray, List.set_cons_zero, List.set_cons_succ]
          refine takeD 18 (some 101) (v := ?_) rfl rfl (by kernel_rfl) (by kernel_rfl) (by kernel_rfl) (fun _ _ _ h => h) (by rfl) ?_ (by assumption) ?_
          rotate_left
          · intro w hSw
            (try dsimp only at hSw)
            go_simp
            try with_reducible rfl
          try simp only [Act.put, List.setIfInBounds_toArray, List.set_cons_zero, List.set_cons_succ]
          refine takeD 19 (some 102) (v := ?_) rfl rfl (by kernel_rfl) (by kernel_rfl) (by kernel_rfl) (fun _ _ _ h => h) (by rfl) ?_ (by assumption) ?_
          rotate_left
          · intro w hSw
            (try dsimp only at hSw)
            go_simp
            try with_reducible rfl
          try simp only [Act.put, List.setIfInBounds_toArray, List.set_cons_zero, List.set_cons_succ]
          refine takeD 20 (some 103) (v := ?_) rfl rfl (by kernel_rfl) (by kernel_rfl) (by kernel_rfl) (fun _ _ _ h => h) (by rfl) ?_ (by assumption) ?_
          rotate_left
          · intro w hSw
            (try dsimp only at hSw)
            go_simp
            try with_reducible rfl
          try simp only [Act.put, List.setIfInBounds_toArray, List.set_cons_zero, List.set_cons_succ]
          refine takeD 21 (some 104) (v := ?_) rfl rfl (by kernel_rfl) (by kernel_rfl) (by kernel_rfl) (fun _ _ _ h => h) (by rfl) ?_ (by assumption) ?_
          rotate_left
          · intro w hSw
            (try dsimp only at hSw)
            go_simp
            try with_reducible rfl
          try simp only [Act.put, List.setIfInBounds_toArray, List.set_cons_zero, List.set_cons_succ]
          refine takeD 22 (some 105) (v := ?_) rfl rfl (by kernel_rfl) (by kernel_rfl) (by kernel_rfl) (fun _ _ _ h => h) (by rfl) ?_ (by assumption) ?_
          rotate_left
          · intro w hSw
            (try dsimp only at hSw)
            go_simp
            try with_reducible rfl
          try simp only [Act.put, List.setIfInBounds_toArray, List.set_cons_zero, List.set_cons_succ]
          refine takeD 23 (some 106) (v := ?_) rfl rfl (by kernel_rfl) (by kernel_rfl) (by kernel_rfl) (fun _ _ _ h => h) (by rfl) ?_ (by assumption) ?_
          rotate_left
          · intro w hSw
            (try dsimp only at hSw)
            go_simp
            try with_reducible rfl
          try simp only [Act.put, List.setIfInBounds_toArray, List.set_cons_zero, List.set_cons_succ]
          refine wpAnyH_ready (rs := [24, 25]) (by kernel_rfl) (by simp) ?_
          refine AllReadyH.cons rfl (fun K hK => ?_) (AllReadyH.cons rfl (fun K hK => ?_) AllReadyH.nil)
          · rw [if_pos (by rfl)]
            go_simp
            go_at_call 43
            refine (rtstep_any kk s sb y _ hsb.1 hsb.2).mono ?_
            rintro e w2 ⟨rfl, hk⟩
            rw [← HPE.out]
            have hcur2 : Below wr.heap.size wr w2 := hcur.trans (hk.mono hcur.size)
            clear hcur hk
            have hcur := hcur2
            clear hcur2
            have hS := hcur
            go_wp2_with fail
            refine hK.out _ _ ?_ (fun hHeld2 => ?_)
            · clear hK; exact hS
            clear hK K hHeld hS
            have hHeld := hHeld2
            clear hHeld2
            try simp only [Act.put, List.setIfInBounds_toArray, List.set_cons_zero, List.set_cons_succ]
            refine wpAnyH_ready (rs := [25]) (by kernel_rfl) (by simp) ?_
            refine AllReadyH.cons rfl (fun K hK => ?_) AllReadyH.nil
            rw [if_pos (by rfl)]
            go_simp
            refine nameV (fun V => Below wr.heap.size wr V ∧ Blk V w2.heap.size 80 #[.int .i64 0, .bool false, .bool false, .bool false]) ⟨hcur.alloc hcur.size _, Blk.new _ _ _ _ rfl⟩ fun V ⟨hcur2, hx⟩ => ?_
            have HX := Lib.hid hx
            have hxl : wr.heap.size ≤ w2.heap.size := by first | exact Nat.le_refl _ | exact hcur.size
            clear hcur hx
            have hcur := hcur2
            clear hcur2
            have hS := hcur
            refine hK.out _ _ ?_ (fun hHeld2 => ?_)
            · clear hK; exact hS
            clear hK K hHeld hS
            have hHeld := hHeld2
            clear hHeld2
            try simp only [Act.put, List.setIfInBounds_toArray, List.set_cons_zero, List.set_cons_succ]
            refine wpAnyH_ready (rs := [26]) (by kernel_rfl) (by simp) ?_
            refine AllReadyH.cons rfl (fun K hK => ?_) AllReadyH.nil
            rw [if_pos (by rfl)]
            have cX := HX.out.cells
            have fX := HX.out.froz
            go_simp
            have HX3 := Lib.hid ((((HX.out.set 0 (.int .i64 p.run)).set 1 (.bool p.on)).set 2 (.bool p.now)).set 3 (.bool p.ok))
            have hS : Below wr.heap.size wr _ := (((hcur.setCell (p := ⟨w2.heap.size, 0, none⟩) hxl (.int .i64 p.run)).setCell (p := ⟨w2.heap.size, 1, none⟩) hxl (.bool p.on)).setCell (p := ⟨w2.heap.size, 2, none⟩) hxl (.bool p.now)).setCell (p := ⟨w2.heap.size, 3, none⟩) hxl (.bool p.ok)
            clear cX fX
            refine hK.out _ _ ?_ (fun hHeld2 => ?_)
            · clear hK; exact hS
            clear hK K hHeld hS
            have hHeld := hHeld2
            clear hHeld2
            try simp only [Act.put, List.setIfInBounds_toArray, List.set_cons_zero, List.set_cons_succ]
            refine wpAnyH_done (by kernel_rfl) ?_ _
            refine nameV (fun W => Below wr.heap.size wr W ∧ Blk W w2.heap.size 80 #[.int .i64 p.run, .bool p.on, .bool p.now, .bool p.ok]) ⟨hHeld, HX3.out⟩ fun W6 ⟨h6, hx6⟩ => ?_
            have HB6 := Lib.hid h6
            have HX6 := Lib.hid hx6
            have hz6 := h6.size
            have cX := hx6.cells
            have lX := hx6.lt
            clear hHeld h6 hx6 HX HX3 hcur dS d0 d1 d2 d3 d6 d7 cB lB
            go_wp2_with (at_builtin; refine wpList_appN elTe rfl (.tmp 108) (.tmp 110) rfl u1.heap.size _ m (t4 (teL kk Ch ac cs m)) rfl (own_below (own_below HOT.out HB6.out) (by go_grown)) _ 1 (t4 [p]) rfl (RowN.of_blk (Blk.new _ _ _ _ (by simp)) rfl rfl (Nat.le_refl _) (by decide)) (t4_one _) (by unfold maxLen; omega) (by omega) (by simp; omega) ?_)
            intro v7 W7 hO7 hg7 _
            have HG7 := Lib.hid (show Below W6.heap.size W6 _ from (Below.refl _ _).alloc (Nat.le_refl _) (.cells #[.int .i64 p.run, .bool p.on, .bool p.now, .bool p.ok] 80))
            have HB7 := Lib.hid (below_app (B := u1.heap.size) ((HBK.out.trans (HB6.out.mono hz2)).trans (HG7.out.mono (Nat.le_trans hz2 hz6))) (by simp; omega) (own_below (own_below HOT.out HB6.out) HG7.out) hg7 (Nat.le_refl _))
            have HOA7 := Lib.hid (own_kept (own_below (own_below HOB.out HB6.out) HG7.out) (own_below (own_below HOT.out HB6.out) HG7.out) (by decide) hg7)
            have HX7 := Lib.hid (show Blk W7 w2.heap.size 80 _ from (hg7.block _ (HX6.out.below HG7.out).lt (fun he => by have := own_lt HOT.out he.symm; omega)).trans (HX6.out.below HG7.out))
            obtain ⟨FB, fb, rfl⟩ := own_shape hO7
            have HO7 := Lib.hid hO7
            have hz7 := HB7.out.size
            clear hO7 hg7 cX lX
            have cX := HX7.out.cells
            have lX := HX7.out.lt
            go_wp2_with (at_builtin; refine wpList_appN elA rfl (.tmp 112) (.tmp 118) rfl u1.heap.size _ m (al2 (alT (teL kk Ch ac cs m))) rfl (own_below HOA7.out (by go_grown)) _ 1 (al2 [(p.on, p.now)]) rfl (RowN.of_blk (Blk.new _ _ _ _ (by simp)) rfl rfl (Nat.le_refl _) (by decide)) (al2_one _) (by unfold maxLen; omega) (by omega) (by simp; omega) ?_)
            intro v8 W8 hO8 hg8 _
            have HG8 := Lib.hid (show Below W7.heap.size W7 _ from (Below.refl _ _).alloc (Nat.le_refl _) (.cells #[.bool p.on, .bool p.now] 53))
            have HB8 := Lib.hid (below_app (B := u1.heap.size) (HB7.out.trans (HG8.out.mono hz7)) (by simp; omega) (own_below HOA7.out HG8.out) hg8 (Nat.le_refl _))
            have HO8 := Lib.hid (own_kept (own_below HO7.out HG8.out) (own_below HOA7.out HG8.out) (by decide) hg8)
            obtain ⟨FC, fc, rfl⟩ := own_shape hO8
            have HAO := Lib.hid (show W8.ownsRow u1.heap.size 53 2 (.slice FC (m + 1) fc) (m + 1) (al2 (alT (teL kk Ch ac cs (m + 1)))) by rw [teL_succ, HEP.out]; unfold alT; rw [List.map_append, al2_app]; exact hO8)
            have HRO := Lib.hid (show W8.ownsRow u1.heap.size 80 4 (.slice FB (m + 1) fb) (m + 1) (t4 (teL kk Ch ac cs (m + 1))) by rw [teL_succ, HEP.out, t4_app]; exact HO8.out)
            clear hO8 hg8 cX lX
            go_wp2
            go_roundw
            case rel => exact ⟨m + 1, FC, fc, FB, fb, by omega, by go_num, rfl, rfl, HB8.out, HAO.out, HRO.out⟩
            case measure => simp [intOf]; omega
          · rw [if_pos (by rfl)]
            go_simp
            refine nameV (fun V => Below wr.heap.size wr V ∧ Blk V wr.heap.size 80 #[.int .i64 0, .bool false, .bool false, .bool false]) ⟨hcur.alloc hcur.size _, Blk.new _ _ _ _ rfl⟩ fun V ⟨hcur2, hx⟩ => ?_
            have HX := Lib.hid hx
            have hxl : wr.heap.size ≤ wr.heap.size := by first | exact Nat.le_refl _ | exact hcur.size
            clear hcur hx
            have hcur := hcur2
            clear hcur2
            have hS := hcur
            refine hK.out _ _ ?_ (fun hHeld2 => ?_)
            · clear hK; exact hS
            clear hK K hHeld hS
            have hHeld := hHeld2
            clear hHeld2
            try simp only [Act.put, List.setIfInBounds_toArray, List.set_cons_zero, List.set_cons_succ]
            refine wpAnyH_ready (rs := [24]) (by kernel_rfl) (by simp) ?_
            refine AllReadyH.cons rfl (fun K hK => ?_) AllReadyH.nil
            rw [if_pos (by rfl)]
            go_simp
            go_at_call 43
            refine (rtstep_any kk s sb y _ hsb.1 hsb.2).mono ?_
            rintro e w2 ⟨rfl, hk⟩
            rw [← HPE.out]
            have hcur2 : Below wr.heap.size wr w2 := hcur.trans (hk.mono hcur.size)
            have HX2 := Lib.hid (HX.out.below hk)
            clear HX
            have HX := Lib.hid HX2.out
            clear HX2
            clear hcur hk
            have hcur := hcur2
            clear hcur2
            have hS := hcur
            go_wp2_with fail
            refine hK.out _ _ ?_ (fun hHeld2 => ?_)
            · clear hK; exact hS
            clear hK K hHeld hS
            have hHeld := hHeld2
            clear hHeld2
            try simp only [Act.put, List.setIfInBounds_toArray, List.set_cons_zero, List.set_cons_succ]
            refine wpAnyH_ready (rs := [26]) (by kernel_rfl) (by simp) ?_
            refine AllReadyH.cons rfl (fun K hK => ?_) AllReadyH.nil
            rw [if_pos (by rfl)]
            have cX := HX.out.cells
            have fX := HX.out.froz
            go_simp
            have HX3 := Lib.hid ((((HX.out.set 0 (.int .i64 p.run)).set 1 (.bool p.on)).set 2 (.bool p.now)).set 3 (.bool p.ok))
            have hS : Below wr.heap.size wr _ := (((hcur.setCell (p := ⟨wr.heap.size, 0, none⟩) hxl (.int .i64 p.run)).setCell (p := ⟨wr.heap.size, 1, none⟩) hxl (.bool p.on)).setCell (p := ⟨wr.heap.size, 2, none⟩) hxl (.bool p.now)).setCell (p := ⟨wr.heap.size, 3, none⟩) hxl (.bool p.ok)
            clear cX fX
            refine hK.out _ _ ?_ (fun hHeld2 => ?_)
            · clear hK; exact hS
            clear hK K hHeld hS
            have hHeld := hHeld2
            clear hHeld2
            try simp only [Act.put, List.setIfInBounds_toArray, List.set_cons_zero, List.set_cons_succ]
            refine wpAnyH_done (by kernel_rfl) ?_ _
            refine nameV (fun W => Below wr.heap.size wr W ∧ Blk W wr.heap.size 80 #[.int .i64 p.run, .bool p.on, .bool p.now, .bool p.ok]) ⟨hHeld, HX3.out⟩ fun W6 ⟨h6, hx6⟩ => ?_
            have HB6 := Lib.hid h6
            have HX6 := Lib.hid hx6
            have hz6 := h6.size
            have cX := hx6.cells
            have lX := hx6.lt
            clear hHeld h6 hx6 HX HX3 hcur dS d0 d1 d2 d3 d6 d7 cB lB
            go_wp2_with (at_builtin; refine wpList_appN elTe rfl (.tmp 108) (.tmp 110) rfl u1.heap.size _ m (t4 (teL kk Ch ac cs m)) rfl (own_below (own_below HOT.out HB6.out) (by go_grown)) _ 1 (t4 [p]) rfl (RowN.of_blk (Blk.new _ _ _ _ (by simp)) rfl rfl (Nat.le_refl _) (by decide)) (t4_one _) (by unfold maxLen; omega) (by omega) (by simp; omega) ?_)
            intro v7 W7 hO7 hg7 _
            have HG7 := Lib.hid (show Below W6.heap.size W6 _ from (Below.refl _ _).alloc (Nat.le_refl _) (.cells #[.int .i64 p.run, .bool p.on, .bool p.now, .bool p.ok] 80))
            have HB7 := Lib.hid (below_app (B := u1.heap.size) ((HBK.out.trans (HB6.out.mono hz2)).trans (HG7.out.mono (Nat.le_trans hz2 hz6))) (by simp; omega) (own_below (own_below HOT.out HB6.out) HG7.out) hg7 (Nat.le_refl _))
            have HOA7 := Lib.hid (own_kept (own_below (own_below HOB.out HB6.out) HG7.out) (own_below (own_below HOT.out HB6.out) HG7.out) (by decide) hg7)
            have HX7 := Lib.hid (show Blk W7 wr.heap.size 80 _ from (hg7.block _ (HX6.out.below HG7.out).lt (fun he => by have := own_lt HOT.out he.symm; omega)).trans (HX6.out.below HG7.out))
            obtain ⟨FB, fb, rfl⟩ := own_shape hO7
            have HO7 := Lib.hid hO7
            have hz7 := HB7.out.size
            clear hO7 hg7 cX lX
            have cX := HX7.out.cells
            have lX := HX7.out.lt
            go_wp2_with (at_builtin; refine wpList_appN elA rfl (.tmp 112) (.tmp 118) rfl u1.heap.size _ m (al2 (alT (teL kk Ch ac cs m))) rfl (own_below HOA7.out (by go_grown)) _ 1 (al2 [(p.on, p.now)]) rfl (RowN.of_blk (Blk.new _ _ _ _ (by simp)) rfl rfl (Nat.le_refl _) (by decide)) (al2_one _) (by unfold maxLen; omega) (by omega) (by simp; omega) ?_)
            intro v8 W8 hO8 hg8 _
            have HG8 := Lib.hid (show Below W7.heap.size W7 _ from (Below.refl _ _).alloc (Nat.le_refl _) (.cells #[.bool p.on, .bool p.now] 53))
            have HB8 := Lib.hid (below_app (B := u1.heap.size) (HB7.out.trans (HG8.out.mono hz7)) (by simp; omega) (own_below HOA7.out HG8.out) hg8 (Nat.le_refl _))
            have HO8 := Lib.hid (own_kept (own_below HO7.out HG8.out) (own_below HOA7.out HG8.out) (by decide) hg8)
            obtain ⟨FC, fc, rfl⟩ := own_shape hO8
            have HAO := Lib.hid (show W8.ownsRow u1.heap.size 53 2 (.slice FC (m + 1) fc) (m + 1) (al2 (alT (teL kk Ch ac cs (m + 1)))) by rw [teL_succ, HEP.out]; unfold alT; rw [List.map_append, al2_app]; exact hO8)
            have HRO := Lib.hid (show W8.ownsRow u1.heap.size 80 4 (.slice FB (m + 1) fb) (m + 1) (t4 (teL kk Ch ac cs (m + 1))) by rw [teL_succ, HEP.out, t4_app]; exact HO8.out)
            clear hO8 hg8 cX lX
            go_wp2
            go_roundw
            case rel => exact ⟨m + 1, FC, fc, FB, fb, by omega, by go_num, rfl, rfl, HB8.out, HAO.out, HRO.out⟩
            case measure => simp [intOf]; omega
        · obtain rfl : m = Ch.length := by omega
          have hmk0 : ∀ n : Nat, madeCells (Value.cells (.bool false)) (n * 1) = (List.replicate n (Value.bool false)).toArray := fun n => by
            rw [madeCells_rep _ (.bool false) _ (fun i hi => by simp [Value.cells] at hi; subst hi; rfl) (by decide), Nat.mul_one]
          have ib : (Try.prog.info? 4).map (fun i => (i.zero, i.size, i.bytes)) = some (some (.bool false), 1, 1) := by kernel_rfl
          have hmkR : ∀ w, (Instr.makeSlice 51 (.int .i64 (rs.length : Int)) (.int .i64 (rs.length : Int))).run Try.prog w = .ok (.slice (some ⟨w.heap.size, 0, none⟩) rs.length rs.length) (w.alloc (.cells (List.replicate rs.length (Value.bool false)).toArray 4)) := fun w => by
            have := run_make_rowN (P := Try.prog) 51 4 _ _ Try.underlying51 ib .i64 .i64 rs.length (by omega) (by omega) w
            rw [hmk0] at this
            exact this
          have hmkC : ∀ w, (Instr.makeSlice 51 (.int .i64 (Ch.length : Int)) (.int .i64 (Ch.length : Int))).run Try.prog w = .ok (.slice (some ⟨w.heap.size, 0, none⟩) Ch.length Ch.length) (w.alloc (.cells (List.replicate Ch.length (Value.bool false)).toArray 4)) := fun w => by
            have := run_make_rowN (P := Try.prog) 51 4 _ _ Try.underlying51 ib .i64 .i64 Ch.length (by omega) (by omega) w
            rw [hmk0] at this
            exact this
          have fB := HBS2.out.froz
          have HOA9 := Lib.hid (own_below HOA.out HBK.out)
          have HOR9 := Lib.hid (own_below HOR.out HBK.out)
          clear hmk0 ib
          go_wp2
          go_returns
          have hsW := ((((((Only.refl [pb] wr).setCell (p := ⟨pb, 2, none⟩) (by simp) (.slice FR rs.length fr)).setCell (p := ⟨pb, 3, none⟩) (by simp) (.slice GT Ch.length gt)).setCell (p := ⟨pb, 4, none⟩) (by simp) (.slice (some ⟨wr.heap.size, 0, none⟩) rs.length rs.length)).setCell (p := ⟨pb, 5, none⟩) (by simp) (.slice (some ⟨wr.heap.size + 1, 0, none⟩) Ch.length Ch.length)).alloc (.cells (Array.replicate rs.length (Value.bool false)) 4)).alloc (.cells (Array.replicate Ch.length (Value.bool false)) 4)
          have hO := (Only.of_below [pb] HB2.out).trans hsW
          have hblk := ((((((HBS2.out.set 2 (.slice FR rs.length fr)).set 3 (.slice GT Ch.length gt)).set 4 (.slice (some ⟨wr.heap.size, 0, none⟩) rs.length rs.length)).set 5 (.slice (some ⟨wr.heap.size + 1, 0, none⟩) Ch.length Ch.length)).al (.cells (Array.replicate rs.length (Value.bool false)) 4)).al (.cells (Array.replicate Ch.length (Value.bool false)) 4))
          have hwz := HB.out.size
          have hwz2 := HB2.out.size
          have bA := own_blk HOA9.out
          have bR := own_blk HOR9.out
          have bB := own_blk HOB.out
          have bT := own_blk HOT.out
          have oR : Off pb lo FR := fun ad e => by have := bR ad e; omega
          have oT : Off pb lo GT := fun ad e => by have := bT ad e; omega
          have oA : Off pb lo FA := fun ad e => by have := bA ad e; omega
          have oB : Off pb lo GA := fun ad e => by have := bB ad e; omega
          refine ⟨.slice FA rs.length fa, .slice GA Ch.length ga, by first | rfl | simp, ⟨(RowN.of_own HOA9.out).off oA hsW, fun ad n' c e => ?_⟩, ⟨(RowN.of_own HOB.out).off oB hsW, fun ad n' c e => ?_⟩, ⟨⟨sA, sc, FR, fr, GT, gt, some ⟨wr.heap.size, 0, none⟩, rs.length, some ⟨wr.heap.size + 1, 0, none⟩, Ch.length, ?_, ⟨H1.out.off o1 hO, o1⟩, ⟨?_, oR⟩, ⟨?_, oT⟩, ⟨?_, ?_⟩, ⟨?_, ?_⟩⟩, fun r hr => ⟨(HT.out r hr).off (ht2 r hr) hO, ht2 r hr⟩, ⟨hh.1, Nat.lt_of_lt_of_le hh.2 hO.size⟩⟩, hO⟩
          · injection e with e; have := bA ad e; omega
          · injection e with e; have := bB ad e; omega
          · rw [phL_len, teL_len, List.length_replicate, List.length_replicate]
            exact hblk
          · rw [phL_len]
            exact (RowN.of_own HOR9.out).off oR hsW
          · rw [teL_len]
            exact (RowN.of_own HOT.out).off oT hsW
          · rw [List.length_replicate]
            exact Row.of_block (cur := Array.replicate rs.length (Value.bool false)) (t := 4) ((Blk.new _ _ _ _ (by simp)).al _) (by simp) (by simp) (Nat.le_refl _) (by unfold maxLen; omega)
          · intro ad e; injection e with e; subst e; exact ⟨by show lo ≤ wr.heap.size; omega, by show wr.heap.size ≠ pb; omega⟩
          · rw [List.length_replicate]
            exact Row.of_block (cur := Array.replicate Ch.length (Value.bool false)) (t := 4) (Blk.new _ _ _ _ (by simp)) (by simp) (by simp) (Nat.le_refl _) (by unfold maxLen; omega)
          · intro ad e; injection e with e; subst e; exact ⟨by show lo ≤ wr.heap.size + 1; omega, by show wr.heap.size + 1 ≠ pb; omega⟩
end Go.Proofs.Ytcdmojimdiiepaa
/- Layer 21: the document's tick for cells of another count. -/
namespace Go.Proofs.Ytcdmojimdiiepaa
open Go.ChangeShapes Go.WideShapes Go.ChangeAt Go.RowKit
set_option linter.unusedVariables false
set_option linter.unusedSimpArgs false

set_option maxRecDepth 100000 in
set_option maxHeartbeats 1000000 in
theorem rtick21_no (w : World) (lo pb : Nat) (rs : List Rl) (kk : Int) (R : List Ph) (Ch : List Te) (ar ac : List Bool) (CA : Option Addr) (ccc : Nat) (cs : List Cl) (h : RSt w lo pb rs kk R Ch ar ac) (hn : cs.length ≠ Ch.length) :
    Calls Try.prog 21 #[.pointer (some ⟨pb, 0, none⟩), .slice CA cs.length ccc] w fun e w' => e = .returned (.tuple #[.slice none 0 0, .slice none 0 0]) ∧ w = w' := by
  obtain ⟨⟨sA, sc, rA, rc, cA, cc, aA, a_c, bA, bc, h0, _⟩, _, hh⟩ := h
  have gn3 : ((cs.length : Int) != (Ch.length : Int)) = true := by simp; omega
  have gn4 : decide ((cs.length : Int) ≠ (Ch.length : Int)) = true := decide_eq_true (by omega)
  have gn5 : (cs.length != Ch.length) = true := by simp; omega
  have gn6 : ((cs.length : Int) == (Ch.length : Int)) = false := by rw [beq_eq_false_iff_ne]; omega
  have gn7 : (cs.length == Ch.length) = false := by rw [beq_eq_false_iff_ne]; exact hn
  have cB := h0.cells
  have lB := h0.lt
  clear h0 hn
  go_enter Try.func21, Try.ntmps21
  go_wp2
  go_returns
  exact ⟨by first | rfl | simp, rfl⟩
end Go.Proofs.Ytcdmojimdiiepaa
