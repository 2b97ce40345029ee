/- Layer 17: the law of many, walked. -/
import Derived.Test.YtjmlpgnmooiheaaKthreeN
namespace Go.Proofs.Ytjmlpgnmooiheaa
open Go.ChangeShapes Go.WideShapes Go.ChangeAt Go.RowKit
set_option linter.unusedVariables false
set_option linter.unusedSimpArgs false

def tru (l : List Int) : List Int := l.map fun x => x % 3 + 1
def nots (l : List Int) : List Int := l.map fun x => not3 (tr (x % 3 + 1))
def hasT (c : Int) (l : List Int) : Bool := (tru l).any (· == c)
theorem hasT_snoc (c : Int) (l : List Int) (x : Int) : hasT c (l ++ [x]) = (hasT c l || (x % 3 + 1 == c)) := by simp [hasT, tru]
theorem tru_snoc (l : List Int) (x : Int) : tru (l ++ [x]) = tru l ++ [x % 3 + 1] := by simp [tru]
theorem nots_snoc (l : List Int) (x : Int) : nots (l ++ [x]) = nots l ++ [not3 (tr (x % 3 + 1))] := by simp [nots]
theorem many_ok (l : List Int) : all3 (tru l) = (if hasT 1 l then 1 else if hasT 3 l then 3 else 2) ∧
    any3 (tru l) = (if hasT 2 l then 2 else if hasT 3 l then 3 else 1) ∧ any3 (nots l) = not3 (all3 (tru l)) := by
  have key : ∀ r : List Int, all3 (tru r.reverse) = (if hasT 1 r.reverse then 1 else if hasT 3 r.reverse then 3 else 2) ∧
    any3 (tru r.reverse) = (if hasT 2 r.reverse then 2 else if hasT 3 r.reverse then 3 else 1) ∧ any3 (nots r.reverse) = not3 (all3 (tru r.reverse)) := by
    intro r
    induction r with
    | nil => exact ⟨rfl, rfl, rfl⟩
    | cons x r ih =>
      rw [List.reverse_cons, tru_snoc, nots_snoc, hasT_snoc, hasT_snoc, hasT_snoc, all3_snoc, any3_snoc, any3_snoc, ih.1, ih.2.1, ih.2.2, ih.1]
      clear ih
      generalize hasT 1 r.reverse = p
      generalize hasT 2 r.reverse = q
      generalize hasT 3 r.reverse = s
      have h := truth_tr x
      generalize x % 3 + 1 = z at *
      rcases h with rfl | rfl | rfl <;> cases p <;> cases q <;> cases s <;> exact ⟨rfl, rfl, rfl⟩
  have := key l.reverse
  simpa using this

def Apart (u v : Value) : Prop := u.ownBlock = none ∨ u.ownBlock ≠ v.ownBlock
theorem Apart.symm {u v : Value} (h : Apart u v) : Apart v u := by
  unfold Apart at *
  rcases h with h | h
  · rw [h]; cases v.ownBlock <;> simp
  · exact .inr (Ne.symm h)
theorem Apart.step {w : World} {base n N : Nat} {e : TypeId} {xs : List Value} {u u' v : Value} (h : Apart u v) (hv : w.ownsRow base e 1 v n xs) (hg : u'.ownBlock = u.ownBlock ∨ u'.ownBlock = some N) (hN : w.heap.size ≤ N) : Apart u' v := by
  unfold Apart at *
  rcases hg with hg | hg
  · rw [hg]; exact h
  · refine .inr ?_
    rw [hg]
    intro hh
    have := (hv.lt _ hh.symm).2
    omega

theorem own_below {w w' : World} {base : Nat} {e : TypeId} {size n : Nat} {v : Value} {xs : List Value} (h : w.ownsRow base e size v n xs) (hb : Below w.heap.size w w') : w'.ownsRow base e size v n xs := by
  obtain ⟨h1, h2⟩ := h
  rcases h2 with h2 | ⟨g, cap, cur, hv, hbg, hgg, hrest⟩
  · exact ⟨h1, .inl h2⟩
  · exact ⟨h1, .inr ⟨g, cap, cur, hv, hbg, (hb.block g (Array.getElem?_eq_some_iff.1 hgg).1).trans hgg, hrest⟩⟩

set_option maxRecDepth 100000 in
set_option maxHeartbeats 4000000 in
theorem walk_KthreeMany (va : Value) (l : List Int) (w : World) (h0 : Ints .u8 w va l) :
    Calls Try.prog 7 #[va] w fun e w' => e = .returned (.bool true) ∧ Below w.heap.size w w' := by
  have hX := h0.1
  have hB := Lib.hid fun x hx => wf_u8 (h0.2 x hx)
  clear h0
  have hX0 := hX
  obtain ⟨A, c, rfl, hc, hm, j0⟩ := hX0
  clear j0
  rw [List.length_map] at hc hX ⊢
  unfold maxLen at hm
  by_cases hbig : 500 < l.length
  · clear hX
    go_enter Try.func7, Try.ntmps7
    go_wp2_with fail
    refine (head_any _).mono ?_
    rintro e w1 ⟨rfl, hb1⟩
    go_wp2
    go_ret
    exact ⟨rfl, hb1⟩
  go_enter Try.func7, Try.ntmps7
  go_wp2_with fail
  refine (head_any _).mono ?_
  rintro e w1 ⟨rfl, hb1⟩
  have HX := Lib.hid (hX.below hb1)
  clear hX
  go_wp2
  go_loopw [4, 5, 6, 7, 8, 9] (fun t n p q s i wr => ∃ k : Nat, k ≤ l.length ∧ i = .int .i64 k ∧ p = .bool (hasT 1 (l.take k)) ∧ q = .bool (hasT 2 (l.take k)) ∧ s = .bool (hasT 3 (l.take k)) ∧
    wr.ownsRow w1.heap.size 3 1 t k ((tru (l.take k)).map (.int .i64)) ∧ wr.ownsRow w1.heap.size 3 1 n k ((nots (l.take k)).map (.int .i64)) ∧ Apart t n ∧ Below w1.heap.size w1 wr) (fun _ _ _ _ _ i _ => l.length - (intOf i).toNat)
  case atStart => exact ⟨0, Nat.zero_le _, rfl, rfl, rfl, rfl, own_nil _ _, own_nil _ _, .inl rfl, Below.refl _ _⟩
  case round =>
    obtain ⟨k, hk, rfl, rfl, rfl, rfl, ho1, ho2, hap, hb⟩ := hrel
    by_cases hlt : k < l.length
    · obtain ⟨x, hx⟩ : ∃ x, l[k]? = some x := ⟨_, List.getElem?_eq_getElem hlt⟩
      have hbx := hB.out x (List.mem_of_getElem? hx)
      have hr := HX.out.below hb
      obtain ⟨A', c', he, hc', _, hA⟩ := hr
      injection he with he1 he2 he3
      subst he1 he3
      clear he2 hc'
      obtain ⟨ad, rfl, hcx⟩ : ∃ ad, A = some ad ∧ World.cell? _ (ad.add k) = some (.int .u8 x) := by
        rcases hA with ⟨_, h0⟩ | ⟨ad, h1, h2, h3⟩
        · omega
        · exact ⟨ad, h1, h3 k _ (by rw [List.getElem?_map, hx]; rfl)⟩
      clear hA
      have HXK := Lib.hid hx
      have HE := Lib.hid (show l.take (k + 1) = l.take k ++ [x] by rw [List.take_add_one, hx]; rfl)
      clear hx
      have O2 := Lib.hid ho2
      have O1 := Lib.hid ho1
      have HP := Lib.hid hap
      clear ho1 ho2 hap
      go_wp2_with fail
      refine (truth_any _ _ hbx.1 hbx.2).mono ?_
      rintro e w2 ⟨rfl, rfl⟩
      go_wp2_with (at_builtin; refine wpList_app el64 rfl (.tmp 23) (.tmp 29) rfl w1.heap.size _ _ _ rfl (O1.out.alloc _) _ [.int .i64 (x % 3 + 1)] rfl ?_ ?_ ?_ ?_ ?_ ?_)
      case refine_1 => exact Row.of_block (heap_at _ _ _ rfl) rfl rfl (Nat.le_refl _) (by decide)
      case refine_2 => simp [Value.oneCell']
      case refine_3 => unfold maxLen; simp; omega
      case refine_4 => simp; omega
      case refine_5 => have := hb.size; simp; omega
      intro t1 w2 own1 hg1 hat1
      have hb2 : Below w1.heap.size w1 w2 := below_app (hb.alloc hb.size _) (by have := hb.size; simp; omega) (O1.out.alloc _) hg1 (Nat.le_refl _)
      have N2 := Lib.hid ((O2.out.alloc _).kept hg1 HP.out.symm)
      have P2 := Lib.hid (HP.out.step O2.out hat1 (by simp))
      have T2 := Lib.hid own1
      clear own1 hg1 hat1 O1 O2 HP hb
      have hcx2 : w2.cell? (ad.add k) = some (.int .u8 x) := by
        have hr := HX.out.below hb2
        obtain ⟨A', c', he, hc', _, hA⟩ := hr
        injection he with he1 he2 he3
        subst he1 he3
        rcases hA with ⟨h1, h0⟩ | ⟨ad, h1, h2, h3⟩
        · cases h1
        · cases h1; exact h3 k _ (by rw [List.getElem?_map, HXK.out]; rfl)
      clear hcx
      go_wp2_with fail
      refine (truth_any _ _ hbx.1 hbx.2).mono ?_
      rintro e w3 ⟨rfl, rfl⟩
      go_wp2_with fail
      refine (not_any _ _).mono ?_
      rintro e w3 ⟨rfl, hb23⟩
      have hb3 := hb2.trans (hb23.mono hb2.size)
      have N3 := Lib.hid (own_below N2.out hb23)
      have T3 := Lib.hid (own_below T2.out hb23)
      clear N2 T2 hb2 hb23 hcx2
      go_wp2_with (at_builtin; refine wpList_app el64 rfl (.tmp 31) (.tmp 38) rfl w1.heap.size _ _ _ rfl (N3.out.alloc _) _ [.int .i64 (not3 (tr (x % 3 + 1)))] rfl ?_ ?_ ?_ ?_ ?_ ?_)
      case refine_1 => exact Row.of_block (heap_at _ _ _ rfl) rfl rfl (Nat.le_refl _) (by decide)
      case refine_2 => simp [Value.oneCell']
      case refine_3 => unfold maxLen; simp; omega
      case refine_4 => simp; omega
      case refine_5 => have := hb3.size; simp; omega
      intro n1 w4 own2 hg2 hat2
      have hb4 : Below w1.heap.size w1 w4 := below_app (hb3.alloc hb3.size _) (by have := hb3.size; simp; omega) (N3.out.alloc _) hg2 (Nat.le_refl _)
      have own1 := (T3.out.alloc _).kept hg2 P2.out
      have P4 := Lib.hid (P2.out.symm.step T3.out hat2 (by simp)).symm
      clear hg2 hat2 T3 N3 P2 hb3
      have e1 : (tru (l.take k)).map (Value.int .i64) ++ [.int .i64 (x % 3 + 1)] = (tru (l.take (k + 1))).map (Value.int .i64) := by rw [HE.out, tru_snoc, List.map_append]; rfl
      have e2 : (nots (l.take k)).map (Value.int .i64) ++ [.int .i64 (not3 (tr (x % 3 + 1)))] = (nots (l.take (k + 1))).map (Value.int .i64) := by rw [HE.out, nots_snoc, List.map_append]; rfl
      have hlt : (tru (l.take k)).length = k := by simp [tru]; omega
      have hcz : ((tru (l.take k)).map (Value.int .i64) ++ [.int .i64 (x % 3 + 1)])[k]? = some (.int .i64 (x % 3 + 1)) := by
        rw [List.getElem?_append_right (by rw [List.length_map, hlt]; exact Nat.le_refl _), List.length_map, hlt]; simp
      rw [e1] at own1 hcz
      rw [e2] at own2
      have c1 := Lib.hid (show hasT 1 (l.take (k + 1)) = (hasT 1 (l.take k) || (x % 3 + 1 == 1)) by rw [HE.out, hasT_snoc])
      have c2 := Lib.hid (show hasT 2 (l.take (k + 1)) = (hasT 2 (l.take k) || (x % 3 + 1 == 2)) by rw [HE.out, hasT_snoc])
      have c3 := Lib.hid (show hasT 3 (l.take (k + 1)) = (hasT 3 (l.take k) || (x % 3 + 1 == 3)) by rw [HE.out, hasT_snoc])
      have HO2 := Lib.hid own2
      have HO1 := Lib.hid own1
      rcases own1.2 with ⟨rfl, h0⟩ | ⟨g, cap, cur, rfl, q1, q2, q3, q4, q5⟩
      · omega
      have hcy : w4.cell? ⟨g, k, none⟩ = some (.int .i64 (x % 3 + 1)) := by
        have := own1.cells rfl k _ hcz
        by_cases hk0 : k = 0
        · subst hk0; simpa [Addr.add] using this
        · simpa [Addr.add, hk0] using this
      clear own1 own2 hcz hlt e1 e2 HE q1 q2 q5 HXK
      have ht := truth_tr x
      generalize x % 3 + 1 = z at *
      generalize hasT 1 (l.take k) = p at *
      generalize hasT 2 (l.take k) = q at *
      generalize hasT 3 (l.take k) = s at *
      rcases ht with rfl | rfl | rfl <;> cases p <;> cases q <;> cases s
      all_goals
        go_wp2
        go_roundw
        case rel => exact ⟨k + 1, by omega, by go_num, by rw [c1.out]; rfl, by rw [c2.out]; rfl, by rw [c3.out]; rfl, HO1.out, HO2.out, P4.out, hb4⟩
        case measure => simp [intOf]; omega
    · have : k = l.length := by omega
      subst this
      rw [List.take_length] at *
      obtain ⟨m1, m2, m3⟩ := many_ok l
      have HT := Lib.hid (Row.of_own ho1)
      have HN := Lib.hid (Row.of_own ho2)
      clear ho1 ho2 hap hm hc hk hlt
      have t1 := tr_id (all3_tr (tru l))
      rw [m1] at t1 m3
      generalize hasT 1 l = p at *
      generalize hasT 2 l = q at *
      generalize hasT 3 l = s at *
      cases p <;> cases q <;> cases s
      all_goals
        simp [not3] at m1 m2 m3 t1
        have M1 := Lib.hid m1
        have M2 := Lib.hid m2
        have M3 := Lib.hid m3
        have T1 := Lib.hid t1
        clear m1 m2 m3 t1
        go_wp2_with fail
        refine (all_any _ _ _ HT.out).mono ?_
        rintro e w2 ⟨rfl, hb2⟩
        rw [M1.out]
        go_wp2_with fail
        refine (any_any _ _ _ (HT.out.below hb2)).mono ?_
        rintro e w3 ⟨rfl, hb3⟩
        rw [M2.out]
        have hb13 := hb.trans ((Btrans hb2 hb3).mono hb.size)
        have HN3 := Lib.hid (HN.out.below (Btrans hb2 hb3))
        have hbw := Btrans hb1 hb13
        clear hb2 hb3 hb13 hb hb1
        go_wp2_with fail
        refine (not_any _ _).mono ?_
        rintro e w4 ⟨rfl, hb4⟩
        go_wp2_with fail
        refine (any_any _ _ _ (HN3.out.below hb4)).mono ?_
        rintro e w5 ⟨rfl, hb5⟩
        rw [M3.out]
        go_wp2
        go_ret
        exact ⟨by simp [not3, tr], Btrans hbw (Btrans hb4 hb5)⟩
end Go.Proofs.Ytjmlpgnmooiheaa
