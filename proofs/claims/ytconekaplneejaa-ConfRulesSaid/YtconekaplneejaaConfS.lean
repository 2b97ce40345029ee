/- Layer 5: rules, and devices the other way round. -/
import Derived.Test.YtconekaplneejaaConfQ
import Derived.Deep.RegionLaw
namespace Go.Proofs.Ytconekaplneejaa
open Go.ChangeShapes Go.WideShapes Go.ChangeAt Go.RowKit
set_option linter.unusedVariables false
set_option linter.unusedSimpArgs false

section
variable {H : Type} {enc : TypeId × Value → H} {w : World} {rch : Reach} {b0 : Nat}
def wit23 : Value := .slice none 0 0
theorem arg23_of_trod {v : Value} {d : DataW H} {p : List MemPlace} (hv : Value.okWide Try.prog w rch b0 23 v) (h : DataW.Trod enc Try.prog w 0 (fun _ => true) true 23 v d p) : ∃ z : Nat, ∃ A c, v = .slice A z c := by
  obtain ⟨a0, len0, cap0, rfl⟩ := okWide_slice Try.underlying23 hv
  exact ⟨_, _, _, rfl⟩
end
theorem right_rev (v : Value) (c : Cf) (w : World) (h : IsConf w v ⟨c.P, c.H, c.C, c.Mn, c.Mx, c.Rho, c.Bd, c.Win, c.St, c.rows.reverse⟩) :
    Calls Try.prog 13 #[v] w fun e w' => e = .returned (.bool (confO c)) ∧ Below w.heap.size w w' :=
  (right_any v ⟨c.P, c.H, c.C, c.Mn, c.Mx, c.Rho, c.Bd, c.Win, c.St, c.rows.reverse⟩ w h).mono fun e w' ⟨he, hb⟩ => ⟨by rw [he, confO_rev], hb⟩
theorem many_rev (v : Value) (c : Cf) (w : World) (h : IsConf w v ⟨c.P, c.H, c.C, c.Mn, c.Mx, c.Rho, c.Bd, c.Win, c.St, c.rows.reverse⟩) (hN : (chansOf c.rows).length ≤ 1000000) :
    Calls Try.prog 15 #[v] w fun e w' => e = .returned (.int .i64 ((chansOf c.rows).length : Int)) ∧ Below w.heap.size w w' :=
  (many_any v ⟨c.P, c.H, c.C, c.Mn, c.Mx, c.Rho, c.Bd, c.Win, c.St, c.rows.reverse⟩ w h (by simp only; rw [chans_len_rev]; exact hN)).mono fun e w' ⟨he, hb⟩ => ⟨by rw [he]; simp only; rw [chans_len_rev], hb⟩
theorem Rows2.rev {w : World} {v : Value} {vs : List Value} {rows : List (List Int)} (hv : Row w v vs.reverse) (hl : vs.length = rows.length) (h : ∀ (i : Nat) r, rows[i]? = some r → ∃ u, vs[i]? = some u ∧ Row w u (r.map (Value.int .i64))) : Rows2 w v rows.reverse := by
  refine ⟨vs.reverse, hv, by rw [List.length_reverse, List.length_reverse, hl], fun i r hr => ?_⟩
  have hi : i < rows.length := by have := lt_of_get hr; rwa [List.length_reverse] at this
  rw [List.getElem?_reverse hi] at hr
  obtain ⟨u, h1, h2⟩ := h _ _ hr
  exact ⟨u, by rw [List.getElem?_reverse (by omega), hl]; exact h1, h2⟩
theorem own_shape {w : World} {base k n : Nat} {e : TypeId} {v : Value} {xs : List Value} (h : w.ownsRow base e k v n xs) : ∃ A c, v = .slice A n c := by
  obtain ⟨h1, h2⟩ := h
  rcases h2 with ⟨rfl, rfl⟩ | ⟨g, cap, cur, hv, hrest⟩
  · exact ⟨_, _, rfl⟩
  · exact ⟨_, _, hv⟩
theorem rows_own {w : World} {base n : Nat} {e : TypeId} {v : Value} {vs : List Value} (h : w.ownsRow base e 1 v n (vs.reverse.take n)) (hl : vs.length = n) : Row w v vs.reverse := by
  have := Row.of_own h
  rwa [List.take_of_length_le (by rw [List.length_reverse, hl]; exact Nat.le_refl _)] at this
theorem step_apV {w : World} {ops : Array Oper} {o : Oper} {a : Act} {K : Act → World → Prop} {Q : Exit → Act → World → Prop} {E : Prop} {t e : TypeId} {bytes : Nat} (EL : Elem Try.prog t e 1 bytes) (hgd : o.guard = none) (s x : Operand)
    (ho : o.op = .call { callee := .builtin .append, args := #[s, x], argTypes := #[t, t] }) (base : Nat) (v : Value) (n : Nat) (xs : List Value) (hs : a.eval s = v) (hown : w.ownsRow base e 1 v n xs)
    (vx : Value) (ys : List Value) (hx : a.eval x = vx) (hr : Row w vx ys) (h1 : ∀ u ∈ ys, u.oneCell' = true) (h63 : n + ys.length ≤ maxLen) (hbytes : (n + ys.length) * bytes ≤ 140737488355328) (hbase : base ≤ w.heap.size)
    (h : ∀ v' w', w'.ownsRow base e 1 v' (n + ys.length) (xs ++ ys) → w.grownBy w' v.ownBlock → K (a.put o.dst v') w') :
    if Region.wanted o (yielded ops a.tmps) = true then Oper.wp Try.prog o a w K Q else E := by
  have hw : Region.wanted o (yielded ops a.tmps) = true := by simp [Region.wanted, hgd]
  rw [if_pos hw]
  exact wp_app EL s x ho base v n xs hs hown vx ys hx hr h1 h63 hbytes hbase fun v' w' h2 h3 _ => h v' w' h2 h3

set_option maxRecDepth 100000 in
set_option maxHeartbeats 8000000 in
theorem walk_ConfRules (v : Value) (c : Cf) (vr : Value) (z : Nat) (w : World) (hc : IsConf w v c) (wc : (Lit.int .i64 c.P).wf = true ∧ (Lit.int .i64 c.H).wf = true ∧ (Lit.int .i64 c.C).wf = true ∧ (Lit.int .i64 c.Mn).wf = true ∧ (Lit.int .i64 c.Mx).wf = true ∧ (Lit.int .i64 c.Rho).wf = true ∧ (Lit.int .i64 c.Bd).wf = true ∧ (Lit.int .i64 c.Win).wf = true ∧ (Lit.int .i64 c.St).wf = true) (wr : ∀ r ∈ c.rows, ∀ z ∈ r, (Lit.int .i64 z).wf = true) (h10 : R10 v) (hr : ∃ A c, vr = .slice A z c) :
    Calls Try.prog 8 #[v, vr] w fun e w' => e = .returned (.bool true) ∧ Below w.heap.size w w' := by
  obtain ⟨s, r, rfl, hs⟩ := hc
  obtain ⟨Ar, cr, rfl⟩ := hr
  obtain ⟨An, nr, cn, rfl⟩ := h10.src
  clear h10
  have HS0 := Lib.hid hs
  obtain ⟨A, cp, rfl, hn0, hn1, q⟩ := hs.src
  clear hs q wc wr
  go_enter Try.func8, Try.ntmps8
  go_wp2_with fail
  refine (head_any _).mono ?_
  rintro e w1 ⟨rfl, hk⟩
  have hb1 : Below w.heap.size w w1 := (show Below w.heap.size w _ by go_grown).trans (hk.mono (by simp))
  have HB1 := Lib.hid ((Blk.new w 25 #[.int .i64 c.P, .int .i64 c.H, .int .i64 c.C, .int .i64 c.Mn, .int .i64 c.Mx, .int .i64 c.Rho, .int .i64 c.Bd, .int .i64 c.Win, .int .i64 c.St, .slice A c.rows.length cp, .slice An nr cn] _ rfl).below hk)
  have HS1 := Lib.hid (HS0.out.below hb1)
  have hx := HB1.out.cells
  clear hk HS0
  go_wp2_with fail
  refine (great_any _ c _ ⟨_, _, rfl, HS1.out⟩).mono ?_
  rintro e w2 ⟨rfl, hk⟩
  clear hx
  have hb2 := Btrans hb1 hk
  have HB2 := Lib.hid (HB1.out.below hk)
  have HS2 := Lib.hid (HS1.out.below hk)
  have hx := HB2.out.cells
  clear hk HB1 HS1 hb1
  cases hg : greatB c.rows with
  | true =>
    clear hx
    go_wp2
    go_ret
    exact ⟨rfl, hb2⟩
  | false =>
    by_cases hz : 100 < z
    · go_wp2
      go_ret
      exact ⟨rfl, hb2⟩
    have HN : Hid ((chansOf c.rows).length ≤ 1000000) := Lib.hid (Nat.le_trans (great_len hg) (by decide))
    have hrl : c.rows.length ≤ 50 := by
      unfold greatB at hg
      rw [Bool.or_eq_false_iff] at hg
      have := of_decide_eq_false hg.1
      omega
    clear hg
    have hl := HB2.out.lt
    obtain ⟨vs, hv, hvl, hvi⟩ := HS2.out
    have HV := Lib.hid hv
    have HVL := Lib.hid hvl
    have HVO := Lib.hid (Rows2.one hvl hvi)
    have HVI := Lib.hid hvi
    clear hv hvl hvi
    have hwn : IntKind.i64.wrap ((c.rows.length : Int) - 1) = (c.rows.length : Int) - 1 := IntWalk.i64_in _ (by omega)
    go_wp2_with fail
    go_loopw [8] (fun i wr => ∃ k : Nat, k ≤ c.rows.length ∧ i = .int .i64 ((c.rows.length : Int) - 1 - (k : Int)) ∧ Below w2.heap.size w2 wr ∧ w2.heap.size + 2 ≤ wr.heap.size ∧ Blk wr w2.heap.size 25 #[.int .i64 c.P, .int .i64 c.H, .int .i64 c.C, .int .i64 c.Mn, .int .i64 c.Mx, .int .i64 c.Rho, .int .i64 c.Bd, .int .i64 c.Win, .int .i64 c.St, .slice A c.rows.length cp, .slice Ar z cr] ∧ ∃ Av cv, Blk wr (w2.heap.size + 1) 25 #[.int .i64 c.P, .int .i64 c.H, .int .i64 c.C, .int .i64 c.Mn, .int .i64 c.Mx, .int .i64 c.Rho, .int .i64 c.Bd, .int .i64 c.Win, .int .i64 c.St, .slice Av k cv, .slice An nr cn] ∧ wr.ownsRow (w2.heap.size + 2) 35 1 (.slice Av k cv) k (vs.reverse.take k)) (fun i _ => (intOf i + 1).toNat)
    case atStart =>
      refine ⟨0, Nat.zero_le _, by simp, ?_, ?_, ?_, none, 0, ?_, own_nil _ _⟩
      · go_grown
      · simp
      · exact (Blk.new w2 _ _ _ rfl).al _
      · exact Blk.new _ _ _ _ (by simp)
    case round =>
      obtain ⟨k, hk, rfl, hbr, hsz, hD, Av, cv, hE, hO⟩ := hrel
      have HD := Lib.hid hD
      have HE := Lib.hid hE
      have HO := Lib.hid hO
      have HBR := Lib.hid hbr
      have HC := Lib.hid (HB2.out.below hbr)
      clear hD hE hO hx
      by_cases hlt : k < c.rows.length
      · obtain ⟨j, hj⟩ : ∃ j : Nat, c.rows.length - 1 - k = j := ⟨_, rfl⟩
        have hji : (c.rows.length : Int) - 1 - (k : Int) = (j : Int) := by omega
        have hjn : j < c.rows.length := by omega
        have HJ := Lib.hid (show (j : Int) + 1 + (k : Int) = (c.rows.length : Int) by omega)
        rw [hji]
        obtain ⟨u, hu⟩ : ∃ u, vs[j]? = some u := ⟨_, List.getElem?_eq_getElem (by rw [HVL.out]; omega)⟩
        obtain ⟨ru, hru⟩ : ∃ ru, c.rows[j]? = some ru := ⟨_, List.getElem?_eq_getElem (by omega)⟩
        obtain ⟨u', hu', hur⟩ := HVI.out _ _ hru
        obtain rfl : u' = u := by rw [hu] at hu'; exact (Option.some.inj hu').symm
        obtain ⟨Bu, cu, rfl, _⟩ := hur.shape
        rw [List.length_map] at hu
        obtain ⟨Aq, cq, eq1, eq2, eq3, eq4⟩ := HV.out
        obtain ⟨rfl, rfl⟩ : A = Aq ∧ cp = cq := by injection eq1 with h1 h2 h3; exact ⟨h1, h3⟩
        rcases eq4 with ⟨_, h0⟩ | ⟨ad, rfl, had, hcell⟩
        · rw [HVL.out] at eq2; omega
        have hcj : wr.cell? (ad.add j) = some (.slice Bu ru.length cu) := (hbr.cell (by rw [block_add]; exact had (by rw [HVL.out]; omega))).trans (hcell j _ hu)
        have HTK := Lib.hid (show vs.reverse.take k ++ [Value.slice Bu ru.length cu] = vs.reverse.take (k + 1) by
          rw [List.take_add_one, List.getElem?_reverse (by rw [HVL.out]; omega), HVL.out, show c.rows.length - 1 - k = j from hj, hu]
          rfl)
        have hxC := HC.out.cells
        have hxE := HE.out.cells
        have hlC := HC.out.lt
        have hlE := HE.out.lt
        have hwj : IntKind.i64.wrap ((j : Int) - 1) = (j : Int) - 1 := IntWalk.i64_in _ (by omega)
        clear hu hru hu' hur eq1 eq2 eq3 had hcell hbr hwn hj hji
        go_wp2_with fail
        go_region_law (refine step_apV elR rfl (.tmp 32) (.tmp 38) rfl (w2.heap.size + 2) _ k (vs.reverse.take k) rfl (own_below HO.out (by go_grown)) _ [.slice Bu ru.length cu] rfl (Row.new [.slice Bu ru.length cu] 35 1 (by simp) (by decide) _ _ (by simp)) (by simp [Value.oneCell']) (by simp; unfold maxLen; omega) (by simp; omega) (by simp; omega) ?_; intro v5 w5 hO5 hg5; have HB5 := Lib.hid (below_app (B := w2.heap.size + 2) (w := wr) (by go_grown) (by simp; omega) (own_below HO.out (by go_grown)) hg5 (Nat.le_refl _)); obtain ⟨A5, c5, rfl⟩ := own_shape hO5; have HO5 := Lib.hid hO5; have HE5 := Lib.hid (HE.out.keep HB5.out (by omega)); have hxE5 := HE5.out.cells; have hfE5 := HE5.out.froz; have hlE5 := HE5.out.lt; clear hO5 hg5)
        all_goals
          rw [HTK.out] at HO5
          go_wp2
          go_roundw
          case rel =>
            have hz5 := HB5.out.size
            have hJ := HJ.out
            refine ⟨k + 1, by omega, by congr 1; omega, ?_, ?_, ?_, A5, c5, ?_, ?_⟩
            · exact Below.setCell (p := ⟨w2.heap.size + 1, 9, none⟩) (HBR.out.trans (HB5.out.mono (by omega))) (by simp) _
            · simp; omega
            · exact (HD.out.keep HB5.out (by omega)).setO (by omega) 9 _
            · exact HE5.out.set 9 _
            · exact own_set HO5.out (by omega)
          case measure => first | (simp [intOf]; done) | (simp [intOf]; omega)
      · have he : k = c.rows.length := by omega
        subst he
        have g0 : decide ((c.rows.length : Int) - 1 - (c.rows.length : Int) ≥ 0) = false := decide_eq_false (by omega)
        go_wp2_with fail
        refine wp_world (fun W => Below w.heap.size w W ∧ Blk W w.heap.size 25 #[.int .i64 c.P, .int .i64 c.H, .int .i64 c.C, .int .i64 c.Mn, .int .i64 c.Mx, .int .i64 c.Rho, .int .i64 c.Bd, .int .i64 c.Win, .int .i64 c.St, .slice A c.rows.length cp, .slice An nr cn] ∧ Blk W w2.heap.size 25 #[.int .i64 c.P, .int .i64 c.H, .int .i64 c.C, .int .i64 c.Mn, .int .i64 c.Mx, .int .i64 c.Rho, .int .i64 c.Bd, .int .i64 c.Win, .int .i64 c.St, .slice A c.rows.length cp, .slice Ar z cr] ∧ Blk W (w2.heap.size + 1) 25 #[.int .i64 c.P, .int .i64 c.H, .int .i64 c.C, .int .i64 c.Mn, .int .i64 c.Mx, .int .i64 c.Rho, .int .i64 c.Bd, .int .i64 c.Win, .int .i64 c.St, .slice Av c.rows.length cv, .slice An nr cn] ∧ Rows2 W (.slice A c.rows.length cp) c.rows ∧ Rows2 W (.slice Av c.rows.length cv) c.rows.reverse) ⟨Btrans hb2 hbr, HC.out, HD.out, HE.out, HS2.out.below hbr, Rows2.rev (rows_own HO.out HVL.out) HVL.out (fun i r hr => by obtain ⟨u, h1, h2⟩ := HVI.out i r hr; exact ⟨u, h1, h2.below hbr⟩)⟩ fun W ⟨hbW, hBW, hDW, hEW, hSW, hTW⟩ => ?_
        have HSW := Lib.hid hSW
        have HRW := Lib.hid hTW
        have dF : ∀ w', Below W.heap.size W w' → ∀ i, w'.cell? ⟨w.heap.size, i, none⟩ = #[.int .i64 c.P, .int .i64 c.H, .int .i64 c.C, .int .i64 c.Mn, .int .i64 c.Mx, .int .i64 c.Rho, .int .i64 c.Bd, .int .i64 c.Win, .int .i64 c.St, .slice A c.rows.length cp, .slice An nr cn][i]? := fun w' hb i => by rw [hb.cell (p := ⟨w.heap.size, i, none⟩) hBW.lt]; exact hBW.cells i
        have dG : ∀ w', Below W.heap.size W w' → ∀ i, w'.cell? ⟨w2.heap.size, i, none⟩ = #[.int .i64 c.P, .int .i64 c.H, .int .i64 c.C, .int .i64 c.Mn, .int .i64 c.Mx, .int .i64 c.Rho, .int .i64 c.Bd, .int .i64 c.Win, .int .i64 c.St, .slice A c.rows.length cp, .slice Ar z cr][i]? := fun w' hb i => by rw [hb.cell (p := ⟨w2.heap.size, i, none⟩) hDW.lt]; exact hDW.cells i
        have dE : ∀ w', Below W.heap.size W w' → ∀ i, w'.cell? ⟨w2.heap.size + 1, i, none⟩ = #[.int .i64 c.P, .int .i64 c.H, .int .i64 c.C, .int .i64 c.Mn, .int .i64 c.Mx, .int .i64 c.Rho, .int .i64 c.Bd, .int .i64 c.Win, .int .i64 c.St, .slice Av c.rows.length cv, .slice An nr cn][i]? := fun w' hb i => by rw [hb.cell (p := ⟨w2.heap.size + 1, i, none⟩) hEW.lt]; exact hEW.cells i
        clear hSW hTW hBW hDW hEW HC HD HE HO hbr HBR hb2 HS2 HB2 HV HVL HVO HVI hwn g0
        refine wp_region_held_drew (S := fun w' => Below W.heap.size W w') (by kernel_rfl) (by go_grown) (fun hHeld => ?_)
        refine takeD 0 (some 41) (v := ?_) rfl rfl (by kernel_rfl) (by kernel_rfl) (by kernel_rfl) (fun _ _ _ h => h) (by rfl) ?_ (by assumption) ?_
        rotate_left
        · intro w hSw
          (try dsimp only at hSw)
          go_simp
          try with_reducible rfl
        try simp only [Act.put, List.setIfInBounds_toArray, List.set_cons_zero, List.set_cons_succ]
        refine takeD 1 (some 42) (v := ?_) rfl rfl (by kernel_rfl) (by kernel_rfl) (by kernel_rfl) (fun _ _ _ h => h) (by rfl) ?_ (by assumption) ?_
        rotate_left
        · intro w hSw
          (try dsimp only at hSw)
          go_simp
          try with_reducible rfl
        try simp only [Act.put, List.setIfInBounds_toArray, List.set_cons_zero, List.set_cons_succ]
        refine takeD 2 (some 43) (v := ?_) rfl rfl (by kernel_rfl) (by kernel_rfl) (by kernel_rfl) (fun _ _ _ h => h) (by rfl) ?_ (by assumption) ?_
        rotate_left
        · intro w hSw
          (try dsimp only at hSw)
          go_simp
          try with_reducible rfl
        try simp only [Act.put, List.setIfInBounds_toArray, List.set_cons_zero, List.set_cons_succ]
        refine takeD 4 (some 45) (v := ?_) rfl rfl (by kernel_rfl) (by kernel_rfl) (by kernel_rfl) (fun _ _ _ h => h) (by rfl) ?_ (by assumption) ?_
        rotate_left
        · intro w hSw
          (try dsimp only at hSw)
          go_simp
          try with_reducible rfl
        try simp only [Act.put, List.setIfInBounds_toArray, List.set_cons_zero, List.set_cons_succ]
        refine wpAnyH_ready (rs := [3]) (by kernel_rfl) (by simp) ?_
        refine AllReadyH.cons rfl (fun K hK => ?_) AllReadyH.nil
        rw [if_pos (by rfl)]
        go_simp
        go_at_call 13
        refine (right_any _ c _ ⟨_, _, rfl, HSW.out.below (by exact hHeld)⟩).mono ?_
        rintro e w9 ⟨rfl, hk⟩
        go_simp
        refine hK.out _ _ ?_ (fun hHeld2 => ?_)
        · first | exact hHeld.trans (hk.mono hHeld.size) | (clear hK; have hz := hHeld.size; go_grown)
        clear hK K hHeld
        have hHeld := hHeld2
        clear hHeld2
        try clear hk
        try simp only [Act.put, List.setIfInBounds_toArray, List.set_cons_zero, List.set_cons_succ]
        refine wpAnyH_ready (rs := [5]) (by kernel_rfl) (by simp) ?_
        refine AllReadyH.cons rfl (fun K hK => ?_) AllReadyH.nil
        rw [if_pos (by rfl)]
        go_simp
        go_at_call 13
        refine (right_any _ c _ ⟨_, _, rfl, HSW.out.below (by exact hHeld)⟩).mono ?_
        rintro e w9 ⟨rfl, hk⟩
        go_simp
        refine hK.out _ _ ?_ (fun hHeld2 => ?_)
        · first | exact hHeld.trans (hk.mono hHeld.size) | (clear hK; have hz := hHeld.size; go_grown)
        clear hK K hHeld
        have hHeld := hHeld2
        clear hHeld2
        try clear hk
        try simp only [Act.put, List.setIfInBounds_toArray, List.set_cons_zero, List.set_cons_succ]
        refine takeD 6 (some 47) (v := ?_) rfl rfl (by kernel_rfl) (by kernel_rfl) (by kernel_rfl) (fun _ _ _ h => h) (by rfl) ?_ (by assumption) ?_
        rotate_left
        · intro w hSw
          (try dsimp only at hSw)
          go_simp
          try with_reducible rfl
        try simp only [Act.put, List.setIfInBounds_toArray, List.set_cons_zero, List.set_cons_succ]
        refine takeD 7 (some 48) (v := ?_) rfl rfl (by kernel_rfl) (by kernel_rfl) (by kernel_rfl) (fun _ _ _ h => h) (by rfl) ?_ (by assumption) ?_
        rotate_left
        · intro w hSw
          (try dsimp only at hSw)
          go_simp
          try with_reducible rfl
        try simp only [Act.put, List.setIfInBounds_toArray, List.set_cons_zero, List.set_cons_succ]
        refine takeD 8 (some 49) (v := ?_) rfl rfl (by kernel_rfl) (by kernel_rfl) (by kernel_rfl) (fun _ _ _ h => h) (by rfl) ?_ (by assumption) ?_
        rotate_left
        · intro w hSw
          (try dsimp only at hSw)
          go_simp
          try with_reducible rfl
        try simp only [Act.put, List.setIfInBounds_toArray, List.set_cons_zero, List.set_cons_succ]
        refine takeD 9 (some 50) (v := ?_) rfl rfl (by kernel_rfl) (by kernel_rfl) (by kernel_rfl) (fun _ _ _ h => h) (by rfl) ?_ (by assumption) ?_
        rotate_left
        · intro w hSw
          (try dsimp only at hSw)
          go_simp
          try with_reducible rfl
        try simp only [Act.put, List.setIfInBounds_toArray, List.set_cons_zero, List.set_cons_succ]
        refine takeD 11 (some 52) (v := ?_) rfl rfl (by kernel_rfl) (by kernel_rfl) (by kernel_rfl) (fun _ _ _ h => h) (by rfl) ?_ (by assumption) ?_
        rotate_left
        · intro w hSw
          (try dsimp only at hSw)
          go_simp
          try with_reducible rfl
        try simp only [Act.put, List.setIfInBounds_toArray, List.set_cons_zero, List.set_cons_succ]
        refine wpAnyH_ready (rs := [10]) (by kernel_rfl) (by simp) ?_
        refine AllReadyH.cons rfl (fun K hK => ?_) AllReadyH.nil
        rw [if_pos (by rfl)]
        go_simp
        go_at_call 13
        refine (right_rev _ c _ ⟨_, _, rfl, HRW.out.below (by exact hHeld)⟩).mono ?_
        rintro e w9 ⟨rfl, hk⟩
        go_simp
        refine hK.out _ _ ?_ (fun hHeld2 => ?_)
        · first | exact hHeld.trans (hk.mono hHeld.size) | (clear hK; have hz := hHeld.size; go_grown)
        clear hK K hHeld
        have hHeld := hHeld2
        clear hHeld2
        try clear hk
        try simp only [Act.put, List.setIfInBounds_toArray, List.set_cons_zero, List.set_cons_succ]
        refine wpAnyH_ready (rs := [12]) (by kernel_rfl) (by simp) ?_
        refine AllReadyH.cons rfl (fun K hK => ?_) AllReadyH.nil
        rw [if_pos (by rfl)]
        go_simp
        go_at_call 13
        refine (right_any _ c _ ⟨_, _, rfl, HSW.out.below (by exact hHeld)⟩).mono ?_
        rintro e w9 ⟨rfl, hk⟩
        go_simp
        refine hK.out _ _ ?_ (fun hHeld2 => ?_)
        · first | exact hHeld.trans (hk.mono hHeld.size) | (clear hK; have hz := hHeld.size; go_grown)
        clear hK K hHeld
        have hHeld := hHeld2
        clear hHeld2
        try clear hk
        try simp only [Act.put, List.setIfInBounds_toArray, List.set_cons_zero, List.set_cons_succ]
        refine takeD 13 (some 54) (v := ?_) rfl rfl (by kernel_rfl) (by kernel_rfl) (by kernel_rfl) (fun _ _ _ h => h) (by rfl) ?_ (by assumption) ?_
        rotate_left
        · intro w hSw
          (try dsimp only at hSw)
          go_simp
          try with_reducible rfl
        try simp only [Act.put, List.setIfInBounds_toArray, List.set_cons_zero, List.set_cons_succ]
        refine takeD 14 (some 55) (v := ?_) rfl rfl (by kernel_rfl) (by kernel_rfl) (by kernel_rfl) (fun _ _ _ h => h) (by rfl) ?_ (by assumption) ?_
        rotate_left
        · intro w hSw
          (try dsimp only at hSw)
          go_simp
          try with_reducible rfl
        try simp only [Act.put, List.setIfInBounds_toArray, List.set_cons_zero, List.set_cons_succ]
        refine takeD 15 (some 56) (v := ?_) rfl rfl (by kernel_rfl) (by kernel_rfl) (by kernel_rfl) (fun _ _ _ h => h) (by rfl) ?_ (by assumption) ?_
        rotate_left
        · intro w hSw
          (try dsimp only at hSw)
          go_simp
          try with_reducible rfl
        try simp only [Act.put, List.setIfInBounds_toArray, List.set_cons_zero, List.set_cons_succ]
        refine takeD 16 (some 57) (v := ?_) rfl rfl (by kernel_rfl) (by kernel_rfl) (by kernel_rfl) (fun _ _ _ h => h) (by rfl) ?_ (by assumption) ?_
        rotate_left
        · intro w hSw
          (try dsimp only at hSw)
          go_simp
          try with_reducible rfl
        try simp only [Act.put, List.setIfInBounds_toArray, List.set_cons_zero, List.set_cons_succ]
        refine takeD 18 (some 59) (v := ?_) rfl rfl (by kernel_rfl) (by kernel_rfl) (by kernel_rfl) (fun _ _ _ h => h) (by rfl) ?_ (by assumption) ?_
        rotate_left
        · intro w hSw
          (try dsimp only at hSw)
          go_simp
          try with_reducible rfl
        try simp only [Act.put, List.setIfInBounds_toArray, List.set_cons_zero, List.set_cons_succ]
        refine wpAnyH_ready (rs := [17]) (by kernel_rfl) (by simp) ?_
        refine AllReadyH.cons rfl (fun K hK => ?_) AllReadyH.nil
        rw [if_pos (by rfl)]
        go_simp
        go_at_call 15
        refine (many_rev _ c _ ⟨_, _, rfl, HRW.out.below (by exact hHeld)⟩ HN.out).mono ?_
        rintro e w9 ⟨rfl, hk⟩
        go_simp
        refine hK.out _ _ ?_ (fun hHeld2 => ?_)
        · first | exact hHeld.trans (hk.mono hHeld.size) | (clear hK; have hz := hHeld.size; go_grown)
        clear hK K hHeld
        have hHeld := hHeld2
        clear hHeld2
        try clear hk
        try simp only [Act.put, List.setIfInBounds_toArray, List.set_cons_zero, List.set_cons_succ]
        refine wpAnyH_ready (rs := [19]) (by kernel_rfl) (by simp) ?_
        refine AllReadyH.cons rfl (fun K hK => ?_) AllReadyH.nil
        rw [if_pos (by rfl)]
        go_simp
        go_at_call 15
        refine (many_any _ c _ ⟨_, _, rfl, HSW.out.below (by exact hHeld)⟩ HN.out).mono ?_
        rintro e w9 ⟨rfl, hk⟩
        go_simp
        refine hK.out _ _ ?_ (fun hHeld2 => ?_)
        · first | exact hHeld.trans (hk.mono hHeld.size) | (clear hK; have hz := hHeld.size; go_grown)
        clear hK K hHeld
        have hHeld := hHeld2
        clear hHeld2
        try clear hk
        try simp only [Act.put, List.setIfInBounds_toArray, List.set_cons_zero, List.set_cons_succ]
        refine takeD 20 (some 61) (v := ?_) rfl rfl (by kernel_rfl) (by kernel_rfl) (by kernel_rfl) (fun _ _ _ h => h) (by rfl) ?_ (by assumption) ?_
        rotate_left
        · intro w hSw
          (try dsimp only at hSw)
          go_simp
          try with_reducible rfl
        try simp only [Act.put, List.setIfInBounds_toArray, List.set_cons_zero, List.set_cons_succ]
        refine takeD 21 (some 62) (v := ?_) rfl rfl (by kernel_rfl) (by kernel_rfl) (by kernel_rfl) (fun _ _ _ h => h) (by rfl) ?_ (by assumption) ?_
        rotate_left
        · intro w hSw
          (try dsimp only at hSw)
          go_simp
          try with_reducible rfl
        try simp only [Act.put, List.setIfInBounds_toArray, List.set_cons_zero, List.set_cons_succ]
        refine takeD 22 (some 4) (v := ?_) rfl rfl (by kernel_rfl) (by kernel_rfl) (by kernel_rfl) (fun _ _ _ h => h) (by rfl) ?_ (by assumption) ?_
        rotate_left
        · intro w hSw
          (try dsimp only at hSw)
          go_simp
          try with_reducible rfl
        try simp only [Act.put, List.setIfInBounds_toArray, List.set_cons_zero, List.set_cons_succ]
        refine wpAnyH_done (by kernel_rfl) ?_ _
        go_wp2
        go_ret
        exact ⟨by first | rfl | simp, hbW.trans (hHeld.mono hbW.size)⟩
end Go.Proofs.Ytconekaplneejaa
