/- Layer 14: the document's order. -/
import Derived.Test.YtgklbmhihfmagaaBatchV
import Derived.Test.YtgklbmhihfmagaaBatchW
import Derived.Test.YtgklbmhihfmagaaMemD
import Derived.Handy
import Derived.IntWalk
namespace Go.Proofs.Ytgklbmhihfmagaa
open Go.ChangeShapes Go.WideShapes Go.ChangeAt Go.RowKit Go.Deep
set_option linter.unusedVariables false
set_option linter.unusedSimpArgs false

theorem ins_skip {ts : List Tk} {p : Pk} : ∀ (L : List Pk) (k : Nat), k ≤ L.length → (∀ j q, j < k → L[j]? = some q → ¬ ahead ts p q ∧ p ≠ q) → ins ts p L = L.take k ++ ins ts p (L.drop k) := by
  intro L
  induction L with
  | nil => intro k hk _; simp at hk; subst hk; rfl
  | cons a L ih =>
    intro k hk h
    cases k with
    | zero => rfl
    | succ k =>
      obtain ⟨h1, h2⟩ := h 0 a (by omega) rfl
      rw [List.take_succ_cons, List.drop_succ_cons]
      show (if ahead ts p a then _ else if p = a then _ else _) = _
      rw [if_neg h1, if_neg h2, ih k (by simpa using hk) (fun j q hj hq => h (j + 1) q (by omega) (by simpa using hq))]
      rfl
theorem ins_put {ts : List Tk} {x : PV} {O : List PV} {k : Nat} (hk : k ≤ O.length) (h : ∀ j q, j < k → (O.map PV.p)[j]? = some q → ¬ ahead ts x.p q ∧ x.p ≠ q) (h2 : k = O.length ∨ ∃ y, O[k]? = some y ∧ ahead ts x.p y.p) :
    (O.take k ++ [x] ++ O.drop k).map PV.p = ins ts x.p (O.map PV.p) := by
  rw [ins_skip _ k (by simpa using hk) h, List.map_append, List.map_append, List.map_take, List.map_drop, List.append_assoc]
  congr 1
  rcases h2 with rfl | ⟨y, hy, ha⟩
  · rw [List.drop_of_length_le (by simp)]
    rfl
  · have hd : (O.map PV.p).drop k = y.p :: (O.map PV.p).drop (k + 1) := by
      have hk2 : k < (O.map PV.p).length := by rw [List.length_map]; exact (List.getElem?_eq_some_iff.1 hy).1
      rw [List.drop_eq_getElem_cons hk2]
      congr 1
      rw [List.getElem_map]
      have := (List.getElem?_eq_some_iff.1 hy).2
      rw [this]
    rw [hd]
    show _ = (if ahead ts x.p y.p then _ else _)
    rw [if_pos ha]
    rfl
theorem ins_known {ts : List Tk} {p : Pk} {L : List Pk} {k : Nat} (hk : k ≤ L.length) (h : ∀ j q, j < k → L[j]? = some q → ¬ ahead ts p q ∧ p ≠ q) (h2 : L[k]? = some p) (hn : ¬ ahead ts p p) : ins ts p L = L := by
  rw [ins_skip L k hk h]
  have hk2 : k < L.length := (List.getElem?_eq_some_iff.1 h2).1
  have hd : L.drop k = p :: L.drop (k + 1) := by
    rw [List.drop_eq_getElem_cons hk2, (List.getElem?_eq_some_iff.1 h2).2]
  have : ins ts p (L.drop k) = L.drop k := by
    rw [hd]
    show (if ahead ts p p then _ else if p = p then _ else _) = _
    rw [if_neg hn, if_pos rfl]
  rw [this, List.take_append_drop]
theorem own_mono {w : World} {base b2 k n : Nat} {e : TypeId} {v : Value} {xs : List Value} (h : w.ownsRow base e k v n xs) (hb : b2 ≤ base) : w.ownsRow b2 e k v n xs := by
  obtain ⟨h1, h2⟩ := h
  rcases h2 with h2 | ⟨g, cap, cur, hv, hbg, hrest⟩
  · exact ⟨h1, .inl h2⟩
  · exact ⟨h1, .inr ⟨g, cap, cur, hv, Nat.le_trans hb hbg, hrest⟩⟩
theorem own_shapeX {w : World} {base : Nat} {e : TypeId} {k n : Nat} {v : Value} {xs : List Value} (h : w.ownsRow base e k v n xs) : ∃ A c, v = .slice A n c ∧ n ≤ c ∧ c ≤ maxLen := by
  obtain ⟨_, h2⟩ := h
  rcases h2 with ⟨rfl, rfl⟩ | ⟨g1, cap, cur, rfl, _, _, h3, h4, _⟩
  · exact ⟨none, 0, rfl, Nat.le_refl _, Nat.zero_le _⟩
  · exact ⟨_, cap, rfl, h3, h4⟩
theorem prow_own {w w0 : World} {base n : Nat} {A : Option Addr} {c : Nat} {O l : List PV} {vl : Value} (h : w.ownsRow base 31 6 (.slice A n c) n (tk f6 O)) (hn : n = O.length) (hl : PRow w0 vl l) (hb : Below w0.heap.size w0 w) (hs : ∀ x ∈ O, x ∈ l) : PRow w (.slice A n c) O := by
  subst hn
  exact ⟨⟨A, c, rfl⟩, RowN.of_own h, fun x hx => (hl.2.2 x (hs x hx)).below hb⟩
theorem elPk : Elem Try.prog 23 31 6 64 := Elem.mk' (z := .agg #[.int .i64 0, .int .i64 0, .int .i64 0, .int .i64 0, .int .i64 0, .slice none 0 0]) (by kernel_rfl) (by kernel_rfl) rfl (by decide)
/-- a row from element k on -/
theorem RowN.suf {α : Type} {f : α → List Value} {k n m : Nat} (hk : ∀ a, (f a).length = k) {w : World} {ad : Addr} {c : Nat} {L : List α} (h : RowN k w (.slice (some ad) n c) n (tk f L)) (hn : n = L.length) (hm : m ≤ n) : RowN k w (.slice (some (ad.add (m * k))) (n - m) (c - m)) (n - m) (tk f (L.drop m)) := by
  obtain ⟨h0, A', c', e, hc, hmx, hA⟩ := h
  injection e with e1 _ e2
  subst e1 e2
  refine ⟨by rw [tk_len hk, List.length_drop, hn], some (ad.add (m * k)), c - m, rfl, by omega, by omega, ?_⟩
  rcases hA with ⟨h, _⟩ | ⟨ad', e, hb, hcell⟩
  · cases h
  · injection e with e
    subst e
    refine .inr ⟨_, rfl, fun hp => ?_, fun i u hu => ?_⟩
    · rw [block_add]
      refine hb ?_
      rw [tk_drop hk, List.length_drop] at hp
      omega
    · rw [Go.Deep.add_add]
      refine hcell _ _ ?_
      rw [tk_drop hk, List.getElem?_drop] at hu
      exact hu
theorem wp_one6 {a : Act} {w : World} {next : Act → World → Prop} {Q : Exit → Act → World → Prop} {r : Nat} {d : Option Nat} {ty : TypeId} {pos : String} {af : Array Edge} {gd : Option (Nat × Bool)} {v0 v1 v2 v3 v4 v5 : Value} (hv : a.eval (.tmp r) = .agg #[v0, v1, v2, v3, v4, v5])
    (hn : next (a.put d (.slice (some ⟨w.heap.size, 0, none⟩) 1 1)) (w.alloc (.cells #[v0, v1, v2, v3, v4, v5] 31))) :
    Oper.wp Try.prog ⟨d, .buildSlice 23 1 #[(0, .tmp r)], ty, pos, af, gd⟩ a w next Q := by
  unfold Oper.wp
  have h : (execOp a.eval ⟨d, .buildSlice 23 1 #[(0, .tmp r)], ty, pos, af, gd⟩).run Try.prog w = .ok (.value (.slice (some ⟨w.heap.size, 0, none⟩) 1 1)) (w.alloc (.cells #[v0, v1, v2, v3, v4, v5] 31)) := by
    generalize a.eval = ev at hv
    simp only [execOp]
    show (Instr.buildSlice _ _ _ >>= _ : Sem Next).run _ _ = _
    simp [hv, go_sem]
  rw [h]
  exact hn
set_option maxRecDepth 100000 in
set_option maxHeartbeats 16000000 in
theorem rorder_any (vt vl : Value) (ts : List TV) (l : List PV) (w : World) (h0 : TRow w vt ts) (h1 : PRow w vl l) (hr : ∀ x ∈ l, x.p.right) (hT : ∀ t ∈ ts, TkOk t.t) (hl : l.length ≤ 1000) :
    Calls Try.prog 13 #[vt, vl] w fun e w' => ∃ v L, e = .returned v ∧ PRow w' v L ∧ (L.map PV.p = ordR (ts.map TV.t) (l.map PV.p) ∧ ∀ x ∈ L, x ∈ l) ∧ Below w.heap.size w w' := by
  obtain ⟨LA, lc, rfl⟩ := h1.1
  have hcap := h1.2.1.caps
  unfold maxLen at hcap
  have HT := Lib.hid h0
  have HP := Lib.hid h1
  have HRi := Lib.hid hr
  have HTk := Lib.hid hT
  clear h0 h1 hr hT
  go_enter Try.func13, Try.ntmps13
  go_wp2_with fail
  go_loopw [5, 6] (fun v i wr => ∃ (j : Nat) (O : List PV), j ≤ l.length ∧ i = .int .i64 j ∧ Below w.heap.size w wr ∧ wr.ownsRow w.heap.size 31 6 v O.length (tk f6 O) ∧ O.map PV.p = ordR (ts.map TV.t) ((l.take j).map PV.p) ∧ ∀ x ∈ O, x ∈ l) (fun _ i _ => l.length - (intOf i).toNat)
  case atStart => exact ⟨0, [], by omega, rfl, Below.refl _ _, own_nilN _ _, rfl, by simp⟩
  case round =>
    obtain ⟨j, O, hj, rfl, hb, hO, hoo, hos⟩ := hrel
    obtain ⟨OA, oc, rfl, hoc, hom⟩ := own_shapeX hO
    have hol : O.length ≤ 1000 := by
      have e := congrArg List.length hoo
      rw [List.length_map] at e
      have h2 := ordR_len (ts := (ts.map TV.t)) (l := (l.take j).map PV.p) (fun p hp => by
        obtain ⟨x, hx, rfl⟩ := List.mem_map.1 hp
        exact HRi.out x (List.mem_of_mem_take hx))
      rw [List.length_map, List.length_take] at h2
      omega
    have HPO := Lib.hid (prow_own hO rfl HP.out hb hos)
    have HBw := Lib.hid hb
    have HOw := Lib.hid hO
    have HOO := Lib.hid (And.intro hoo hos)
    have hbs := hb.size
    unfold maxLen at hom
    clear hb hO hoo hos
    by_cases hlt : j < l.length
    · obtain ⟨x, hx⟩ : ∃ x, l[j]? = some x := ⟨_, List.getElem?_eq_getElem hlt⟩
      have HX := Lib.hid hx
      obtain ⟨lad, rfl, _, hsx⟩ := HP.out.six hx
      have HSX := Lib.hid hsx
      have HTJ := Lib.hid (show (l.take (j + 1)).map PV.p = ((l.take j) ++ [x]).map PV.p by rw [List.take_add_one, hx]; rfl)
      have hjl : (j : Int) < (l.length : Int) := by omega
      have HXr := Lib.hid (HRi.out x (List.mem_of_getElem? hx))
      clear hx hsx
      obtain ⟨u1, hu1⟩ : ∃ u, u = wr := ⟨wr, rfl⟩
      subst hu1
      go_wp2_with fail
      go_loopw [7, 8] (fun a s wk => ∃ (k : Nat) (b : Bool), k ≤ O.length ∧ a = .int .i64 k ∧ s = .bool b ∧ Below u1.heap.size u1 wk ∧ (b = false → ∀ j q, j < k → (O.map PV.p)[j]? = some q → ¬ ahead (ts.map TV.t) x.p q ∧ x.p ≠ q) ∧ (b = true → ins (ts.map TV.t) x.p (O.map PV.p) = O.map PV.p)) (fun a _ _ => O.length - (intOf a).toNat)
      case atStart => exact ⟨0, false, by omega, rfl, rfl, Below.refl _ _, fun _ => by omega, by simp⟩
      case round =>
        obtain ⟨k, b, hk, rfl, rfl, hbk, hbf, hbt⟩ := hrel
        have HBK := Lib.hid hbk
        have HBF := Lib.hid hbf
        have HBT := Lib.hid hbt
        have hks := hbk.size
        clear hbk hbf hbt
        by_cases hkl : k < O.length
        ·
          have hki : (k : Int) < (O.length : Int) := by omega
          cases b
          · as_aux_lemma =>
            have HBF2 := Lib.hid (HBF.out rfl)
            clear HBF HBT
            obtain ⟨y, hy⟩ : ∃ y, O[k]? = some y := ⟨_, List.getElem?_eq_getElem hkl⟩
            have HY := Lib.hid hy
            obtain ⟨oad, rfl, _, hsy⟩ := HPO.out.six hy
            have HSY := Lib.hid hsy
            clear hy hsy
            go_wp2_with fail
            have Sp := HSX.out.at (HBw.out.trans (HBK.out.mono hbs)) (Nat.le_trans hbs hks)
            have p0 := fun V hV => (Sp V hV).1
            have p1 := fun V hV => (Sp V hV).2.1
            have p2 := fun V hV => (Sp V hV).2.2.1
            have p3 := fun V hV => (Sp V hV).2.2.2.1
            have p4 := fun V hV => (Sp V hV).2.2.2.2.1
            have p5 := fun V hV => (Sp V hV).2.2.2.2.2
            clear Sp
            have Sq := HSY.out.at HBK.out hks
            have q0 := fun V hV => (Sq V hV).1
            have q1 := fun V hV => (Sq V hV).2.1
            have q2 := fun V hV => (Sq V hV).2.2.1
            have q3 := fun V hV => (Sq V hV).2.2.2.1
            have q4 := fun V hV => (Sq V hV).2.2.2.2.1
            have q5 := fun V hV => (Sq V hV).2.2.2.2.2
            clear Sq
            refine wp_region_held_drew (S := fun w' => Below wr.heap.size wr w') (by kernel_rfl) (by exact (Below.refl _ _).drew) (fun hHeld => ?_)
            refine takeD 0 (some 15) (v := ?_) rfl rfl (by kernel_rfl) (by kernel_rfl) (by kernel_rfl) (fun _ _ _ h => h) (by rfl) ?_ (by assumption) ?_
            rotate_left
            · intro w hSw
              (try dsimp only at hSw)
              go_simp
              try with_reducible rfl
            try simp only [Act.put, List.setIfInBounds_toArray, List.set_cons_zero, List.set_cons_succ]
            refine takeD 1 (some 16) (v := ?_) rfl rfl (by kernel_rfl) (by kernel_rfl) (by kernel_rfl) (fun _ _ _ h => h) (by rfl) ?_ (by assumption) ?_
            rotate_left
            · intro w hSw
              (try dsimp only at hSw)
              go_simp
              try with_reducible rfl
            try simp only [Act.put, List.setIfInBounds_toArray, List.set_cons_zero, List.set_cons_succ]
            refine takeD 2 (some 17) (v := ?_) rfl rfl (by kernel_rfl) (by kernel_rfl) (by kernel_rfl) (fun _ _ _ h => h) (by rfl) ?_ (by assumption) ?_
            rotate_left
            · intro w hSw
              (try dsimp only at hSw)
              go_simp
              try with_reducible rfl
            try simp only [Act.put, List.setIfInBounds_toArray, List.set_cons_zero, List.set_cons_succ]
            refine takeD 3 (some 18) (v := ?_) rfl rfl (by kernel_rfl) (by kernel_rfl) (by kernel_rfl) (fun _ _ _ h => h) (by rfl) ?_ (by assumption) ?_
            rotate_left
            · intro w hSw
              (try dsimp only at hSw)
              go_simp
              try with_reducible rfl
            try simp only [Act.put, List.setIfInBounds_toArray, List.set_cons_zero, List.set_cons_succ]
            refine takeD 4 (some 19) (v := ?_) rfl rfl (by kernel_rfl) (by kernel_rfl) (by kernel_rfl) (fun _ _ _ h => h) (by rfl) ?_ (by assumption) ?_
            rotate_left
            · intro w hSw
              (try dsimp only at hSw)
              go_simp
              try with_reducible rfl
            try simp only [Act.put, List.setIfInBounds_toArray, List.set_cons_zero, List.set_cons_succ]
            refine takeD 5 (some 20) (v := ?_) rfl rfl (by kernel_rfl) (by kernel_rfl) (by kernel_rfl) (fun _ _ _ h => h) (by rfl) ?_ (by assumption) ?_
            rotate_left
            · intro w hSw
              (try dsimp only at hSw)
              go_simp
              try with_reducible rfl
            try simp only [Act.put, List.setIfInBounds_toArray, List.set_cons_zero, List.set_cons_succ]
            refine takeD 6 (some 21) (v := ?_) rfl rfl (by kernel_rfl) (by kernel_rfl) (by kernel_rfl) (fun _ _ _ h => h) (by rfl) ?_ (by assumption) ?_
            rotate_left
            · intro w hSw
              (try dsimp only at hSw)
              go_simp
              try with_reducible rfl
            try simp only [Act.put, List.setIfInBounds_toArray, List.set_cons_zero, List.set_cons_succ]
            refine takeD 7 (some 22) (v := ?_) rfl rfl (by kernel_rfl) (by kernel_rfl) (by kernel_rfl) (fun _ _ _ h => h) (by rfl) ?_ (by assumption) ?_
            rotate_left
            · intro w hSw
              (try dsimp only at hSw)
              go_simp
              try with_reducible rfl
            try simp only [Act.put, List.setIfInBounds_toArray, List.set_cons_zero, List.set_cons_succ]
            refine takeD 8 (some 23) (v := ?_) rfl rfl (by kernel_rfl) (by kernel_rfl) (by kernel_rfl) (fun _ _ _ h => h) (by rfl) ?_ (by assumption) ?_
            rotate_left
            · intro w hSw
              (try dsimp only at hSw)
              go_simp
              try with_reducible rfl
            try simp only [Act.put, List.setIfInBounds_toArray, List.set_cons_zero, List.set_cons_succ]
            refine takeD 9 (some 24) (v := ?_) rfl rfl (by kernel_rfl) (by kernel_rfl) (by kernel_rfl) (fun _ _ _ h => h) (by rfl) ?_ (by assumption) ?_
            rotate_left
            · intro w hSw
              (try dsimp only at hSw)
              go_simp
              try with_reducible rfl
            try simp only [Act.put, List.setIfInBounds_toArray, List.set_cons_zero, List.set_cons_succ]
            refine takeD 10 (some 25) (v := ?_) rfl rfl (by kernel_rfl) (by kernel_rfl) (by kernel_rfl) (fun _ _ _ h => h) (by rfl) ?_ (by assumption) ?_
            rotate_left
            · intro w hSw
              (try dsimp only at hSw)
              go_simp
              try with_reducible rfl
            try simp only [Act.put, List.setIfInBounds_toArray, List.set_cons_zero, List.set_cons_succ]
            refine takeD 11 (some 26) (v := ?_) rfl rfl (by kernel_rfl) (by kernel_rfl) (by kernel_rfl) (fun _ _ _ h => h) (by rfl) ?_ (by assumption) ?_
            rotate_left
            · intro w hSw
              (try dsimp only at hSw)
              go_simp
              try with_reducible rfl
            try simp only [Act.put, List.setIfInBounds_toArray, List.set_cons_zero, List.set_cons_succ]
            refine takeD 12 (some 27) (v := ?_) rfl rfl (by kernel_rfl) (by kernel_rfl) (by kernel_rfl) (fun _ _ _ h => h) (by rfl) ?_ (by assumption) ?_
            rotate_left
            · intro w hSw
              (try dsimp only at hSw)
              go_simp
              try with_reducible rfl
            try simp only [Act.put, List.setIfInBounds_toArray, List.set_cons_zero, List.set_cons_succ]
            refine takeD 13 (some 28) (v := ?_) rfl rfl (by kernel_rfl) (by kernel_rfl) (by kernel_rfl) (fun _ _ _ h => h) (by rfl) ?_ (by assumption) ?_
            rotate_left
            · intro w hSw
              (try dsimp only at hSw)
              go_simp
              try with_reducible rfl
            try simp only [Act.put, List.setIfInBounds_toArray, List.set_cons_zero, List.set_cons_succ]
            refine takeD 14 (some 29) (v := ?_) rfl rfl (by kernel_rfl) (by kernel_rfl) (by kernel_rfl) (fun _ _ _ h => h) (by rfl) ?_ (by assumption) ?_
            rotate_left
            · intro w hSw
              (try dsimp only at hSw)
              go_simp
              try with_reducible rfl
            try simp only [Act.put, List.setIfInBounds_toArray, List.set_cons_zero, List.set_cons_succ]
            refine takeD 15 (some 30) (v := ?_) rfl rfl (by kernel_rfl) (by kernel_rfl) (by kernel_rfl) (fun _ _ _ h => h) (by rfl) ?_ (by assumption) ?_
            rotate_left
            · intro w hSw
              (try dsimp only at hSw)
              go_simp
              try with_reducible rfl
            try simp only [Act.put, List.setIfInBounds_toArray, List.set_cons_zero, List.set_cons_succ]
            refine takeD 16 (some 31) (v := ?_) rfl rfl (by kernel_rfl) (by kernel_rfl) (by kernel_rfl) (fun _ _ _ h => h) (by rfl) ?_ (by assumption) ?_
            rotate_left
            · intro w hSw
              (try dsimp only at hSw)
              go_simp
              try with_reducible rfl
            try simp only [Act.put, List.setIfInBounds_toArray, List.set_cons_zero, List.set_cons_succ]
            refine takeD 17 (some 32) (v := ?_) rfl rfl (by kernel_rfl) (by kernel_rfl) (by kernel_rfl) (fun _ _ _ h => h) (by rfl) ?_ (by assumption) ?_
            rotate_left
            · intro w hSw
              (try dsimp only at hSw)
              go_simp
              try with_reducible rfl
            try simp only [Act.put, List.setIfInBounds_toArray, List.set_cons_zero, List.set_cons_succ]
            refine wpAnyH_ready (rs := [18]) (by kernel_rfl) (by simp) ?_
            refine AllReadyH.cons rfl (fun K hK => ?_) AllReadyH.nil
            rw [if_pos (by rfl)]
            go_simp
            go_at_call 15
            refine (rahead_any vt ts x y _ (HT.out.below ((HBw.out.trans (HBK.out.mono hbs)).trans (hHeld.mono (Nat.le_trans hbs hks)))) ((HP.out.2.2 x (List.mem_of_getElem? HX.out)).below ((HBw.out.trans (HBK.out.mono hbs)).trans (hHeld.mono (Nat.le_trans hbs hks)))) ((HPO.out.2.2 y (List.mem_of_getElem? HY.out)).below (HBK.out.trans (hHeld.mono hks))) HXr.out (HRi.out y (HOO.out.2 y (List.mem_of_getElem? HY.out))) HTk.out).mono ?_
            rintro e V1 ⟨rfl, hk⟩
            obtain ⟨r, hr⟩ : ∃ r, r = decide (ahead (ts.map TV.t) x.p y.p) := ⟨_, rfl⟩
            rw [← hr]
            have HRA := Lib.hid hr
            clear hr
            go_wp2_with fail
            refine hK.out _ _ ?_ (fun hHeld2 => ?_)
            · first | exact hHeld.trans (hk.mono hHeld.size) | (clear hK; have hz := hHeld.size; exact (Below.refl _ _).drew)
            clear hK K hHeld
            have hHeld := hHeld2
            clear hHeld2
            try clear hk
            try simp only [Act.put, List.setIfInBounds_toArray, List.set_cons_zero, List.set_cons_succ]
            refine takeD 19 (some 34) (v := ?_) rfl rfl (by kernel_rfl) (by kernel_rfl) (by kernel_rfl) (fun _ _ _ h => h) (by rfl) ?_ (by assumption) ?_
            rotate_left
            · intro w hSw
              (try dsimp only at hSw)
              go_simp
              try with_reducible rfl
            try simp only [Act.put, List.setIfInBounds_toArray, List.set_cons_zero, List.set_cons_succ]
            refine takeD 20 (some 35) (v := ?_) rfl rfl (by kernel_rfl) (by kernel_rfl) (by kernel_rfl) (fun _ _ _ h => h) (by rfl) ?_ (by assumption) ?_
            rotate_left
            · intro w hSw
              (try dsimp only at hSw)
              go_simp
              try with_reducible rfl
            try simp only [Act.put, List.setIfInBounds_toArray, List.set_cons_zero, List.set_cons_succ]
            refine wpAnyH_done (by kernel_rfl) ?_ _
            have HF := Lib.hid hHeld
            clear hHeld p0 p1 p2 p3 p4 p5 q0 q1 q2 q3 q4 q5
            have HBK2 := Lib.hid (Btrans HBK.out HF.out)
            clear HBK HF
            cases r
            · as_aux_lemma =>
              have HNA := Lib.hid (of_decide_eq_false HRA.out.symm)
              refine nameV (fun W => Below u1.heap.size u1 W) HBK2.out fun W5 hb5 => ?_
              have HB5 := Lib.hid hb5
              have h5s := hb5.size
              clear hb5 HBK2
              go_wp2_with fail
              have Sp := HSX.out.at (HBw.out.trans (HB5.out.mono hbs)) (Nat.le_trans hbs h5s)
              have p0 := fun V hV => (Sp V hV).1
              have p1 := fun V hV => (Sp V hV).2.1
              have p2 := fun V hV => (Sp V hV).2.2.1
              have p3 := fun V hV => (Sp V hV).2.2.2.1
              have p4 := fun V hV => (Sp V hV).2.2.2.2.1
              have p5 := fun V hV => (Sp V hV).2.2.2.2.2
              clear Sp
              have Sq := HSY.out.at HB5.out h5s
              have q0 := fun V hV => (Sq V hV).1
              have q1 := fun V hV => (Sq V hV).2.1
              have q2 := fun V hV => (Sq V hV).2.2.1
              have q3 := fun V hV => (Sq V hV).2.2.2.1
              have q4 := fun V hV => (Sq V hV).2.2.2.2.1
              have q5 := fun V hV => (Sq V hV).2.2.2.2.2
              clear Sq
              refine wp_region_held_drew (S := fun w' => Below W5.heap.size W5 w') (by kernel_rfl) (by exact (Below.refl _ _).drew) (fun hHeld => ?_)
              refine takeD 0 (some 36) (v := ?_) rfl rfl (by kernel_rfl) (by kernel_rfl) (by kernel_rfl) (fun _ _ _ h => h) (by rfl) ?_ (by assumption) ?_
              rotate_left
              · intro w hSw
                (try dsimp only at hSw)
                go_simp
                try with_reducible rfl
              try simp only [Act.put, List.setIfInBounds_toArray, List.set_cons_zero, List.set_cons_succ]
              refine takeD 1 (some 37) (v := ?_) rfl rfl (by kernel_rfl) (by kernel_rfl) (by kernel_rfl) (fun _ _ _ h => h) (by rfl) ?_ (by assumption) ?_
              rotate_left
              · intro w hSw
                (try dsimp only at hSw)
                go_simp
                try with_reducible rfl
              try simp only [Act.put, List.setIfInBounds_toArray, List.set_cons_zero, List.set_cons_succ]
              refine takeD 2 (some 38) (v := ?_) rfl rfl (by kernel_rfl) (by kernel_rfl) (by kernel_rfl) (fun _ _ _ h => h) (by rfl) ?_ (by assumption) ?_
              rotate_left
              · intro w hSw
                (try dsimp only at hSw)
                go_simp
                try with_reducible rfl
              try simp only [Act.put, List.setIfInBounds_toArray, List.set_cons_zero, List.set_cons_succ]
              refine takeD 3 (some 39) (v := ?_) rfl rfl (by kernel_rfl) (by kernel_rfl) (by kernel_rfl) (fun _ _ _ h => h) (by rfl) ?_ (by assumption) ?_
              rotate_left
              · intro w hSw
                (try dsimp only at hSw)
                go_simp
                try with_reducible rfl
              try simp only [Act.put, List.setIfInBounds_toArray, List.set_cons_zero, List.set_cons_succ]
              refine takeD 4 (some 40) (v := ?_) rfl rfl (by kernel_rfl) (by kernel_rfl) (by kernel_rfl) (fun _ _ _ h => h) (by rfl) ?_ (by assumption) ?_
              rotate_left
              · intro w hSw
                (try dsimp only at hSw)
                go_simp
                try with_reducible rfl
              try simp only [Act.put, List.setIfInBounds_toArray, List.set_cons_zero, List.set_cons_succ]
              refine takeD 5 (some 41) (v := ?_) rfl rfl (by kernel_rfl) (by kernel_rfl) (by kernel_rfl) (fun _ _ _ h => h) (by rfl) ?_ (by assumption) ?_
              rotate_left
              · intro w hSw
                (try dsimp only at hSw)
                go_simp
                try with_reducible rfl
              try simp only [Act.put, List.setIfInBounds_toArray, List.set_cons_zero, List.set_cons_succ]
              refine takeD 6 (some 42) (v := ?_) rfl rfl (by kernel_rfl) (by kernel_rfl) (by kernel_rfl) (fun _ _ _ h => h) (by rfl) ?_ (by assumption) ?_
              rotate_left
              · intro w hSw
                (try dsimp only at hSw)
                go_simp
                try with_reducible rfl
              try simp only [Act.put, List.setIfInBounds_toArray, List.set_cons_zero, List.set_cons_succ]
              refine takeD 7 (some 43) (v := ?_) rfl rfl (by kernel_rfl) (by kernel_rfl) (by kernel_rfl) (fun _ _ _ h => h) (by rfl) ?_ (by assumption) ?_
              rotate_left
              · intro w hSw
                (try dsimp only at hSw)
                go_simp
                try with_reducible rfl
              try simp only [Act.put, List.setIfInBounds_toArray, List.set_cons_zero, List.set_cons_succ]
              refine wpAnyH_ready (rs := [8]) (by kernel_rfl) (by simp) ?_
              refine AllReadyH.cons rfl (fun K hK => ?_) AllReadyH.nil
              rw [if_pos (by rfl)]
              go_simp
              go_at_call 16
              refine (same_pk (.agg #[.int .i64 x.p.dev, .int .i64 x.p.chan, .int .i64 x.p.boot, .int .i64 x.p.seq, .int .i64 x.p.stamp, .slice x.A x.p.vals.length x.c]) (.agg #[.int .i64 y.p.dev, .int .i64 y.p.chan, .int .i64 y.p.boot, .int .i64 y.p.seq, .int .i64 y.p.stamp, .slice y.A y.p.vals.length y.c]) x.p y.p _ ⟨x.vs, rfl, (HP.out.2.2 x (List.mem_of_getElem? HX.out)).below ((HBw.out.trans (HB5.out.mono hbs)).trans (hHeld.mono (Nat.le_trans hbs h5s)))⟩ ⟨y.vs, rfl, (HPO.out.2.2 y (List.mem_of_getElem? HY.out)).below (HB5.out.trans (hHeld.mono h5s))⟩).mono ?_
              rintro e V1 ⟨rfl, hk⟩
              obtain ⟨r, hr⟩ : ∃ r, r = decide (x.p = y.p) := ⟨_, rfl⟩
              rw [← hr]
              have HRS := Lib.hid hr
              clear hr
              go_wp2_with fail
              refine hK.out _ _ ?_ (fun hHeld2 => ?_)
              · first | exact hHeld.trans (hk.mono hHeld.size) | (clear hK; have hz := hHeld.size; exact (Below.refl _ _).drew)
              clear hK K hHeld
              have hHeld := hHeld2
              clear hHeld2
              try clear hk
              try simp only [Act.put, List.setIfInBounds_toArray, List.set_cons_zero, List.set_cons_succ]
              refine takeD 9 (some 8) (v := ?_) rfl rfl (by kernel_rfl) (by kernel_rfl) (by kernel_rfl) (fun _ _ _ h => h) (by rfl) ?_ (by assumption) ?_
              rotate_left
              · intro w hSw
                (try dsimp only at hSw)
                go_simp
                try with_reducible rfl
              try simp only [Act.put, List.setIfInBounds_toArray, List.set_cons_zero, List.set_cons_succ]
              refine wpAnyH_done (by kernel_rfl) ?_ _
              have HF := Lib.hid hHeld
              clear hHeld p0 p1 p2 p3 p4 p5 q0 q1 q2 q3 q4 q5
              go_wp2
              go_roundw
              case rel => exact ⟨k + 1, r, by omega, by go_num, rfl, Btrans HB5.out HF.out, fun hrf j q hj hq => by
                by_cases e : j = k
                · subst e
                  rw [List.getElem?_map, HY.out] at hq
                  injection hq with hq
                  subst hq
                  exact ⟨HNA.out, of_decide_eq_false (HRS.out.symm.trans hrf)⟩
                · exact HBF2.out j q (by omega) hq, fun hrt => by
                have he := of_decide_eq_true (HRS.out.symm.trans hrt)
                refine ins_known (k := k) (by rw [List.length_map]; omega) HBF2.out ?_ ahead_irrefl
                rw [List.getElem?_map, HY.out, he]
                rfl⟩
              case measure => simp [intOf]; omega
            · as_aux_lemma =>
              have HA9 := Lib.hid (of_decide_eq_true HRA.out.symm)
              have HBK := Lib.hid HBK2.out
              clear HBK2
              go_wp2_with fail
              refine wp_world (fun W => Below w.heap.size w W ∧ W.ownsRow w.heap.size 31 6 (.slice (some oad) O.length oc) O.length (tk f6 O)) ⟨HBw.out.trans (HBK.out.mono HBw.out.size), own_below HOw.out HBK.out⟩ fun W0 ⟨hb0, ho0⟩ => ?_
              have HB0 := Lib.hid hb0
              have HO0 := Lib.hid ho0
              have HPRE := Lib.hid (show RowN 6 W0 (.slice (some oad) k oc) k (tk f6 (O.take k)) by rw [tk_take f6_len]; exact (RowN.of_own ho0).pre hk)
              clear hb0 ho0
              have hki : (k : Int) ≤ (oc : Int) := by omega
              have hkn : (k : Int) ≤ (O.length : Int) := by omega
              by_cases hkc : oc = k
              · as_aux_lemma =>
                have HSUF := Lib.hid (show RowN 6 W0 (.slice (some oad) 0 0) 0 (tk f6 (O.drop k)) by
                  rw [List.drop_of_length_le (by omega)]
                  have h0 := (RowN.of_own HO0.out).pre (Nat.zero_le O.length)
                  obtain ⟨q0, A9, c9, q1, q2, q3, q4⟩ := h0
                  injection q1 with q1 _ q5
                  subst q1 q5
                  refine ⟨by simp [tk], (some oad), 0, rfl, Nat.zero_le _, by omega, ?_⟩
                  rcases q4 with ⟨q4, q5⟩ | ⟨ad9, q4, _⟩
                  · exact .inl ⟨q4, rfl⟩
                  · exact .inr ⟨ad9, q4, fun h => by simp [tk] at h, fun i u hu => by simp [tk] at hu⟩)
                have hko : O.length - k = 0 := by omega
                have hkq : k = oc := hkc.symm
                clear hkc
                subst hkq
                have hbW := (Below.refl W0.heap.size W0)
                have Sz := HSX.out.at HB0.out HB0.out.size
                have z0 := fun V hV => (Sz V hV).1
                have z1 := fun V hV => (Sz V hV).2.1
                have z2 := fun V hV => (Sz V hV).2.2.1
                have z3 := fun V hV => (Sz V hV).2.2.2.1
                have z4 := fun V hV => (Sz V hV).2.2.2.2.1
                have z5 := fun V hV => (Sz V hV).2.2.2.2.2
                clear Sz
                refine wp_region_held_drew (S := fun W => Below W0.heap.size W0 W) (by kernel_rfl) ((Below.refl W0.heap.size W0).drew) (fun hHeld => ?_)
                refine takeD 1 (some 50) (v := ?_) rfl rfl (by kernel_rfl) (by kernel_rfl) (by kernel_rfl) (fun _ _ _ h => h) (by rfl) ?_ (by assumption) ?_
                rotate_left
                · intro w hSw
                  (try dsimp only at hSw)
                  go_simp
                  try with_reducible rfl
                try simp only [Act.put, List.setIfInBounds_toArray, List.set_cons_zero, List.set_cons_succ]
                refine takeD 2 (some 51) (v := ?_) rfl rfl (by kernel_rfl) (by kernel_rfl) (by kernel_rfl) (fun _ _ _ h => h) (by rfl) ?_ (by assumption) ?_
                rotate_left
                · intro w hSw
                  (try dsimp only at hSw)
                  go_simp
                  try with_reducible rfl
                try simp only [Act.put, List.setIfInBounds_toArray, List.set_cons_zero, List.set_cons_succ]
                refine takeD 3 (some 52) (v := ?_) rfl rfl (by kernel_rfl) (by kernel_rfl) (by kernel_rfl) (fun _ _ _ h => h) (by rfl) ?_ (by assumption) ?_
                rotate_left
                · intro w hSw
                  (try dsimp only at hSw)
                  go_simp
                  try with_reducible rfl
                try simp only [Act.put, List.setIfInBounds_toArray, List.set_cons_zero, List.set_cons_succ]
                refine takeD 5 (some 54) (v := ?_) rfl rfl (by kernel_rfl) (by kernel_rfl) (by kernel_rfl) (fun _ _ _ h => h) (by rfl) ?_ (by assumption) ?_
                rotate_left
                · intro w hSw
                  (try dsimp only at hSw)
                  go_simp
                  try with_reducible rfl
                try simp only [Act.put, List.setIfInBounds_toArray, List.set_cons_zero, List.set_cons_succ]
                refine takeD 6 (some 55) (v := ?_) rfl rfl (by kernel_rfl) (by kernel_rfl) (by kernel_rfl) (fun _ _ _ h => h) (by rfl) ?_ (by assumption) ?_
                rotate_left
                · intro w hSw
                  (try dsimp only at hSw)
                  go_simp
                  try with_reducible rfl
                try simp only [Act.put, List.setIfInBounds_toArray, List.set_cons_zero, List.set_cons_succ]
                refine takeD 7 (some 56) (v := ?_) rfl rfl (by kernel_rfl) (by kernel_rfl) (by kernel_rfl) (fun _ _ _ h => h) (by rfl) ?_ (by assumption) ?_
                rotate_left
                · intro w hSw
                  (try dsimp only at hSw)
                  go_simp
                  try with_reducible rfl
                try simp only [Act.put, List.setIfInBounds_toArray, List.set_cons_zero, List.set_cons_succ]
                refine takeD 8 (some 57) (v := ?_) rfl rfl (by kernel_rfl) (by kernel_rfl) (by kernel_rfl) (fun _ _ _ h => h) (by rfl) ?_ (by assumption) ?_
                rotate_left
                · intro w hSw
                  (try dsimp only at hSw)
                  go_simp
                  try with_reducible rfl
                try simp only [Act.put, List.setIfInBounds_toArray, List.set_cons_zero, List.set_cons_succ]
                refine takeD 11 (some 60) (v := ?_) rfl rfl (by kernel_rfl) (by kernel_rfl) (by kernel_rfl) (fun _ _ _ h => h) (by rfl) ?_ (by assumption) ?_
                rotate_left
                · intro w hSw
                  (try dsimp only at hSw)
                  go_simp
                  try with_reducible rfl
                try simp only [Act.put, List.setIfInBounds_toArray, List.set_cons_zero, List.set_cons_succ]
                refine takeD 12 (some 61) (v := ?_) rfl rfl (by kernel_rfl) (by kernel_rfl) (by kernel_rfl) (fun _ _ _ h => h) (by rfl) ?_ (by assumption) ?_
                rotate_left
                · intro w hSw
                  (try dsimp only at hSw)
                  go_simp
                  try with_reducible rfl
                try simp only [Act.put, List.setIfInBounds_toArray, List.set_cons_zero, List.set_cons_succ]
                refine takeD 13 (some 62) (v := ?_) rfl rfl (by kernel_rfl) (by kernel_rfl) (by kernel_rfl) (fun _ _ _ h => h) (by rfl) ?_ (by assumption) ?_
                rotate_left
                · intro w hSw
                  (try dsimp only at hSw)
                  go_simp
                  try with_reducible rfl
                try simp only [Act.put, List.setIfInBounds_toArray, List.set_cons_zero, List.set_cons_succ]
                refine wpAnyH_ready (rs := [0, 9]) (by kernel_rfl) (by simp) ?_
                refine AllReadyH.cons rfl (fun K hK => ?_) (AllReadyH.cons rfl (fun K hK => ?_) AllReadyH.nil)
                · rw [if_pos (by rfl)]
                  go_simp
                  refine nameV (fun V1 => Below W0.heap.size W0 V1 ∧ World.ownsRow V1 W0.heap.size 31 6 (.slice (some ⟨W0.heap.size, 0, none⟩) 0 0) 0 []) ⟨(hbW.alloc hbW.size _).drew, (World.ownsRow.drew (own_emptyN _ _ _ _ _ hbW.size rfl))⟩ fun V1 ⟨hbW2, qHC⟩ => ?_
                  have hbW := hbW2
                  clear hbW2
                  have HC := Lib.hid qHC
                  clear qHC
                  have hS := hbW
                  refine hK.out _ _ ?_ (fun hHeld2 => ?_)
                  · clear hK; exact hS
                  clear hK K hHeld hS
                  have hHeld := hHeld2
                  clear hHeld2
                  try simp only [Act.put, List.setIfInBounds_toArray, List.set_cons_zero, List.set_cons_succ]
                  refine wpAnyH_ready (rs := [4, 9]) (by kernel_rfl) (by simp) ?_
                  refine AllReadyH.cons rfl (fun K hK => ?_) (AllReadyH.cons rfl (fun K hK => ?_) AllReadyH.nil)
                  · rw [if_pos (by rfl)]
                    refine wp_appN elPk (.tmp 49) (.tmp 52) rfl W0.heap.size _ 0 [] rfl HC.out _ k (tk f6 (O.take k)) rfl (HPRE.out.below hbW) (tk_all f6_one _) (by unfold maxLen; omega) (by omega) hbW.size ?_
                    intro v2 V2 hO hg hor
                    have hbW2 := below_app hbW hbW.size HC.out hg (Nat.le_refl _)
                    clear HC
                    have HC := Lib.hid hO
                    clear hO hg hor hbW
                    have hbW := hbW2
                    clear hbW2
                    have hS := hbW
                    refine hK.out _ _ ?_ (fun hHeld2 => ?_)
                    · clear hK; exact hS
                    clear hK K hHeld hS
                    have hHeld := hHeld2
                    clear hHeld2
                    try simp only [Act.put, List.setIfInBounds_toArray, List.set_cons_zero, List.set_cons_succ]
                    refine wpAnyH_ready (rs := [9]) (by kernel_rfl) (by simp) ?_
                    refine AllReadyH.cons rfl (fun K hK => ?_) AllReadyH.nil
                    rw [if_pos (by rfl)]
                    refine wp_one6 (by rfl) ?_
                    have HNE := Lib.hid (show some V2.heap.size ≠ Value.ownBlock v2 from ne_some HC.out rfl)
                    refine nameV (fun V3 => Below W0.heap.size W0 V3 ∧ World.ownsRow V3 W0.heap.size 31 6 v2 (0 + k) ([] ++ tk f6 (O.take k)) ∧ Blk V3 V2.heap.size 31 #[.int .i64 x.p.dev, .int .i64 x.p.chan, .int .i64 x.p.boot, .int .i64 x.p.seq, .int .i64 x.p.stamp, .slice x.A x.p.vals.length x.c]) ⟨hbW.alloc hbW.size _, (own_below HC.out ((Below.refl _ _).alloc (Nat.le_refl _) _)), (Blk.new _ _ _ _ rfl)⟩ fun V3 ⟨hbW2, qHC, qHN⟩ => ?_
                    clear HC
                    have hbW := hbW2
                    clear hbW2
                    have HC := Lib.hid qHC
                    clear qHC
                    have HN := Lib.hid qHN
                    clear qHN
                    have hS := hbW
                    refine hK.out _ _ ?_ (fun hHeld2 => ?_)
                    · clear hK; exact hS
                    clear hK K hHeld hS
                    have hHeld := hHeld2
                    clear hHeld2
                    try simp only [Act.put, List.setIfInBounds_toArray, List.set_cons_zero, List.set_cons_succ]
                    refine wpAnyH_ready (rs := [10]) (by kernel_rfl) (by simp) ?_
                    refine AllReadyH.cons rfl (fun K hK => ?_) AllReadyH.nil
                    rw [if_pos (by rfl)]
                    refine wp_appN elPk (.tmp 53) (.tmp 58) rfl W0.heap.size _ (0 + k) ([] ++ tk f6 (O.take k)) rfl HC.out _ 1 (f6 x) rfl (RowN.of_blk HN.out rfl rfl (Nat.le_refl _) (by decide)) (f6_one _) (by unfold maxLen; omega) (by omega) hbW.size ?_
                    intro v3 V4 hO hg hor
                    have hbW2 := below_app hbW hbW.size HC.out hg (Nat.le_refl _)
                    clear HC
                    have HC := Lib.hid hO
                    clear hO hg hor hbW
                    have hbW := hbW2
                    clear hbW2
                    have hS := hbW
                    refine hK.out _ _ ?_ (fun hHeld2 => ?_)
                    · clear hK; exact hS
                    clear hK K hHeld hS
                    have hHeld := hHeld2
                    clear hHeld2
                    try simp only [Act.put, List.setIfInBounds_toArray, List.set_cons_zero, List.set_cons_succ]
                    refine wpAnyH_ready (rs := [14]) (by kernel_rfl) (by simp) ?_
                    refine AllReadyH.cons rfl (fun K hK => ?_) AllReadyH.nil
                    rw [if_pos (by rfl)]
                    refine wp_appN elPk (.tmp 59) (.tmp 62) rfl W0.heap.size _ (0 + k + 1) ([] ++ tk f6 (O.take k) ++ f6 x) rfl HC.out _ 0 (tk f6 (O.drop k)) rfl (HSUF.out.below hbW) (tk_all f6_one _) (by unfold maxLen; omega) (by omega) hbW.size ?_
                    intro v4 V5 hO hg hor
                    have hbW2 := below_app hbW hbW.size HC.out hg (Nat.le_refl _)
                    clear HC
                    have HC := Lib.hid hO
                    clear hO hg hor hbW
                    have hbW := hbW2
                    clear hbW2
                    have hS := hbW
                    refine hK.out _ _ ?_ (fun hHeld2 => ?_)
                    · clear hK; exact hS
                    clear hK K hHeld hS
                    have hHeld := hHeld2
                    clear hHeld2
                    try simp only [Act.put, List.setIfInBounds_toArray, List.set_cons_zero, List.set_cons_succ]
                    refine takeD 15 (some 5) (v := ?_) rfl rfl (by kernel_rfl) (by kernel_rfl) (by kernel_rfl) (fun _ _ _ h => h) (by rfl) ?_ (by assumption) ?_
                    rotate_left
                    · intro w hSw
                      (try dsimp only at hSw)
                      go_simp
                      try with_reducible rfl
                    try simp only [Act.put, List.setIfInBounds_toArray, List.set_cons_zero, List.set_cons_succ]
                    refine wpAnyH_done (by kernel_rfl) ?_ _
                    have HBW := Lib.hid hbW
                    clear hHeld hbW
                    have HEQ := Lib.hid (ins_put (ts := (ts.map TV.t)) (x := x) (O := O) (k := k) hk HBF2.out (.inr ⟨y, HY.out, HA9.out⟩))
                    obtain ⟨n9, hn9⟩ : ∃ n, n = 0 + k + 1 + 0 := ⟨_, rfl⟩
                    have HC9 := HC.out
                    clear HC
                    rw [← hn9] at HC9
                    have HN9 := Lib.hid hn9
                    clear hn9
                    obtain ⟨A4, c4, rfl, _⟩ := own_shapeX HC9
                    have HC := Lib.hid HC9
                    clear HC9
                    go_wp2
                    go_roundw
                    case rel => exact ⟨j + 1, O.take k ++ [x] ++ O.drop k, by omega, by go_num, HB0.out.trans (HBW.out.mono HB0.out.size), by
                      have h9 := own_mono HC.out HB0.out.size
                      have e1 : n9 = (O.take k ++ [x] ++ O.drop k).length := by
                        rw [HN9.out, List.length_append, List.length_append, List.length_take, List.length_drop, List.length_singleton]
                        omega
                      rw [List.nil_append, ← tk_one (f := f6) x, ← tk_app, ← tk_app] at h9
                      rw [← e1]
                      exact h9, by
                      rw [HTJ.out, show List.map PV.p (List.take j l ++ [x]) = List.map PV.p (List.take j l) ++ [x.p] from by rw [List.map_append, List.map_singleton], ordR_snoc, ← HOO.out.1]
                      exact HEQ.out, by
                      intro z hz
                      rcases List.mem_append.1 hz with hz | hz
                      · rcases List.mem_append.1 hz with hz | hz
                        · exact HOO.out.2 z (List.mem_of_mem_take hz)
                        · simp at hz
                          subst hz
                          exact List.mem_of_getElem? HX.out
                      · exact HOO.out.2 z (List.mem_of_mem_drop hz)⟩
                    case measure => simp [intOf]; omega
                  · rw [if_pos (by rfl)]
                    refine wp_one6 (by rfl) ?_
                    have HNE := Lib.hid (show some V1.heap.size ≠ Value.ownBlock (.slice (some ⟨W0.heap.size, 0, none⟩) 0 0) from ne_some HC.out rfl)
                    refine nameV (fun V2 => Below W0.heap.size W0 V2 ∧ World.ownsRow V2 W0.heap.size 31 6 (.slice (some ⟨W0.heap.size, 0, none⟩) 0 0) 0 [] ∧ Blk V2 V1.heap.size 31 #[.int .i64 x.p.dev, .int .i64 x.p.chan, .int .i64 x.p.boot, .int .i64 x.p.seq, .int .i64 x.p.stamp, .slice x.A x.p.vals.length x.c]) ⟨hbW.alloc hbW.size _, (own_below HC.out ((Below.refl _ _).alloc (Nat.le_refl _) _)), (Blk.new _ _ _ _ rfl)⟩ fun V2 ⟨hbW2, qHC, qHN⟩ => ?_
                    clear HC
                    have hbW := hbW2
                    clear hbW2
                    have HC := Lib.hid qHC
                    clear qHC
                    have HN := Lib.hid qHN
                    clear qHN
                    have hS := hbW
                    refine hK.out _ _ ?_ (fun hHeld2 => ?_)
                    · clear hK; exact hS
                    clear hK K hHeld hS
                    have hHeld := hHeld2
                    clear hHeld2
                    try simp only [Act.put, List.setIfInBounds_toArray, List.set_cons_zero, List.set_cons_succ]
                    refine wpAnyH_ready (rs := [4]) (by kernel_rfl) (by simp) ?_
                    refine AllReadyH.cons rfl (fun K hK => ?_) AllReadyH.nil
                    rw [if_pos (by rfl)]
                    refine wp_appN elPk (.tmp 49) (.tmp 52) rfl W0.heap.size _ 0 [] rfl HC.out _ k (tk f6 (O.take k)) rfl (HPRE.out.below hbW) (tk_all f6_one _) (by unfold maxLen; omega) (by omega) hbW.size ?_
                    intro v2 V3 hO hg hor
                    have hbW2 := below_app hbW hbW.size HC.out hg (Nat.le_refl _)
                    have HN2 := Lib.hid (show Blk _ _ _ _ from (hg.block _ HN.out.lt HNE.out).trans HN.out)
                    have HNE2 := Lib.hid (show some V1.heap.size ≠ Value.ownBlock v2 by rcases hor with e | e <;> rw [e] <;> first | exact HNE.out | (intro he; injection he with he; have := HN.out.lt; omega))
                    clear HN HNE
                    have HN := Lib.hid HN2.out
                    have HNE := Lib.hid HNE2.out
                    clear HN2 HNE2
                    clear HC
                    have HC := Lib.hid hO
                    clear hO hg hor hbW
                    have hbW := hbW2
                    clear hbW2
                    have hS := hbW
                    refine hK.out _ _ ?_ (fun hHeld2 => ?_)
                    · clear hK; exact hS
                    clear hK K hHeld hS
                    have hHeld := hHeld2
                    clear hHeld2
                    try simp only [Act.put, List.setIfInBounds_toArray, List.set_cons_zero, List.set_cons_succ]
                    refine wpAnyH_ready (rs := [10]) (by kernel_rfl) (by simp) ?_
                    refine AllReadyH.cons rfl (fun K hK => ?_) AllReadyH.nil
                    rw [if_pos (by rfl)]
                    refine wp_appN elPk (.tmp 53) (.tmp 58) rfl W0.heap.size _ (0 + k) ([] ++ tk f6 (O.take k)) rfl HC.out _ 1 (f6 x) rfl (RowN.of_blk HN.out rfl rfl (Nat.le_refl _) (by decide)) (f6_one _) (by unfold maxLen; omega) (by omega) hbW.size ?_
                    intro v3 V4 hO hg hor
                    have hbW2 := below_app hbW hbW.size HC.out hg (Nat.le_refl _)
                    clear HC
                    have HC := Lib.hid hO
                    clear hO hg hor hbW
                    have hbW := hbW2
                    clear hbW2
                    have hS := hbW
                    refine hK.out _ _ ?_ (fun hHeld2 => ?_)
                    · clear hK; exact hS
                    clear hK K hHeld hS
                    have hHeld := hHeld2
                    clear hHeld2
                    try simp only [Act.put, List.setIfInBounds_toArray, List.set_cons_zero, List.set_cons_succ]
                    refine wpAnyH_ready (rs := [14]) (by kernel_rfl) (by simp) ?_
                    refine AllReadyH.cons rfl (fun K hK => ?_) AllReadyH.nil
                    rw [if_pos (by rfl)]
                    refine wp_appN elPk (.tmp 59) (.tmp 62) rfl W0.heap.size _ (0 + k + 1) ([] ++ tk f6 (O.take k) ++ f6 x) rfl HC.out _ 0 (tk f6 (O.drop k)) rfl (HSUF.out.below hbW) (tk_all f6_one _) (by unfold maxLen; omega) (by omega) hbW.size ?_
                    intro v4 V5 hO hg hor
                    have hbW2 := below_app hbW hbW.size HC.out hg (Nat.le_refl _)
                    clear HC
                    have HC := Lib.hid hO
                    clear hO hg hor hbW
                    have hbW := hbW2
                    clear hbW2
                    have hS := hbW
                    refine hK.out _ _ ?_ (fun hHeld2 => ?_)
                    · clear hK; exact hS
                    clear hK K hHeld hS
                    have hHeld := hHeld2
                    clear hHeld2
                    try simp only [Act.put, List.setIfInBounds_toArray, List.set_cons_zero, List.set_cons_succ]
                    refine takeD 15 (some 5) (v := ?_) rfl rfl (by kernel_rfl) (by kernel_rfl) (by kernel_rfl) (fun _ _ _ h => h) (by rfl) ?_ (by assumption) ?_
                    rotate_left
                    · intro w hSw
                      (try dsimp only at hSw)
                      go_simp
                      try with_reducible rfl
                    try simp only [Act.put, List.setIfInBounds_toArray, List.set_cons_zero, List.set_cons_succ]
                    refine wpAnyH_done (by kernel_rfl) ?_ _
                    have HBW := Lib.hid hbW
                    clear hHeld hbW
                    have HEQ := Lib.hid (ins_put (ts := (ts.map TV.t)) (x := x) (O := O) (k := k) hk HBF2.out (.inr ⟨y, HY.out, HA9.out⟩))
                    obtain ⟨n9, hn9⟩ : ∃ n, n = 0 + k + 1 + 0 := ⟨_, rfl⟩
                    have HC9 := HC.out
                    clear HC
                    rw [← hn9] at HC9
                    have HN9 := Lib.hid hn9
                    clear hn9
                    obtain ⟨A4, c4, rfl, _⟩ := own_shapeX HC9
                    have HC := Lib.hid HC9
                    clear HC9
                    go_wp2
                    go_roundw
                    case rel => exact ⟨j + 1, O.take k ++ [x] ++ O.drop k, by omega, by go_num, HB0.out.trans (HBW.out.mono HB0.out.size), by
                      have h9 := own_mono HC.out HB0.out.size
                      have e1 : n9 = (O.take k ++ [x] ++ O.drop k).length := by
                        rw [HN9.out, List.length_append, List.length_append, List.length_take, List.length_drop, List.length_singleton]
                        omega
                      rw [List.nil_append, ← tk_one (f := f6) x, ← tk_app, ← tk_app] at h9
                      rw [← e1]
                      exact h9, by
                      rw [HTJ.out, show List.map PV.p (List.take j l ++ [x]) = List.map PV.p (List.take j l) ++ [x.p] from by rw [List.map_append, List.map_singleton], ordR_snoc, ← HOO.out.1]
                      exact HEQ.out, by
                      intro z hz
                      rcases List.mem_append.1 hz with hz | hz
                      · rcases List.mem_append.1 hz with hz | hz
                        · exact HOO.out.2 z (List.mem_of_mem_take hz)
                        · simp at hz
                          subst hz
                          exact List.mem_of_getElem? HX.out
                      · exact HOO.out.2 z (List.mem_of_mem_drop hz)⟩
                    case measure => simp [intOf]; omega
                · rw [if_pos (by rfl)]
                  refine wp_one6 (by rfl) ?_
                  refine nameV (fun V1 => Below W0.heap.size W0 V1 ∧ Blk V1 W0.heap.size 31 #[.int .i64 x.p.dev, .int .i64 x.p.chan, .int .i64 x.p.boot, .int .i64 x.p.seq, .int .i64 x.p.stamp, .slice x.A x.p.vals.length x.c]) ⟨(hbW.alloc hbW.size _).drew, (Blk.drw (Blk.new _ _ _ _ rfl))⟩ fun V1 ⟨hbW2, qHN⟩ => ?_
                  have hbW := hbW2
                  clear hbW2
                  have HN := Lib.hid qHN
                  clear qHN
                  have hS := hbW
                  refine hK.out _ _ ?_ (fun hHeld2 => ?_)
                  · clear hK; exact hS
                  clear hK K hHeld hS
                  have hHeld := hHeld2
                  clear hHeld2
                  try simp only [Act.put, List.setIfInBounds_toArray, List.set_cons_zero, List.set_cons_succ]
                  refine wpAnyH_ready (rs := [0]) (by kernel_rfl) (by simp) ?_
                  refine AllReadyH.cons rfl (fun K hK => ?_) AllReadyH.nil
                  rw [if_pos (by rfl)]
                  go_simp
                  have HNE := Lib.hid (show some W0.heap.size ≠ Value.ownBlock (.slice (some ⟨V1.heap.size, 0, none⟩) 0 0) from (fun he => absurd (Option.some.inj he) (Nat.ne_of_lt HN.out.lt)))
                  refine nameV (fun V2 => Below W0.heap.size W0 V2 ∧ World.ownsRow V2 W0.heap.size 31 6 (.slice (some ⟨V1.heap.size, 0, none⟩) 0 0) 0 [] ∧ Blk V2 W0.heap.size 31 #[.int .i64 x.p.dev, .int .i64 x.p.chan, .int .i64 x.p.boot, .int .i64 x.p.seq, .int .i64 x.p.stamp, .slice x.A x.p.vals.length x.c]) ⟨hbW.alloc hbW.size _, (own_emptyN _ _ _ _ _ hbW.size rfl), (HN.out.al _)⟩ fun V2 ⟨hbW2, qHC, qHN⟩ => ?_
                  clear HN
                  have hbW := hbW2
                  clear hbW2
                  have HC := Lib.hid qHC
                  clear qHC
                  have HN := Lib.hid qHN
                  clear qHN
                  have hS := hbW
                  refine hK.out _ _ ?_ (fun hHeld2 => ?_)
                  · clear hK; exact hS
                  clear hK K hHeld hS
                  have hHeld := hHeld2
                  clear hHeld2
                  try simp only [Act.put, List.setIfInBounds_toArray, List.set_cons_zero, List.set_cons_succ]
                  refine wpAnyH_ready (rs := [4]) (by kernel_rfl) (by simp) ?_
                  refine AllReadyH.cons rfl (fun K hK => ?_) AllReadyH.nil
                  rw [if_pos (by rfl)]
                  refine wp_appN elPk (.tmp 49) (.tmp 52) rfl W0.heap.size _ 0 [] rfl HC.out _ k (tk f6 (O.take k)) rfl (HPRE.out.below hbW) (tk_all f6_one _) (by unfold maxLen; omega) (by omega) hbW.size ?_
                  intro v2 V3 hO hg hor
                  have hbW2 := below_app hbW hbW.size HC.out hg (Nat.le_refl _)
                  have HN2 := Lib.hid (show Blk _ _ _ _ from (hg.block _ HN.out.lt HNE.out).trans HN.out)
                  have HNE2 := Lib.hid (show some W0.heap.size ≠ Value.ownBlock v2 by rcases hor with e | e <;> rw [e] <;> first | exact HNE.out | (intro he; injection he with he; have := HN.out.lt; omega))
                  clear HN HNE
                  have HN := Lib.hid HN2.out
                  have HNE := Lib.hid HNE2.out
                  clear HN2 HNE2
                  clear HC
                  have HC := Lib.hid hO
                  clear hO hg hor hbW
                  have hbW := hbW2
                  clear hbW2
                  have hS := hbW
                  refine hK.out _ _ ?_ (fun hHeld2 => ?_)
                  · clear hK; exact hS
                  clear hK K hHeld hS
                  have hHeld := hHeld2
                  clear hHeld2
                  try simp only [Act.put, List.setIfInBounds_toArray, List.set_cons_zero, List.set_cons_succ]
                  refine wpAnyH_ready (rs := [10]) (by kernel_rfl) (by simp) ?_
                  refine AllReadyH.cons rfl (fun K hK => ?_) AllReadyH.nil
                  rw [if_pos (by rfl)]
                  refine wp_appN elPk (.tmp 53) (.tmp 58) rfl W0.heap.size _ (0 + k) ([] ++ tk f6 (O.take k)) rfl HC.out _ 1 (f6 x) rfl (RowN.of_blk HN.out rfl rfl (Nat.le_refl _) (by decide)) (f6_one _) (by unfold maxLen; omega) (by omega) hbW.size ?_
                  intro v3 V4 hO hg hor
                  have hbW2 := below_app hbW hbW.size HC.out hg (Nat.le_refl _)
                  clear HC
                  have HC := Lib.hid hO
                  clear hO hg hor hbW
                  have hbW := hbW2
                  clear hbW2
                  have hS := hbW
                  refine hK.out _ _ ?_ (fun hHeld2 => ?_)
                  · clear hK; exact hS
                  clear hK K hHeld hS
                  have hHeld := hHeld2
                  clear hHeld2
                  try simp only [Act.put, List.setIfInBounds_toArray, List.set_cons_zero, List.set_cons_succ]
                  refine wpAnyH_ready (rs := [14]) (by kernel_rfl) (by simp) ?_
                  refine AllReadyH.cons rfl (fun K hK => ?_) AllReadyH.nil
                  rw [if_pos (by rfl)]
                  refine wp_appN elPk (.tmp 59) (.tmp 62) rfl W0.heap.size _ (0 + k + 1) ([] ++ tk f6 (O.take k) ++ f6 x) rfl HC.out _ 0 (tk f6 (O.drop k)) rfl (HSUF.out.below hbW) (tk_all f6_one _) (by unfold maxLen; omega) (by omega) hbW.size ?_
                  intro v4 V5 hO hg hor
                  have hbW2 := below_app hbW hbW.size HC.out hg (Nat.le_refl _)
                  clear HC
                  have HC := Lib.hid hO
                  clear hO hg hor hbW
                  have hbW := hbW2
                  clear hbW2
                  have hS := hbW
                  refine hK.out _ _ ?_ (fun hHeld2 => ?_)
                  · clear hK; exact hS
                  clear hK K hHeld hS
                  have hHeld := hHeld2
                  clear hHeld2
                  try simp only [Act.put, List.setIfInBounds_toArray, List.set_cons_zero, List.set_cons_succ]
                  refine takeD 15 (some 5) (v := ?_) rfl rfl (by kernel_rfl) (by kernel_rfl) (by kernel_rfl) (fun _ _ _ h => h) (by rfl) ?_ (by assumption) ?_
                  rotate_left
                  · intro w hSw
                    (try dsimp only at hSw)
                    go_simp
                    try with_reducible rfl
                  try simp only [Act.put, List.setIfInBounds_toArray, List.set_cons_zero, List.set_cons_succ]
                  refine wpAnyH_done (by kernel_rfl) ?_ _
                  have HBW := Lib.hid hbW
                  clear hHeld hbW
                  have HEQ := Lib.hid (ins_put (ts := (ts.map TV.t)) (x := x) (O := O) (k := k) hk HBF2.out (.inr ⟨y, HY.out, HA9.out⟩))
                  obtain ⟨n9, hn9⟩ : ∃ n, n = 0 + k + 1 + 0 := ⟨_, rfl⟩
                  have HC9 := HC.out
                  clear HC
                  rw [← hn9] at HC9
                  have HN9 := Lib.hid hn9
                  clear hn9
                  obtain ⟨A4, c4, rfl, _⟩ := own_shapeX HC9
                  have HC := Lib.hid HC9
                  clear HC9
                  go_wp2
                  go_roundw
                  case rel => exact ⟨j + 1, O.take k ++ [x] ++ O.drop k, by omega, by go_num, HB0.out.trans (HBW.out.mono HB0.out.size), by
                    have h9 := own_mono HC.out HB0.out.size
                    have e1 : n9 = (O.take k ++ [x] ++ O.drop k).length := by
                      rw [HN9.out, List.length_append, List.length_append, List.length_take, List.length_drop, List.length_singleton]
                      omega
                    rw [List.nil_append, ← tk_one (f := f6) x, ← tk_app, ← tk_app] at h9
                    rw [← e1]
                    exact h9, by
                    rw [HTJ.out, show List.map PV.p (List.take j l ++ [x]) = List.map PV.p (List.take j l) ++ [x.p] from by rw [List.map_append, List.map_singleton], ordR_snoc, ← HOO.out.1]
                    exact HEQ.out, by
                    intro z hz
                    rcases List.mem_append.1 hz with hz | hz
                    · rcases List.mem_append.1 hz with hz | hz
                      · exact HOO.out.2 z (List.mem_of_mem_take hz)
                      · simp at hz
                        subst hz
                        exact List.mem_of_getElem? HX.out
                    · exact HOO.out.2 z (List.mem_of_mem_drop hz)⟩
                  case measure => simp [intOf]; omega

              · as_aux_lemma =>
                have HSUF := Lib.hid (show ∃ ad, (some oad) = some ad ∧ RowN 6 W0 (.slice (some (ad.add (k * 6))) (O.length - k) (oc - k)) (O.length - k) (tk f6 (O.drop k)) by
                  have h0 := RowN.of_own HO0.out
                  have h1 := h0
                  obtain ⟨q0, A9, c9, q1, q2, q3, q4⟩ := h0
                  injection q1 with q1 _ q5
                  subst q1 q5
                  rcases q4 with ⟨q4, q5⟩ | ⟨ad9, q4, _⟩
                  · first | omega | (cases q4)
                  · first | subst q4 | (injection q4 with q4; subst q4)
                    exact ⟨_, rfl, h1.suf f6_len rfl hk⟩)
                obtain ⟨ad9, e9, hsuf⟩ := HSUF.out
                first | subst e9 | (injection e9 with e9; subst e9)
                have HSUF2 := Lib.hid hsuf
                clear hsuf HSUF
                have HSUF := Lib.hid HSUF2.out
                clear HSUF2
                have g9 : (oc == k) = false := by simpa using hkc
                have g9' : ((oc : Int) == (k : Int)) = false := by simp; omega
                have hbW := (Below.refl W0.heap.size W0)
                have Sz := HSX.out.at HB0.out HB0.out.size
                have z0 := fun V hV => (Sz V hV).1
                have z1 := fun V hV => (Sz V hV).2.1
                have z2 := fun V hV => (Sz V hV).2.2.1
                have z3 := fun V hV => (Sz V hV).2.2.2.1
                have z4 := fun V hV => (Sz V hV).2.2.2.2.1
                have z5 := fun V hV => (Sz V hV).2.2.2.2.2
                clear Sz
                refine wp_region_held_drew (S := fun W => Below W0.heap.size W0 W) (by kernel_rfl) ((Below.refl W0.heap.size W0).drew) (fun hHeld => ?_)
                refine takeD 1 (some 50) (v := ?_) rfl rfl (by kernel_rfl) (by kernel_rfl) (by kernel_rfl) (fun _ _ _ h => h) (by rfl) ?_ (by assumption) ?_
                rotate_left
                · intro w hSw
                  (try dsimp only at hSw)
                  go_simp
                  try with_reducible rfl
                try simp only [Act.put, List.setIfInBounds_toArray, List.set_cons_zero, List.set_cons_succ]
                refine takeD 2 (some 51) (v := ?_) rfl rfl (by kernel_rfl) (by kernel_rfl) (by kernel_rfl) (fun _ _ _ h => h) (by rfl) ?_ (by assumption) ?_
                rotate_left
                · intro w hSw
                  (try dsimp only at hSw)
                  go_simp
                  try with_reducible rfl
                try simp only [Act.put, List.setIfInBounds_toArray, List.set_cons_zero, List.set_cons_succ]
                refine takeD 3 (some 52) (v := ?_) rfl rfl (by kernel_rfl) (by kernel_rfl) (by kernel_rfl) (fun _ _ _ h => h) (by rfl) ?_ (by assumption) ?_
                rotate_left
                · intro w hSw
                  (try dsimp only at hSw)
                  go_simp
                  try with_reducible rfl
                try simp only [Act.put, List.setIfInBounds_toArray, List.set_cons_zero, List.set_cons_succ]
                refine takeD 5 (some 54) (v := ?_) rfl rfl (by kernel_rfl) (by kernel_rfl) (by kernel_rfl) (fun _ _ _ h => h) (by rfl) ?_ (by assumption) ?_
                rotate_left
                · intro w hSw
                  (try dsimp only at hSw)
                  go_simp
                  try with_reducible rfl
                try simp only [Act.put, List.setIfInBounds_toArray, List.set_cons_zero, List.set_cons_succ]
                refine takeD 6 (some 55) (v := ?_) rfl rfl (by kernel_rfl) (by kernel_rfl) (by kernel_rfl) (fun _ _ _ h => h) (by rfl) ?_ (by assumption) ?_
                rotate_left
                · intro w hSw
                  (try dsimp only at hSw)
                  go_simp
                  try with_reducible rfl
                try simp only [Act.put, List.setIfInBounds_toArray, List.set_cons_zero, List.set_cons_succ]
                refine takeD 7 (some 56) (v := ?_) rfl rfl (by kernel_rfl) (by kernel_rfl) (by kernel_rfl) (fun _ _ _ h => h) (by rfl) ?_ (by assumption) ?_
                rotate_left
                · intro w hSw
                  (try dsimp only at hSw)
                  go_simp
                  try with_reducible rfl
                try simp only [Act.put, List.setIfInBounds_toArray, List.set_cons_zero, List.set_cons_succ]
                refine takeD 8 (some 57) (v := ?_) rfl rfl (by kernel_rfl) (by kernel_rfl) (by kernel_rfl) (fun _ _ _ h => h) (by rfl) ?_ (by assumption) ?_
                rotate_left
                · intro w hSw
                  (try dsimp only at hSw)
                  go_simp
                  try with_reducible rfl
                try simp only [Act.put, List.setIfInBounds_toArray, List.set_cons_zero, List.set_cons_succ]
                refine takeD 11 (some 60) (v := ?_) rfl rfl (by kernel_rfl) (by kernel_rfl) (by kernel_rfl) (fun _ _ _ h => h) (by rfl) ?_ (by assumption) ?_
                rotate_left
                · intro w hSw
                  (try dsimp only at hSw)
                  go_simp
                  try with_reducible rfl
                try simp only [Act.put, List.setIfInBounds_toArray, List.set_cons_zero, List.set_cons_succ]
                refine takeD 12 (some 61) (v := ?_) rfl rfl (by kernel_rfl) (by kernel_rfl) (by kernel_rfl) (fun _ _ _ h => h) (by rfl) ?_ (by assumption) ?_
                rotate_left
                · intro w hSw
                  (try dsimp only at hSw)
                  go_simp
                  try with_reducible rfl
                try simp only [Act.put, List.setIfInBounds_toArray, List.set_cons_zero, List.set_cons_succ]
                refine takeD 13 (some 62) (v := ?_) rfl rfl (by kernel_rfl) (by kernel_rfl) (by kernel_rfl) (fun _ _ _ h => h) (by rfl) ?_ (by assumption) ?_
                rotate_left
                · intro w hSw
                  (try dsimp only at hSw)
                  go_simp
                  try with_reducible rfl
                try simp only [Act.put, List.setIfInBounds_toArray, List.set_cons_zero, List.set_cons_succ]
                refine wpAnyH_ready (rs := [0, 9]) (by kernel_rfl) (by simp) ?_
                refine AllReadyH.cons rfl (fun K hK => ?_) (AllReadyH.cons rfl (fun K hK => ?_) AllReadyH.nil)
                · rw [if_pos (by rfl)]
                  go_simp
                  refine nameV (fun V1 => Below W0.heap.size W0 V1 ∧ World.ownsRow V1 W0.heap.size 31 6 (.slice (some ⟨W0.heap.size, 0, none⟩) 0 0) 0 []) ⟨(hbW.alloc hbW.size _).drew, (World.ownsRow.drew (own_emptyN _ _ _ _ _ hbW.size rfl))⟩ fun V1 ⟨hbW2, qHC⟩ => ?_
                  have hbW := hbW2
                  clear hbW2
                  have HC := Lib.hid qHC
                  clear qHC
                  have hS := hbW
                  refine hK.out _ _ ?_ (fun hHeld2 => ?_)
                  · clear hK; exact hS
                  clear hK K hHeld hS
                  have hHeld := hHeld2
                  clear hHeld2
                  try simp only [Act.put, List.setIfInBounds_toArray, List.set_cons_zero, List.set_cons_succ]
                  refine wpAnyH_ready (rs := [4, 9]) (by kernel_rfl) (by simp) ?_
                  refine AllReadyH.cons rfl (fun K hK => ?_) (AllReadyH.cons rfl (fun K hK => ?_) AllReadyH.nil)
                  · rw [if_pos (by rfl)]
                    refine wp_appN elPk (.tmp 49) (.tmp 52) rfl W0.heap.size _ 0 [] rfl HC.out _ k (tk f6 (O.take k)) rfl (HPRE.out.below hbW) (tk_all f6_one _) (by unfold maxLen; omega) (by omega) hbW.size ?_
                    intro v2 V2 hO hg hor
                    have hbW2 := below_app hbW hbW.size HC.out hg (Nat.le_refl _)
                    clear HC
                    have HC := Lib.hid hO
                    clear hO hg hor hbW
                    have hbW := hbW2
                    clear hbW2
                    have hS := hbW
                    refine hK.out _ _ ?_ (fun hHeld2 => ?_)
                    · clear hK; exact hS
                    clear hK K hHeld hS
                    have hHeld := hHeld2
                    clear hHeld2
                    try simp only [Act.put, List.setIfInBounds_toArray, List.set_cons_zero, List.set_cons_succ]
                    refine wpAnyH_ready (rs := [9]) (by kernel_rfl) (by simp) ?_
                    refine AllReadyH.cons rfl (fun K hK => ?_) AllReadyH.nil
                    rw [if_pos (by rfl)]
                    refine wp_one6 (by rfl) ?_
                    have HNE := Lib.hid (show some V2.heap.size ≠ Value.ownBlock v2 from ne_some HC.out rfl)
                    refine nameV (fun V3 => Below W0.heap.size W0 V3 ∧ World.ownsRow V3 W0.heap.size 31 6 v2 (0 + k) ([] ++ tk f6 (O.take k)) ∧ Blk V3 V2.heap.size 31 #[.int .i64 x.p.dev, .int .i64 x.p.chan, .int .i64 x.p.boot, .int .i64 x.p.seq, .int .i64 x.p.stamp, .slice x.A x.p.vals.length x.c]) ⟨hbW.alloc hbW.size _, (own_below HC.out ((Below.refl _ _).alloc (Nat.le_refl _) _)), (Blk.new _ _ _ _ rfl)⟩ fun V3 ⟨hbW2, qHC, qHN⟩ => ?_
                    clear HC
                    have hbW := hbW2
                    clear hbW2
                    have HC := Lib.hid qHC
                    clear qHC
                    have HN := Lib.hid qHN
                    clear qHN
                    have hS := hbW
                    refine hK.out _ _ ?_ (fun hHeld2 => ?_)
                    · clear hK; exact hS
                    clear hK K hHeld hS
                    have hHeld := hHeld2
                    clear hHeld2
                    try simp only [Act.put, List.setIfInBounds_toArray, List.set_cons_zero, List.set_cons_succ]
                    refine wpAnyH_ready (rs := [10]) (by kernel_rfl) (by simp) ?_
                    refine AllReadyH.cons rfl (fun K hK => ?_) AllReadyH.nil
                    rw [if_pos (by rfl)]
                    refine wp_appN elPk (.tmp 53) (.tmp 58) rfl W0.heap.size _ (0 + k) ([] ++ tk f6 (O.take k)) rfl HC.out _ 1 (f6 x) rfl (RowN.of_blk HN.out rfl rfl (Nat.le_refl _) (by decide)) (f6_one _) (by unfold maxLen; omega) (by omega) hbW.size ?_
                    intro v3 V4 hO hg hor
                    have hbW2 := below_app hbW hbW.size HC.out hg (Nat.le_refl _)
                    clear HC
                    have HC := Lib.hid hO
                    clear hO hg hor hbW
                    have hbW := hbW2
                    clear hbW2
                    have hS := hbW
                    refine hK.out _ _ ?_ (fun hHeld2 => ?_)
                    · clear hK; exact hS
                    clear hK K hHeld hS
                    have hHeld := hHeld2
                    clear hHeld2
                    try simp only [Act.put, List.setIfInBounds_toArray, List.set_cons_zero, List.set_cons_succ]
                    refine wpAnyH_ready (rs := [14]) (by kernel_rfl) (by simp) ?_
                    refine AllReadyH.cons rfl (fun K hK => ?_) AllReadyH.nil
                    rw [if_pos (by rfl)]
                    refine wp_appN elPk (.tmp 59) (.tmp 62) rfl W0.heap.size _ (0 + k + 1) ([] ++ tk f6 (O.take k) ++ f6 x) rfl HC.out _ (O.length - k) (tk f6 (O.drop k)) rfl (HSUF.out.below hbW) (tk_all f6_one _) (by unfold maxLen; omega) (by omega) hbW.size ?_
                    intro v4 V5 hO hg hor
                    have hbW2 := below_app hbW hbW.size HC.out hg (Nat.le_refl _)
                    clear HC
                    have HC := Lib.hid hO
                    clear hO hg hor hbW
                    have hbW := hbW2
                    clear hbW2
                    have hS := hbW
                    refine hK.out _ _ ?_ (fun hHeld2 => ?_)
                    · clear hK; exact hS
                    clear hK K hHeld hS
                    have hHeld := hHeld2
                    clear hHeld2
                    try simp only [Act.put, List.setIfInBounds_toArray, List.set_cons_zero, List.set_cons_succ]
                    refine takeD 15 (some 5) (v := ?_) rfl rfl (by kernel_rfl) (by kernel_rfl) (by kernel_rfl) (fun _ _ _ h => h) (by rfl) ?_ (by assumption) ?_
                    rotate_left
                    · intro w hSw
                      (try dsimp only at hSw)
                      go_simp
                      try with_reducible rfl
                    try simp only [Act.put, List.setIfInBounds_toArray, List.set_cons_zero, List.set_cons_succ]
                    refine wpAnyH_done (by kernel_rfl) ?_ _
                    have HBW := Lib.hid hbW
                    clear hHeld hbW
                    have HEQ := Lib.hid (ins_put (ts := (ts.map TV.t)) (x := x) (O := O) (k := k) hk HBF2.out (.inr ⟨y, HY.out, HA9.out⟩))
                    obtain ⟨n9, hn9⟩ : ∃ n, n = 0 + k + 1 + (O.length - k) := ⟨_, rfl⟩
                    have HC9 := HC.out
                    clear HC
                    rw [← hn9] at HC9
                    have HN9 := Lib.hid hn9
                    clear hn9
                    obtain ⟨A4, c4, rfl, _⟩ := own_shapeX HC9
                    have HC := Lib.hid HC9
                    clear HC9
                    go_wp2
                    go_roundw
                    case rel => exact ⟨j + 1, O.take k ++ [x] ++ O.drop k, by omega, by go_num, HB0.out.trans (HBW.out.mono HB0.out.size), by
                      have h9 := own_mono HC.out HB0.out.size
                      have e1 : n9 = (O.take k ++ [x] ++ O.drop k).length := by
                        rw [HN9.out, List.length_append, List.length_append, List.length_take, List.length_drop, List.length_singleton]
                        omega
                      rw [List.nil_append, ← tk_one (f := f6) x, ← tk_app, ← tk_app] at h9
                      rw [← e1]
                      exact h9, by
                      rw [HTJ.out, show List.map PV.p (List.take j l ++ [x]) = List.map PV.p (List.take j l) ++ [x.p] from by rw [List.map_append, List.map_singleton], ordR_snoc, ← HOO.out.1]
                      exact HEQ.out, by
                      intro z hz
                      rcases List.mem_append.1 hz with hz | hz
                      · rcases List.mem_append.1 hz with hz | hz
                        · exact HOO.out.2 z (List.mem_of_mem_take hz)
                        · simp at hz
                          subst hz
                          exact List.mem_of_getElem? HX.out
                      · exact HOO.out.2 z (List.mem_of_mem_drop hz)⟩
                    case measure => simp [intOf]; omega
                  · rw [if_pos (by rfl)]
                    refine wp_one6 (by rfl) ?_
                    have HNE := Lib.hid (show some V1.heap.size ≠ Value.ownBlock (.slice (some ⟨W0.heap.size, 0, none⟩) 0 0) from ne_some HC.out rfl)
                    refine nameV (fun V2 => Below W0.heap.size W0 V2 ∧ World.ownsRow V2 W0.heap.size 31 6 (.slice (some ⟨W0.heap.size, 0, none⟩) 0 0) 0 [] ∧ Blk V2 V1.heap.size 31 #[.int .i64 x.p.dev, .int .i64 x.p.chan, .int .i64 x.p.boot, .int .i64 x.p.seq, .int .i64 x.p.stamp, .slice x.A x.p.vals.length x.c]) ⟨hbW.alloc hbW.size _, (own_below HC.out ((Below.refl _ _).alloc (Nat.le_refl _) _)), (Blk.new _ _ _ _ rfl)⟩ fun V2 ⟨hbW2, qHC, qHN⟩ => ?_
                    clear HC
                    have hbW := hbW2
                    clear hbW2
                    have HC := Lib.hid qHC
                    clear qHC
                    have HN := Lib.hid qHN
                    clear qHN
                    have hS := hbW
                    refine hK.out _ _ ?_ (fun hHeld2 => ?_)
                    · clear hK; exact hS
                    clear hK K hHeld hS
                    have hHeld := hHeld2
                    clear hHeld2
                    try simp only [Act.put, List.setIfInBounds_toArray, List.set_cons_zero, List.set_cons_succ]
                    refine wpAnyH_ready (rs := [4]) (by kernel_rfl) (by simp) ?_
                    refine AllReadyH.cons rfl (fun K hK => ?_) AllReadyH.nil
                    rw [if_pos (by rfl)]
                    refine wp_appN elPk (.tmp 49) (.tmp 52) rfl W0.heap.size _ 0 [] rfl HC.out _ k (tk f6 (O.take k)) rfl (HPRE.out.below hbW) (tk_all f6_one _) (by unfold maxLen; omega) (by omega) hbW.size ?_
                    intro v2 V3 hO hg hor
                    have hbW2 := below_app hbW hbW.size HC.out hg (Nat.le_refl _)
                    have HN2 := Lib.hid (show Blk _ _ _ _ from (hg.block _ HN.out.lt HNE.out).trans HN.out)
                    have HNE2 := Lib.hid (show some V1.heap.size ≠ Value.ownBlock v2 by rcases hor with e | e <;> rw [e] <;> first | exact HNE.out | (intro he; injection he with he; have := HN.out.lt; omega))
                    clear HN HNE
                    have HN := Lib.hid HN2.out
                    have HNE := Lib.hid HNE2.out
                    clear HN2 HNE2
                    clear HC
                    have HC := Lib.hid hO
                    clear hO hg hor hbW
                    have hbW := hbW2
                    clear hbW2
                    have hS := hbW
                    refine hK.out _ _ ?_ (fun hHeld2 => ?_)
                    · clear hK; exact hS
                    clear hK K hHeld hS
                    have hHeld := hHeld2
                    clear hHeld2
                    try simp only [Act.put, List.setIfInBounds_toArray, List.set_cons_zero, List.set_cons_succ]
                    refine wpAnyH_ready (rs := [10]) (by kernel_rfl) (by simp) ?_
                    refine AllReadyH.cons rfl (fun K hK => ?_) AllReadyH.nil
                    rw [if_pos (by rfl)]
                    refine wp_appN elPk (.tmp 53) (.tmp 58) rfl W0.heap.size _ (0 + k) ([] ++ tk f6 (O.take k)) rfl HC.out _ 1 (f6 x) rfl (RowN.of_blk HN.out rfl rfl (Nat.le_refl _) (by decide)) (f6_one _) (by unfold maxLen; omega) (by omega) hbW.size ?_
                    intro v3 V4 hO hg hor
                    have hbW2 := below_app hbW hbW.size HC.out hg (Nat.le_refl _)
                    clear HC
                    have HC := Lib.hid hO
                    clear hO hg hor hbW
                    have hbW := hbW2
                    clear hbW2
                    have hS := hbW
                    refine hK.out _ _ ?_ (fun hHeld2 => ?_)
                    · clear hK; exact hS
                    clear hK K hHeld hS
                    have hHeld := hHeld2
                    clear hHeld2
                    try simp only [Act.put, List.setIfInBounds_toArray, List.set_cons_zero, List.set_cons_succ]
                    refine wpAnyH_ready (rs := [14]) (by kernel_rfl) (by simp) ?_
                    refine AllReadyH.cons rfl (fun K hK => ?_) AllReadyH.nil
                    rw [if_pos (by rfl)]
                    refine wp_appN elPk (.tmp 59) (.tmp 62) rfl W0.heap.size _ (0 + k + 1) ([] ++ tk f6 (O.take k) ++ f6 x) rfl HC.out _ (O.length - k) (tk f6 (O.drop k)) rfl (HSUF.out.below hbW) (tk_all f6_one _) (by unfold maxLen; omega) (by omega) hbW.size ?_
                    intro v4 V5 hO hg hor
                    have hbW2 := below_app hbW hbW.size HC.out hg (Nat.le_refl _)
                    clear HC
                    have HC := Lib.hid hO
                    clear hO hg hor hbW
                    have hbW := hbW2
                    clear hbW2
                    have hS := hbW
                    refine hK.out _ _ ?_ (fun hHeld2 => ?_)
                    · clear hK; exact hS
                    clear hK K hHeld hS
                    have hHeld := hHeld2
                    clear hHeld2
                    try simp only [Act.put, List.setIfInBounds_toArray, List.set_cons_zero, List.set_cons_succ]
                    refine takeD 15 (some 5) (v := ?_) rfl rfl (by kernel_rfl) (by kernel_rfl) (by kernel_rfl) (fun _ _ _ h => h) (by rfl) ?_ (by assumption) ?_
                    rotate_left
                    · intro w hSw
                      (try dsimp only at hSw)
                      go_simp
                      try with_reducible rfl
                    try simp only [Act.put, List.setIfInBounds_toArray, List.set_cons_zero, List.set_cons_succ]
                    refine wpAnyH_done (by kernel_rfl) ?_ _
                    have HBW := Lib.hid hbW
                    clear hHeld hbW
                    have HEQ := Lib.hid (ins_put (ts := (ts.map TV.t)) (x := x) (O := O) (k := k) hk HBF2.out (.inr ⟨y, HY.out, HA9.out⟩))
                    obtain ⟨n9, hn9⟩ : ∃ n, n = 0 + k + 1 + (O.length - k) := ⟨_, rfl⟩
                    have HC9 := HC.out
                    clear HC
                    rw [← hn9] at HC9
                    have HN9 := Lib.hid hn9
                    clear hn9
                    obtain ⟨A4, c4, rfl, _⟩ := own_shapeX HC9
                    have HC := Lib.hid HC9
                    clear HC9
                    go_wp2
                    go_roundw
                    case rel => exact ⟨j + 1, O.take k ++ [x] ++ O.drop k, by omega, by go_num, HB0.out.trans (HBW.out.mono HB0.out.size), by
                      have h9 := own_mono HC.out HB0.out.size
                      have e1 : n9 = (O.take k ++ [x] ++ O.drop k).length := by
                        rw [HN9.out, List.length_append, List.length_append, List.length_take, List.length_drop, List.length_singleton]
                        omega
                      rw [List.nil_append, ← tk_one (f := f6) x, ← tk_app, ← tk_app] at h9
                      rw [← e1]
                      exact h9, by
                      rw [HTJ.out, show List.map PV.p (List.take j l ++ [x]) = List.map PV.p (List.take j l) ++ [x.p] from by rw [List.map_append, List.map_singleton], ordR_snoc, ← HOO.out.1]
                      exact HEQ.out, by
                      intro z hz
                      rcases List.mem_append.1 hz with hz | hz
                      · rcases List.mem_append.1 hz with hz | hz
                        · exact HOO.out.2 z (List.mem_of_mem_take hz)
                        · simp at hz
                          subst hz
                          exact List.mem_of_getElem? HX.out
                      · exact HOO.out.2 z (List.mem_of_mem_drop hz)⟩
                    case measure => simp [intOf]; omega
                · rw [if_pos (by rfl)]
                  refine wp_one6 (by rfl) ?_
                  refine nameV (fun V1 => Below W0.heap.size W0 V1 ∧ Blk V1 W0.heap.size 31 #[.int .i64 x.p.dev, .int .i64 x.p.chan, .int .i64 x.p.boot, .int .i64 x.p.seq, .int .i64 x.p.stamp, .slice x.A x.p.vals.length x.c]) ⟨(hbW.alloc hbW.size _).drew, (Blk.drw (Blk.new _ _ _ _ rfl))⟩ fun V1 ⟨hbW2, qHN⟩ => ?_
                  have hbW := hbW2
                  clear hbW2
                  have HN := Lib.hid qHN
                  clear qHN
                  have hS := hbW
                  refine hK.out _ _ ?_ (fun hHeld2 => ?_)
                  · clear hK; exact hS
                  clear hK K hHeld hS
                  have hHeld := hHeld2
                  clear hHeld2
                  try simp only [Act.put, List.setIfInBounds_toArray, List.set_cons_zero, List.set_cons_succ]
                  refine wpAnyH_ready (rs := [0]) (by kernel_rfl) (by simp) ?_
                  refine AllReadyH.cons rfl (fun K hK => ?_) AllReadyH.nil
                  rw [if_pos (by rfl)]
                  go_simp
                  have HNE := Lib.hid (show some W0.heap.size ≠ Value.ownBlock (.slice (some ⟨V1.heap.size, 0, none⟩) 0 0) from (fun he => absurd (Option.some.inj he) (Nat.ne_of_lt HN.out.lt)))
                  refine nameV (fun V2 => Below W0.heap.size W0 V2 ∧ World.ownsRow V2 W0.heap.size 31 6 (.slice (some ⟨V1.heap.size, 0, none⟩) 0 0) 0 [] ∧ Blk V2 W0.heap.size 31 #[.int .i64 x.p.dev, .int .i64 x.p.chan, .int .i64 x.p.boot, .int .i64 x.p.seq, .int .i64 x.p.stamp, .slice x.A x.p.vals.length x.c]) ⟨hbW.alloc hbW.size _, (own_emptyN _ _ _ _ _ hbW.size rfl), (HN.out.al _)⟩ fun V2 ⟨hbW2, qHC, qHN⟩ => ?_
                  clear HN
                  have hbW := hbW2
                  clear hbW2
                  have HC := Lib.hid qHC
                  clear qHC
                  have HN := Lib.hid qHN
                  clear qHN
                  have hS := hbW
                  refine hK.out _ _ ?_ (fun hHeld2 => ?_)
                  · clear hK; exact hS
                  clear hK K hHeld hS
                  have hHeld := hHeld2
                  clear hHeld2
                  try simp only [Act.put, List.setIfInBounds_toArray, List.set_cons_zero, List.set_cons_succ]
                  refine wpAnyH_ready (rs := [4]) (by kernel_rfl) (by simp) ?_
                  refine AllReadyH.cons rfl (fun K hK => ?_) AllReadyH.nil
                  rw [if_pos (by rfl)]
                  refine wp_appN elPk (.tmp 49) (.tmp 52) rfl W0.heap.size _ 0 [] rfl HC.out _ k (tk f6 (O.take k)) rfl (HPRE.out.below hbW) (tk_all f6_one _) (by unfold maxLen; omega) (by omega) hbW.size ?_
                  intro v2 V3 hO hg hor
                  have hbW2 := below_app hbW hbW.size HC.out hg (Nat.le_refl _)
                  have HN2 := Lib.hid (show Blk _ _ _ _ from (hg.block _ HN.out.lt HNE.out).trans HN.out)
                  have HNE2 := Lib.hid (show some W0.heap.size ≠ Value.ownBlock v2 by rcases hor with e | e <;> rw [e] <;> first | exact HNE.out | (intro he; injection he with he; have := HN.out.lt; omega))
                  clear HN HNE
                  have HN := Lib.hid HN2.out
                  have HNE := Lib.hid HNE2.out
                  clear HN2 HNE2
                  clear HC
                  have HC := Lib.hid hO
                  clear hO hg hor hbW
                  have hbW := hbW2
                  clear hbW2
                  have hS := hbW
                  refine hK.out _ _ ?_ (fun hHeld2 => ?_)
                  · clear hK; exact hS
                  clear hK K hHeld hS
                  have hHeld := hHeld2
                  clear hHeld2
                  try simp only [Act.put, List.setIfInBounds_toArray, List.set_cons_zero, List.set_cons_succ]
                  refine wpAnyH_ready (rs := [10]) (by kernel_rfl) (by simp) ?_
                  refine AllReadyH.cons rfl (fun K hK => ?_) AllReadyH.nil
                  rw [if_pos (by rfl)]
                  refine wp_appN elPk (.tmp 53) (.tmp 58) rfl W0.heap.size _ (0 + k) ([] ++ tk f6 (O.take k)) rfl HC.out _ 1 (f6 x) rfl (RowN.of_blk HN.out rfl rfl (Nat.le_refl _) (by decide)) (f6_one _) (by unfold maxLen; omega) (by omega) hbW.size ?_
                  intro v3 V4 hO hg hor
                  have hbW2 := below_app hbW hbW.size HC.out hg (Nat.le_refl _)
                  clear HC
                  have HC := Lib.hid hO
                  clear hO hg hor hbW
                  have hbW := hbW2
                  clear hbW2
                  have hS := hbW
                  refine hK.out _ _ ?_ (fun hHeld2 => ?_)
                  · clear hK; exact hS
                  clear hK K hHeld hS
                  have hHeld := hHeld2
                  clear hHeld2
                  try simp only [Act.put, List.setIfInBounds_toArray, List.set_cons_zero, List.set_cons_succ]
                  refine wpAnyH_ready (rs := [14]) (by kernel_rfl) (by simp) ?_
                  refine AllReadyH.cons rfl (fun K hK => ?_) AllReadyH.nil
                  rw [if_pos (by rfl)]
                  refine wp_appN elPk (.tmp 59) (.tmp 62) rfl W0.heap.size _ (0 + k + 1) ([] ++ tk f6 (O.take k) ++ f6 x) rfl HC.out _ (O.length - k) (tk f6 (O.drop k)) rfl (HSUF.out.below hbW) (tk_all f6_one _) (by unfold maxLen; omega) (by omega) hbW.size ?_
                  intro v4 V5 hO hg hor
                  have hbW2 := below_app hbW hbW.size HC.out hg (Nat.le_refl _)
                  clear HC
                  have HC := Lib.hid hO
                  clear hO hg hor hbW
                  have hbW := hbW2
                  clear hbW2
                  have hS := hbW
                  refine hK.out _ _ ?_ (fun hHeld2 => ?_)
                  · clear hK; exact hS
                  clear hK K hHeld hS
                  have hHeld := hHeld2
                  clear hHeld2
                  try simp only [Act.put, List.setIfInBounds_toArray, List.set_cons_zero, List.set_cons_succ]
                  refine takeD 15 (some 5) (v := ?_) rfl rfl (by kernel_rfl) (by kernel_rfl) (by kernel_rfl) (fun _ _ _ h => h) (by rfl) ?_ (by assumption) ?_
                  rotate_left
                  · intro w hSw
                    (try dsimp only at hSw)
                    go_simp
                    try with_reducible rfl
                  try simp only [Act.put, List.setIfInBounds_toArray, List.set_cons_zero, List.set_cons_succ]
                  refine wpAnyH_done (by kernel_rfl) ?_ _
                  have HBW := Lib.hid hbW
                  clear hHeld hbW
                  have HEQ := Lib.hid (ins_put (ts := (ts.map TV.t)) (x := x) (O := O) (k := k) hk HBF2.out (.inr ⟨y, HY.out, HA9.out⟩))
                  obtain ⟨n9, hn9⟩ : ∃ n, n = 0 + k + 1 + (O.length - k) := ⟨_, rfl⟩
                  have HC9 := HC.out
                  clear HC
                  rw [← hn9] at HC9
                  have HN9 := Lib.hid hn9
                  clear hn9
                  obtain ⟨A4, c4, rfl, _⟩ := own_shapeX HC9
                  have HC := Lib.hid HC9
                  clear HC9
                  go_wp2
                  go_roundw
                  case rel => exact ⟨j + 1, O.take k ++ [x] ++ O.drop k, by omega, by go_num, HB0.out.trans (HBW.out.mono HB0.out.size), by
                    have h9 := own_mono HC.out HB0.out.size
                    have e1 : n9 = (O.take k ++ [x] ++ O.drop k).length := by
                      rw [HN9.out, List.length_append, List.length_append, List.length_take, List.length_drop, List.length_singleton]
                      omega
                    rw [List.nil_append, ← tk_one (f := f6) x, ← tk_app, ← tk_app] at h9
                    rw [← e1]
                    exact h9, by
                    rw [HTJ.out, show List.map PV.p (List.take j l ++ [x]) = List.map PV.p (List.take j l) ++ [x.p] from by rw [List.map_append, List.map_singleton], ordR_snoc, ← HOO.out.1]
                    exact HEQ.out, by
                    intro z hz
                    rcases List.mem_append.1 hz with hz | hz
                    · rcases List.mem_append.1 hz with hz | hz
                      · exact HOO.out.2 z (List.mem_of_mem_take hz)
                      · simp at hz
                        subst hz
                        exact List.mem_of_getElem? HX.out
                    · exact HOO.out.2 z (List.mem_of_mem_drop hz)⟩
                  case measure => simp [intOf]; omega

          · as_aux_lemma =>
            clear HBF
            go_wp2_with fail
            refine wp_region_held_drew (S := fun w' => Below wr.heap.size wr w') (by kernel_rfl) (by exact (Below.refl _ _).drew) (fun hHeld => ?_)
            refine takeD 0 (some 15) (v := ?_) rfl rfl (by kernel_rfl) (by kernel_rfl) (by kernel_rfl) (fun _ _ _ h => h) (by rfl) ?_ (by assumption) ?_
            rotate_left
            · intro w hSw
              (try dsimp only at hSw)
              go_simp
              try with_reducible rfl
            try simp only [Act.put, List.setIfInBounds_toArray, List.set_cons_zero, List.set_cons_succ]
            refine takeD 1 (some 16) (v := ?_) rfl rfl (by kernel_rfl) (by kernel_rfl) (by kernel_rfl) (fun _ _ _ h => h) (by rfl) ?_ (by assumption) ?_
            rotate_left
            · intro w hSw
              (try dsimp only at hSw)
              go_simp
              try with_reducible rfl
            try simp only [Act.put, List.setIfInBounds_toArray, List.set_cons_zero, List.set_cons_succ]
            refine takeD 2 (some 17) (v := ?_) rfl rfl (by kernel_rfl) (by kernel_rfl) (by kernel_rfl) (fun _ _ _ h => h) (by rfl) ?_ (by assumption) ?_
            rotate_left
            · intro w hSw
              (try dsimp only at hSw)
              go_simp
              try with_reducible rfl
            try simp only [Act.put, List.setIfInBounds_toArray, List.set_cons_zero, List.set_cons_succ]
            refine takeD 3 (some 18) (v := ?_) rfl rfl (by kernel_rfl) (by kernel_rfl) (by kernel_rfl) (fun _ _ _ h => h) (by rfl) ?_ (by assumption) ?_
            rotate_left
            · intro w hSw
              (try dsimp only at hSw)
              go_simp
              try with_reducible rfl
            try simp only [Act.put, List.setIfInBounds_toArray, List.set_cons_zero, List.set_cons_succ]
            refine takeD 4 (some 19) (v := ?_) rfl rfl (by kernel_rfl) (by kernel_rfl) (by kernel_rfl) (fun _ _ _ h => h) (by rfl) ?_ (by assumption) ?_
            rotate_left
            · intro w hSw
              (try dsimp only at hSw)
              go_simp
              try with_reducible rfl
            try simp only [Act.put, List.setIfInBounds_toArray, List.set_cons_zero, List.set_cons_succ]
            refine takeD 5 (some 20) (v := ?_) rfl rfl (by kernel_rfl) (by kernel_rfl) (by kernel_rfl) (fun _ _ _ h => h) (by rfl) ?_ (by assumption) ?_
            rotate_left
            · intro w hSw
              (try dsimp only at hSw)
              go_simp
              try with_reducible rfl
            try simp only [Act.put, List.setIfInBounds_toArray, List.set_cons_zero, List.set_cons_succ]
            refine takeD 6 (some 21) (v := ?_) rfl rfl (by kernel_rfl) (by kernel_rfl) (by kernel_rfl) (fun _ _ _ h => h) (by rfl) ?_ (by assumption) ?_
            rotate_left
            · intro w hSw
              (try dsimp only at hSw)
              go_simp
              try with_reducible rfl
            try simp only [Act.put, List.setIfInBounds_toArray, List.set_cons_zero, List.set_cons_succ]
            refine takeD 7 (some 22) (v := ?_) rfl rfl (by kernel_rfl) (by kernel_rfl) (by kernel_rfl) (fun _ _ _ h => h) (by rfl) ?_ (by assumption) ?_
            rotate_left
            · intro w hSw
              (try dsimp only at hSw)
              go_simp
              try with_reducible rfl
            try simp only [Act.put, List.setIfInBounds_toArray, List.set_cons_zero, List.set_cons_succ]
            refine takeD 8 (some 23) (v := ?_) rfl rfl (by kernel_rfl) (by kernel_rfl) (by kernel_rfl) (fun _ _ _ h => h) (by rfl) ?_ (by assumption) ?_
            rotate_left
            · intro w hSw
              (try dsimp only at hSw)
              go_simp
              try with_reducible rfl
            try simp only [Act.put, List.setIfInBounds_toArray, List.set_cons_zero, List.set_cons_succ]
            refine skipD 9 (some 24) rfl rfl (by kernel_rfl) (by kernel_rfl) (by kernel_rfl) (fun _ _ _ h => h) (by rfl) (by assumption) ?_
            try simp only [Act.put, List.setIfInBounds_toArray, List.set_cons_zero, List.set_cons_succ]
            refine skipD 10 (some 25) rfl rfl (by kernel_rfl) (by kernel_rfl) (by kernel_rfl) (fun _ _ _ h => h) (by rfl) (by assumption) ?_
            try simp only [Act.put, List.setIfInBounds_toArray, List.set_cons_zero, List.set_cons_succ]
            refine skipD 11 (some 26) rfl rfl (by kernel_rfl) (by kernel_rfl) (by kernel_rfl) (fun _ _ _ h => h) (by rfl) (by assumption) ?_
            try simp only [Act.put, List.setIfInBounds_toArray, List.set_cons_zero, List.set_cons_succ]
            refine skipD 12 (some 27) rfl rfl (by kernel_rfl) (by kernel_rfl) (by kernel_rfl) (fun _ _ _ h => h) (by rfl) (by assumption) ?_
            try simp only [Act.put, List.setIfInBounds_toArray, List.set_cons_zero, List.set_cons_succ]
            refine skipD 13 (some 28) rfl rfl (by kernel_rfl) (by kernel_rfl) (by kernel_rfl) (fun _ _ _ h => h) (by rfl) (by assumption) ?_
            try simp only [Act.put, List.setIfInBounds_toArray, List.set_cons_zero, List.set_cons_succ]
            refine skipD 14 (some 29) rfl rfl (by kernel_rfl) (by kernel_rfl) (by kernel_rfl) (fun _ _ _ h => h) (by rfl) (by assumption) ?_
            try simp only [Act.put, List.setIfInBounds_toArray, List.set_cons_zero, List.set_cons_succ]
            refine skipD 15 (some 30) rfl rfl (by kernel_rfl) (by kernel_rfl) (by kernel_rfl) (fun _ _ _ h => h) (by rfl) (by assumption) ?_
            try simp only [Act.put, List.setIfInBounds_toArray, List.set_cons_zero, List.set_cons_succ]
            refine skipD 16 (some 31) rfl rfl (by kernel_rfl) (by kernel_rfl) (by kernel_rfl) (fun _ _ _ h => h) (by rfl) (by assumption) ?_
            try simp only [Act.put, List.setIfInBounds_toArray, List.set_cons_zero, List.set_cons_succ]
            refine skipD 17 (some 32) rfl rfl (by kernel_rfl) (by kernel_rfl) (by kernel_rfl) (fun _ _ _ h => h) (by rfl) (by assumption) ?_
            try simp only [Act.put, List.setIfInBounds_toArray, List.set_cons_zero, List.set_cons_succ]
            refine skipD 18 (some 33) rfl rfl (by kernel_rfl) (by kernel_rfl) (by kernel_rfl) (fun _ _ _ h => h) (by rfl) (by assumption) ?_
            try simp only [Act.put, List.setIfInBounds_toArray, List.set_cons_zero, List.set_cons_succ]
            refine skipD 19 (some 34) rfl rfl (by kernel_rfl) (by kernel_rfl) (by kernel_rfl) (fun _ _ _ h => h) (by rfl) (by assumption) ?_
            try simp only [Act.put, List.setIfInBounds_toArray, List.set_cons_zero, List.set_cons_succ]
            refine takeD 20 (some 35) (v := ?_) rfl rfl (by kernel_rfl) (by kernel_rfl) (by kernel_rfl) (fun _ _ _ h => h) (by rfl) ?_ (by assumption) ?_
            rotate_left
            · intro w hSw
              (try dsimp only at hSw)
              go_simp
              try with_reducible rfl
            try simp only [Act.put, List.setIfInBounds_toArray, List.set_cons_zero, List.set_cons_succ]
            refine wpAnyH_done (by kernel_rfl) ?_ _
            have HF := Lib.hid hHeld
            clear hHeld
            have HBK2 := Lib.hid (Btrans HBK.out HF.out)
            clear HBK HF
            have HBK := Lib.hid HBK2.out
            clear HBK2
            have HEQ := Lib.hid (HBT.out (by simp))
            have HB8 := Lib.hid (HBw.out.trans (HBK.out.mono HBw.out.size))
            go_wp2
            go_roundw
            case rel => exact ⟨j + 1, O, by omega, by go_num, HB8.out, own_below HOw.out HBK.out, by rw [HTJ.out, List.map_append, List.map_singleton, ordR_snoc, ← HOO.out.1, HEQ.out], HOO.out.2⟩
            case measure => simp [intOf]; omega
        ·
          have hke : k = O.length := by omega
          have hki : ¬ (k : Int) < (O.length : Int) := by omega
          cases b
          · as_aux_lemma =>
            have HBF2 := Lib.hid (HBF.out rfl)
            clear HBF HBT
            have HKE := Lib.hid hke
            clear hke
            go_wp2_with fail
            refine wp_region_held_drew (S := fun w' => Below wr.heap.size wr w') (by kernel_rfl) (by exact (Below.refl _ _).drew) (fun hHeld => ?_)
            refine takeD 0 (some 15) (v := ?_) rfl rfl (by kernel_rfl) (by kernel_rfl) (by kernel_rfl) (fun _ _ _ h => h) (by rfl) ?_ (by assumption) ?_
            rotate_left
            · intro w hSw
              (try dsimp only at hSw)
              go_simp
              try with_reducible rfl
            try simp only [Act.put, List.setIfInBounds_toArray, List.set_cons_zero, List.set_cons_succ]
            refine takeD 1 (some 16) (v := ?_) rfl rfl (by kernel_rfl) (by kernel_rfl) (by kernel_rfl) (fun _ _ _ h => h) (by rfl) ?_ (by assumption) ?_
            rotate_left
            · intro w hSw
              (try dsimp only at hSw)
              go_simp
              try with_reducible rfl
            try simp only [Act.put, List.setIfInBounds_toArray, List.set_cons_zero, List.set_cons_succ]
            refine takeD 2 (some 17) (v := ?_) rfl rfl (by kernel_rfl) (by kernel_rfl) (by kernel_rfl) (fun _ _ _ h => h) (by rfl) ?_ (by assumption) ?_
            rotate_left
            · intro w hSw
              (try dsimp only at hSw)
              go_simp
              try with_reducible rfl
            try simp only [Act.put, List.setIfInBounds_toArray, List.set_cons_zero, List.set_cons_succ]
            refine takeD 3 (some 18) (v := ?_) rfl rfl (by kernel_rfl) (by kernel_rfl) (by kernel_rfl) (fun _ _ _ h => h) (by rfl) ?_ (by assumption) ?_
            rotate_left
            · intro w hSw
              (try dsimp only at hSw)
              go_simp
              try with_reducible rfl
            try simp only [Act.put, List.setIfInBounds_toArray, List.set_cons_zero, List.set_cons_succ]
            refine takeD 4 (some 19) (v := ?_) rfl rfl (by kernel_rfl) (by kernel_rfl) (by kernel_rfl) (fun _ _ _ h => h) (by rfl) ?_ (by assumption) ?_
            rotate_left
            · intro w hSw
              (try dsimp only at hSw)
              go_simp
              try with_reducible rfl
            try simp only [Act.put, List.setIfInBounds_toArray, List.set_cons_zero, List.set_cons_succ]
            refine skipD 5 (some 20) rfl rfl (by kernel_rfl) (by kernel_rfl) (by kernel_rfl) (fun _ _ _ h => h) (by rfl) (by assumption) ?_
            try simp only [Act.put, List.setIfInBounds_toArray, List.set_cons_zero, List.set_cons_succ]
            refine skipD 6 (some 21) rfl rfl (by kernel_rfl) (by kernel_rfl) (by kernel_rfl) (fun _ _ _ h => h) (by rfl) (by assumption) ?_
            try simp only [Act.put, List.setIfInBounds_toArray, List.set_cons_zero, List.set_cons_succ]
            refine takeD 7 (some 22) (v := ?_) rfl rfl (by kernel_rfl) (by kernel_rfl) (by kernel_rfl) (fun _ _ _ h => h) (by rfl) ?_ (by assumption) ?_
            rotate_left
            · intro w hSw
              (try dsimp only at hSw)
              go_simp
              try with_reducible rfl
            try simp only [Act.put, List.setIfInBounds_toArray, List.set_cons_zero, List.set_cons_succ]
            refine takeD 8 (some 23) (v := ?_) rfl rfl (by kernel_rfl) (by kernel_rfl) (by kernel_rfl) (fun _ _ _ h => h) (by rfl) ?_ (by assumption) ?_
            rotate_left
            · intro w hSw
              (try dsimp only at hSw)
              go_simp
              try with_reducible rfl
            try simp only [Act.put, List.setIfInBounds_toArray, List.set_cons_zero, List.set_cons_succ]
            refine skipD 9 (some 24) rfl rfl (by kernel_rfl) (by kernel_rfl) (by kernel_rfl) (fun _ _ _ h => h) (by rfl) (by assumption) ?_
            try simp only [Act.put, List.setIfInBounds_toArray, List.set_cons_zero, List.set_cons_succ]
            refine skipD 10 (some 25) rfl rfl (by kernel_rfl) (by kernel_rfl) (by kernel_rfl) (fun _ _ _ h => h) (by rfl) (by assumption) ?_
            try simp only [Act.put, List.setIfInBounds_toArray, List.set_cons_zero, List.set_cons_succ]
            refine skipD 11 (some 26) rfl rfl (by kernel_rfl) (by kernel_rfl) (by kernel_rfl) (fun _ _ _ h => h) (by rfl) (by assumption) ?_
            try simp only [Act.put, List.setIfInBounds_toArray, List.set_cons_zero, List.set_cons_succ]
            refine skipD 12 (some 27) rfl rfl (by kernel_rfl) (by kernel_rfl) (by kernel_rfl) (fun _ _ _ h => h) (by rfl) (by assumption) ?_
            try simp only [Act.put, List.setIfInBounds_toArray, List.set_cons_zero, List.set_cons_succ]
            refine skipD 13 (some 28) rfl rfl (by kernel_rfl) (by kernel_rfl) (by kernel_rfl) (fun _ _ _ h => h) (by rfl) (by assumption) ?_
            try simp only [Act.put, List.setIfInBounds_toArray, List.set_cons_zero, List.set_cons_succ]
            refine skipD 14 (some 29) rfl rfl (by kernel_rfl) (by kernel_rfl) (by kernel_rfl) (fun _ _ _ h => h) (by rfl) (by assumption) ?_
            try simp only [Act.put, List.setIfInBounds_toArray, List.set_cons_zero, List.set_cons_succ]
            refine skipD 15 (some 30) rfl rfl (by kernel_rfl) (by kernel_rfl) (by kernel_rfl) (fun _ _ _ h => h) (by rfl) (by assumption) ?_
            try simp only [Act.put, List.setIfInBounds_toArray, List.set_cons_zero, List.set_cons_succ]
            refine skipD 16 (some 31) rfl rfl (by kernel_rfl) (by kernel_rfl) (by kernel_rfl) (fun _ _ _ h => h) (by rfl) (by assumption) ?_
            try simp only [Act.put, List.setIfInBounds_toArray, List.set_cons_zero, List.set_cons_succ]
            refine skipD 17 (some 32) rfl rfl (by kernel_rfl) (by kernel_rfl) (by kernel_rfl) (fun _ _ _ h => h) (by rfl) (by assumption) ?_
            try simp only [Act.put, List.setIfInBounds_toArray, List.set_cons_zero, List.set_cons_succ]
            refine skipD 18 (some 33) rfl rfl (by kernel_rfl) (by kernel_rfl) (by kernel_rfl) (fun _ _ _ h => h) (by rfl) (by assumption) ?_
            try simp only [Act.put, List.setIfInBounds_toArray, List.set_cons_zero, List.set_cons_succ]
            refine skipD 19 (some 34) rfl rfl (by kernel_rfl) (by kernel_rfl) (by kernel_rfl) (fun _ _ _ h => h) (by rfl) (by assumption) ?_
            try simp only [Act.put, List.setIfInBounds_toArray, List.set_cons_zero, List.set_cons_succ]
            refine takeD 20 (some 35) (v := ?_) rfl rfl (by kernel_rfl) (by kernel_rfl) (by kernel_rfl) (fun _ _ _ h => h) (by rfl) ?_ (by assumption) ?_
            rotate_left
            · intro w hSw
              (try dsimp only at hSw)
              go_simp
              try with_reducible rfl
            try simp only [Act.put, List.setIfInBounds_toArray, List.set_cons_zero, List.set_cons_succ]
            refine wpAnyH_done (by kernel_rfl) ?_ _
            have HF := Lib.hid hHeld
            clear hHeld
            have HBK2 := Lib.hid (Btrans HBK.out HF.out)
            clear HBK HF
            have HBK := Lib.hid HBK2.out
            clear HBK2
            go_wp2_with fail
            refine wp_world (fun W => Below w.heap.size w W ∧ W.ownsRow w.heap.size 31 6 (.slice OA O.length oc) O.length (tk f6 O)) ⟨HBw.out.trans (HBK.out.mono HBw.out.size), own_below HOw.out HBK.out⟩ fun W0 ⟨hb0, ho0⟩ => ?_
            have HB0 := Lib.hid hb0
            have HO0 := Lib.hid ho0
            have HPRE := Lib.hid (show RowN 6 W0 (.slice OA k oc) k (tk f6 (O.take k)) by rw [tk_take f6_len]; exact (RowN.of_own ho0).pre hk)
            clear hb0 ho0
            have hki : (k : Int) ≤ (oc : Int) := by omega
            have hkn : (k : Int) ≤ (O.length : Int) := by omega
            by_cases hkc : oc = k
            · as_aux_lemma =>
              have HSUF := Lib.hid (show RowN 6 W0 (.slice OA 0 0) 0 (tk f6 (O.drop k)) by
                rw [List.drop_of_length_le (by omega)]
                have h0 := (RowN.of_own HO0.out).pre (Nat.zero_le O.length)
                obtain ⟨q0, A9, c9, q1, q2, q3, q4⟩ := h0
                injection q1 with q1 _ q5
                subst q1 q5
                refine ⟨by simp [tk], OA, 0, rfl, Nat.zero_le _, by omega, ?_⟩
                rcases q4 with ⟨q4, q5⟩ | ⟨ad9, q4, _⟩
                · exact .inl ⟨q4, rfl⟩
                · exact .inr ⟨ad9, q4, fun h => by simp [tk] at h, fun i u hu => by simp [tk] at hu⟩)
              have hko : O.length - k = 0 := by omega
              have hkq : k = oc := hkc.symm
              clear hkc
              subst hkq
              have hbW := (Below.refl W0.heap.size W0)
              have Sz := HSX.out.at HB0.out HB0.out.size
              have z0 := fun V hV => (Sz V hV).1
              have z1 := fun V hV => (Sz V hV).2.1
              have z2 := fun V hV => (Sz V hV).2.2.1
              have z3 := fun V hV => (Sz V hV).2.2.2.1
              have z4 := fun V hV => (Sz V hV).2.2.2.2.1
              have z5 := fun V hV => (Sz V hV).2.2.2.2.2
              clear Sz
              refine wp_region_held_drew (S := fun W => Below W0.heap.size W0 W) (by kernel_rfl) ((Below.refl W0.heap.size W0).drew) (fun hHeld => ?_)
              refine takeD 1 (some 50) (v := ?_) rfl rfl (by kernel_rfl) (by kernel_rfl) (by kernel_rfl) (fun _ _ _ h => h) (by rfl) ?_ (by assumption) ?_
              rotate_left
              · intro w hSw
                (try dsimp only at hSw)
                go_simp
                try with_reducible rfl
              try simp only [Act.put, List.setIfInBounds_toArray, List.set_cons_zero, List.set_cons_succ]
              refine takeD 2 (some 51) (v := ?_) rfl rfl (by kernel_rfl) (by kernel_rfl) (by kernel_rfl) (fun _ _ _ h => h) (by rfl) ?_ (by assumption) ?_
              rotate_left
              · intro w hSw
                (try dsimp only at hSw)
                go_simp
                try with_reducible rfl
              try simp only [Act.put, List.setIfInBounds_toArray, List.set_cons_zero, List.set_cons_succ]
              refine takeD 3 (some 52) (v := ?_) rfl rfl (by kernel_rfl) (by kernel_rfl) (by kernel_rfl) (fun _ _ _ h => h) (by rfl) ?_ (by assumption) ?_
              rotate_left
              · intro w hSw
                (try dsimp only at hSw)
                go_simp
                try with_reducible rfl
              try simp only [Act.put, List.setIfInBounds_toArray, List.set_cons_zero, List.set_cons_succ]
              refine takeD 5 (some 54) (v := ?_) rfl rfl (by kernel_rfl) (by kernel_rfl) (by kernel_rfl) (fun _ _ _ h => h) (by rfl) ?_ (by assumption) ?_
              rotate_left
              · intro w hSw
                (try dsimp only at hSw)
                go_simp
                try with_reducible rfl
              try simp only [Act.put, List.setIfInBounds_toArray, List.set_cons_zero, List.set_cons_succ]
              refine takeD 6 (some 55) (v := ?_) rfl rfl (by kernel_rfl) (by kernel_rfl) (by kernel_rfl) (fun _ _ _ h => h) (by rfl) ?_ (by assumption) ?_
              rotate_left
              · intro w hSw
                (try dsimp only at hSw)
                go_simp
                try with_reducible rfl
              try simp only [Act.put, List.setIfInBounds_toArray, List.set_cons_zero, List.set_cons_succ]
              refine takeD 7 (some 56) (v := ?_) rfl rfl (by kernel_rfl) (by kernel_rfl) (by kernel_rfl) (fun _ _ _ h => h) (by rfl) ?_ (by assumption) ?_
              rotate_left
              · intro w hSw
                (try dsimp only at hSw)
                go_simp
                try with_reducible rfl
              try simp only [Act.put, List.setIfInBounds_toArray, List.set_cons_zero, List.set_cons_succ]
              refine takeD 8 (some 57) (v := ?_) rfl rfl (by kernel_rfl) (by kernel_rfl) (by kernel_rfl) (fun _ _ _ h => h) (by rfl) ?_ (by assumption) ?_
              rotate_left
              · intro w hSw
                (try dsimp only at hSw)
                go_simp
                try with_reducible rfl
              try simp only [Act.put, List.setIfInBounds_toArray, List.set_cons_zero, List.set_cons_succ]
              refine takeD 11 (some 60) (v := ?_) rfl rfl (by kernel_rfl) (by kernel_rfl) (by kernel_rfl) (fun _ _ _ h => h) (by rfl) ?_ (by assumption) ?_
              rotate_left
              · intro w hSw
                (try dsimp only at hSw)
                go_simp
                try with_reducible rfl
              try simp only [Act.put, List.setIfInBounds_toArray, List.set_cons_zero, List.set_cons_succ]
              refine takeD 12 (some 61) (v := ?_) rfl rfl (by kernel_rfl) (by kernel_rfl) (by kernel_rfl) (fun _ _ _ h => h) (by rfl) ?_ (by assumption) ?_
              rotate_left
              · intro w hSw
                (try dsimp only at hSw)
                go_simp
                try with_reducible rfl
              try simp only [Act.put, List.setIfInBounds_toArray, List.set_cons_zero, List.set_cons_succ]
              refine takeD 13 (some 62) (v := ?_) rfl rfl (by kernel_rfl) (by kernel_rfl) (by kernel_rfl) (fun _ _ _ h => h) (by rfl) ?_ (by assumption) ?_
              rotate_left
              · intro w hSw
                (try dsimp only at hSw)
                go_simp
                try with_reducible rfl
              try simp only [Act.put, List.setIfInBounds_toArray, List.set_cons_zero, List.set_cons_succ]
              refine wpAnyH_ready (rs := [0, 9]) (by kernel_rfl) (by simp) ?_
              refine AllReadyH.cons rfl (fun K hK => ?_) (AllReadyH.cons rfl (fun K hK => ?_) AllReadyH.nil)
              · rw [if_pos (by rfl)]
                go_simp
                refine nameV (fun V1 => Below W0.heap.size W0 V1 ∧ World.ownsRow V1 W0.heap.size 31 6 (.slice (some ⟨W0.heap.size, 0, none⟩) 0 0) 0 []) ⟨(hbW.alloc hbW.size _).drew, (World.ownsRow.drew (own_emptyN _ _ _ _ _ hbW.size rfl))⟩ fun V1 ⟨hbW2, qHC⟩ => ?_
                have hbW := hbW2
                clear hbW2
                have HC := Lib.hid qHC
                clear qHC
                have hS := hbW
                refine hK.out _ _ ?_ (fun hHeld2 => ?_)
                · clear hK; exact hS
                clear hK K hHeld hS
                have hHeld := hHeld2
                clear hHeld2
                try simp only [Act.put, List.setIfInBounds_toArray, List.set_cons_zero, List.set_cons_succ]
                refine wpAnyH_ready (rs := [4, 9]) (by kernel_rfl) (by simp) ?_
                refine AllReadyH.cons rfl (fun K hK => ?_) (AllReadyH.cons rfl (fun K hK => ?_) AllReadyH.nil)
                · rw [if_pos (by rfl)]
                  refine wp_appN elPk (.tmp 49) (.tmp 52) rfl W0.heap.size _ 0 [] rfl HC.out _ k (tk f6 (O.take k)) rfl (HPRE.out.below hbW) (tk_all f6_one _) (by unfold maxLen; omega) (by omega) hbW.size ?_
                  intro v2 V2 hO hg hor
                  have hbW2 := below_app hbW hbW.size HC.out hg (Nat.le_refl _)
                  clear HC
                  have HC := Lib.hid hO
                  clear hO hg hor hbW
                  have hbW := hbW2
                  clear hbW2
                  have hS := hbW
                  refine hK.out _ _ ?_ (fun hHeld2 => ?_)
                  · clear hK; exact hS
                  clear hK K hHeld hS
                  have hHeld := hHeld2
                  clear hHeld2
                  try simp only [Act.put, List.setIfInBounds_toArray, List.set_cons_zero, List.set_cons_succ]
                  refine wpAnyH_ready (rs := [9]) (by kernel_rfl) (by simp) ?_
                  refine AllReadyH.cons rfl (fun K hK => ?_) AllReadyH.nil
                  rw [if_pos (by rfl)]
                  refine wp_one6 (by rfl) ?_
                  have HNE := Lib.hid (show some V2.heap.size ≠ Value.ownBlock v2 from ne_some HC.out rfl)
                  refine nameV (fun V3 => Below W0.heap.size W0 V3 ∧ World.ownsRow V3 W0.heap.size 31 6 v2 (0 + k) ([] ++ tk f6 (O.take k)) ∧ Blk V3 V2.heap.size 31 #[.int .i64 x.p.dev, .int .i64 x.p.chan, .int .i64 x.p.boot, .int .i64 x.p.seq, .int .i64 x.p.stamp, .slice x.A x.p.vals.length x.c]) ⟨hbW.alloc hbW.size _, (own_below HC.out ((Below.refl _ _).alloc (Nat.le_refl _) _)), (Blk.new _ _ _ _ rfl)⟩ fun V3 ⟨hbW2, qHC, qHN⟩ => ?_
                  clear HC
                  have hbW := hbW2
                  clear hbW2
                  have HC := Lib.hid qHC
                  clear qHC
                  have HN := Lib.hid qHN
                  clear qHN
                  have hS := hbW
                  refine hK.out _ _ ?_ (fun hHeld2 => ?_)
                  · clear hK; exact hS
                  clear hK K hHeld hS
                  have hHeld := hHeld2
                  clear hHeld2
                  try simp only [Act.put, List.setIfInBounds_toArray, List.set_cons_zero, List.set_cons_succ]
                  refine wpAnyH_ready (rs := [10]) (by kernel_rfl) (by simp) ?_
                  refine AllReadyH.cons rfl (fun K hK => ?_) AllReadyH.nil
                  rw [if_pos (by rfl)]
                  refine wp_appN elPk (.tmp 53) (.tmp 58) rfl W0.heap.size _ (0 + k) ([] ++ tk f6 (O.take k)) rfl HC.out _ 1 (f6 x) rfl (RowN.of_blk HN.out rfl rfl (Nat.le_refl _) (by decide)) (f6_one _) (by unfold maxLen; omega) (by omega) hbW.size ?_
                  intro v3 V4 hO hg hor
                  have hbW2 := below_app hbW hbW.size HC.out hg (Nat.le_refl _)
                  clear HC
                  have HC := Lib.hid hO
                  clear hO hg hor hbW
                  have hbW := hbW2
                  clear hbW2
                  have hS := hbW
                  refine hK.out _ _ ?_ (fun hHeld2 => ?_)
                  · clear hK; exact hS
                  clear hK K hHeld hS
                  have hHeld := hHeld2
                  clear hHeld2
                  try simp only [Act.put, List.setIfInBounds_toArray, List.set_cons_zero, List.set_cons_succ]
                  refine wpAnyH_ready (rs := [14]) (by kernel_rfl) (by simp) ?_
                  refine AllReadyH.cons rfl (fun K hK => ?_) AllReadyH.nil
                  rw [if_pos (by rfl)]
                  refine wp_appN elPk (.tmp 59) (.tmp 62) rfl W0.heap.size _ (0 + k + 1) ([] ++ tk f6 (O.take k) ++ f6 x) rfl HC.out _ 0 (tk f6 (O.drop k)) rfl (HSUF.out.below hbW) (tk_all f6_one _) (by unfold maxLen; omega) (by omega) hbW.size ?_
                  intro v4 V5 hO hg hor
                  have hbW2 := below_app hbW hbW.size HC.out hg (Nat.le_refl _)
                  clear HC
                  have HC := Lib.hid hO
                  clear hO hg hor hbW
                  have hbW := hbW2
                  clear hbW2
                  have hS := hbW
                  refine hK.out _ _ ?_ (fun hHeld2 => ?_)
                  · clear hK; exact hS
                  clear hK K hHeld hS
                  have hHeld := hHeld2
                  clear hHeld2
                  try simp only [Act.put, List.setIfInBounds_toArray, List.set_cons_zero, List.set_cons_succ]
                  refine takeD 15 (some 5) (v := ?_) rfl rfl (by kernel_rfl) (by kernel_rfl) (by kernel_rfl) (fun _ _ _ h => h) (by rfl) ?_ (by assumption) ?_
                  rotate_left
                  · intro w hSw
                    (try dsimp only at hSw)
                    go_simp
                    try with_reducible rfl
                  try simp only [Act.put, List.setIfInBounds_toArray, List.set_cons_zero, List.set_cons_succ]
                  refine wpAnyH_done (by kernel_rfl) ?_ _
                  have HBW := Lib.hid hbW
                  clear hHeld hbW
                  have HEQ := Lib.hid (ins_put (ts := (ts.map TV.t)) (x := x) (O := O) (k := k) hk HBF2.out (.inl HKE.out))
                  obtain ⟨n9, hn9⟩ : ∃ n, n = 0 + k + 1 + 0 := ⟨_, rfl⟩
                  have HC9 := HC.out
                  clear HC
                  rw [← hn9] at HC9
                  have HN9 := Lib.hid hn9
                  clear hn9
                  obtain ⟨A4, c4, rfl, _⟩ := own_shapeX HC9
                  have HC := Lib.hid HC9
                  clear HC9
                  go_wp2
                  go_roundw
                  case rel => exact ⟨j + 1, O.take k ++ [x] ++ O.drop k, by omega, by go_num, HB0.out.trans (HBW.out.mono HB0.out.size), by
                    have h9 := own_mono HC.out HB0.out.size
                    have e1 : n9 = (O.take k ++ [x] ++ O.drop k).length := by
                      rw [HN9.out, List.length_append, List.length_append, List.length_take, List.length_drop, List.length_singleton]
                      omega
                    rw [List.nil_append, ← tk_one (f := f6) x, ← tk_app, ← tk_app] at h9
                    rw [← e1]
                    exact h9, by
                    rw [HTJ.out, show List.map PV.p (List.take j l ++ [x]) = List.map PV.p (List.take j l) ++ [x.p] from by rw [List.map_append, List.map_singleton], ordR_snoc, ← HOO.out.1]
                    exact HEQ.out, by
                    intro z hz
                    rcases List.mem_append.1 hz with hz | hz
                    · rcases List.mem_append.1 hz with hz | hz
                      · exact HOO.out.2 z (List.mem_of_mem_take hz)
                      · simp at hz
                        subst hz
                        exact List.mem_of_getElem? HX.out
                    · exact HOO.out.2 z (List.mem_of_mem_drop hz)⟩
                  case measure => simp [intOf]; omega
                · rw [if_pos (by rfl)]
                  refine wp_one6 (by rfl) ?_
                  have HNE := Lib.hid (show some V1.heap.size ≠ Value.ownBlock (.slice (some ⟨W0.heap.size, 0, none⟩) 0 0) from ne_some HC.out rfl)
                  refine nameV (fun V2 => Below W0.heap.size W0 V2 ∧ World.ownsRow V2 W0.heap.size 31 6 (.slice (some ⟨W0.heap.size, 0, none⟩) 0 0) 0 [] ∧ Blk V2 V1.heap.size 31 #[.int .i64 x.p.dev, .int .i64 x.p.chan, .int .i64 x.p.boot, .int .i64 x.p.seq, .int .i64 x.p.stamp, .slice x.A x.p.vals.length x.c]) ⟨hbW.alloc hbW.size _, (own_below HC.out ((Below.refl _ _).alloc (Nat.le_refl _) _)), (Blk.new _ _ _ _ rfl)⟩ fun V2 ⟨hbW2, qHC, qHN⟩ => ?_
                  clear HC
                  have hbW := hbW2
                  clear hbW2
                  have HC := Lib.hid qHC
                  clear qHC
                  have HN := Lib.hid qHN
                  clear qHN
                  have hS := hbW
                  refine hK.out _ _ ?_ (fun hHeld2 => ?_)
                  · clear hK; exact hS
                  clear hK K hHeld hS
                  have hHeld := hHeld2
                  clear hHeld2
                  try simp only [Act.put, List.setIfInBounds_toArray, List.set_cons_zero, List.set_cons_succ]
                  refine wpAnyH_ready (rs := [4]) (by kernel_rfl) (by simp) ?_
                  refine AllReadyH.cons rfl (fun K hK => ?_) AllReadyH.nil
                  rw [if_pos (by rfl)]
                  refine wp_appN elPk (.tmp 49) (.tmp 52) rfl W0.heap.size _ 0 [] rfl HC.out _ k (tk f6 (O.take k)) rfl (HPRE.out.below hbW) (tk_all f6_one _) (by unfold maxLen; omega) (by omega) hbW.size ?_
                  intro v2 V3 hO hg hor
                  have hbW2 := below_app hbW hbW.size HC.out hg (Nat.le_refl _)
                  have HN2 := Lib.hid (show Blk _ _ _ _ from (hg.block _ HN.out.lt HNE.out).trans HN.out)
                  have HNE2 := Lib.hid (show some V1.heap.size ≠ Value.ownBlock v2 by rcases hor with e | e <;> rw [e] <;> first | exact HNE.out | (intro he; injection he with he; have := HN.out.lt; omega))
                  clear HN HNE
                  have HN := Lib.hid HN2.out
                  have HNE := Lib.hid HNE2.out
                  clear HN2 HNE2
                  clear HC
                  have HC := Lib.hid hO
                  clear hO hg hor hbW
                  have hbW := hbW2
                  clear hbW2
                  have hS := hbW
                  refine hK.out _ _ ?_ (fun hHeld2 => ?_)
                  · clear hK; exact hS
                  clear hK K hHeld hS
                  have hHeld := hHeld2
                  clear hHeld2
                  try simp only [Act.put, List.setIfInBounds_toArray, List.set_cons_zero, List.set_cons_succ]
                  refine wpAnyH_ready (rs := [10]) (by kernel_rfl) (by simp) ?_
                  refine AllReadyH.cons rfl (fun K hK => ?_) AllReadyH.nil
                  rw [if_pos (by rfl)]
                  refine wp_appN elPk (.tmp 53) (.tmp 58) rfl W0.heap.size _ (0 + k) ([] ++ tk f6 (O.take k)) rfl HC.out _ 1 (f6 x) rfl (RowN.of_blk HN.out rfl rfl (Nat.le_refl _) (by decide)) (f6_one _) (by unfold maxLen; omega) (by omega) hbW.size ?_
                  intro v3 V4 hO hg hor
                  have hbW2 := below_app hbW hbW.size HC.out hg (Nat.le_refl _)
                  clear HC
                  have HC := Lib.hid hO
                  clear hO hg hor hbW
                  have hbW := hbW2
                  clear hbW2
                  have hS := hbW
                  refine hK.out _ _ ?_ (fun hHeld2 => ?_)
                  · clear hK; exact hS
                  clear hK K hHeld hS
                  have hHeld := hHeld2
                  clear hHeld2
                  try simp only [Act.put, List.setIfInBounds_toArray, List.set_cons_zero, List.set_cons_succ]
                  refine wpAnyH_ready (rs := [14]) (by kernel_rfl) (by simp) ?_
                  refine AllReadyH.cons rfl (fun K hK => ?_) AllReadyH.nil
                  rw [if_pos (by rfl)]
                  refine wp_appN elPk (.tmp 59) (.tmp 62) rfl W0.heap.size _ (0 + k + 1) ([] ++ tk f6 (O.take k) ++ f6 x) rfl HC.out _ 0 (tk f6 (O.drop k)) rfl (HSUF.out.below hbW) (tk_all f6_one _) (by unfold maxLen; omega) (by omega) hbW.size ?_
                  intro v4 V5 hO hg hor
                  have hbW2 := below_app hbW hbW.size HC.out hg (Nat.le_refl _)
                  clear HC
                  have HC := Lib.hid hO
                  clear hO hg hor hbW
                  have hbW := hbW2
                  clear hbW2
                  have hS := hbW
                  refine hK.out _ _ ?_ (fun hHeld2 => ?_)
                  · clear hK; exact hS
                  clear hK K hHeld hS
                  have hHeld := hHeld2
                  clear hHeld2
                  try simp only [Act.put, List.setIfInBounds_toArray, List.set_cons_zero, List.set_cons_succ]
                  refine takeD 15 (some 5) (v := ?_) rfl rfl (by kernel_rfl) (by kernel_rfl) (by kernel_rfl) (fun _ _ _ h => h) (by rfl) ?_ (by assumption) ?_
                  rotate_left
                  · intro w hSw
                    (try dsimp only at hSw)
                    go_simp
                    try with_reducible rfl
                  try simp only [Act.put, List.setIfInBounds_toArray, List.set_cons_zero, List.set_cons_succ]
                  refine wpAnyH_done (by kernel_rfl) ?_ _
                  have HBW := Lib.hid hbW
                  clear hHeld hbW
                  have HEQ := Lib.hid (ins_put (ts := (ts.map TV.t)) (x := x) (O := O) (k := k) hk HBF2.out (.inl HKE.out))
                  obtain ⟨n9, hn9⟩ : ∃ n, n = 0 + k + 1 + 0 := ⟨_, rfl⟩
                  have HC9 := HC.out
                  clear HC
                  rw [← hn9] at HC9
                  have HN9 := Lib.hid hn9
                  clear hn9
                  obtain ⟨A4, c4, rfl, _⟩ := own_shapeX HC9
                  have HC := Lib.hid HC9
                  clear HC9
                  go_wp2
                  go_roundw
                  case rel => exact ⟨j + 1, O.take k ++ [x] ++ O.drop k, by omega, by go_num, HB0.out.trans (HBW.out.mono HB0.out.size), by
                    have h9 := own_mono HC.out HB0.out.size
                    have e1 : n9 = (O.take k ++ [x] ++ O.drop k).length := by
                      rw [HN9.out, List.length_append, List.length_append, List.length_take, List.length_drop, List.length_singleton]
                      omega
                    rw [List.nil_append, ← tk_one (f := f6) x, ← tk_app, ← tk_app] at h9
                    rw [← e1]
                    exact h9, by
                    rw [HTJ.out, show List.map PV.p (List.take j l ++ [x]) = List.map PV.p (List.take j l) ++ [x.p] from by rw [List.map_append, List.map_singleton], ordR_snoc, ← HOO.out.1]
                    exact HEQ.out, by
                    intro z hz
                    rcases List.mem_append.1 hz with hz | hz
                    · rcases List.mem_append.1 hz with hz | hz
                      · exact HOO.out.2 z (List.mem_of_mem_take hz)
                      · simp at hz
                        subst hz
                        exact List.mem_of_getElem? HX.out
                    · exact HOO.out.2 z (List.mem_of_mem_drop hz)⟩
                  case measure => simp [intOf]; omega
              · rw [if_pos (by rfl)]
                refine wp_one6 (by rfl) ?_
                refine nameV (fun V1 => Below W0.heap.size W0 V1 ∧ Blk V1 W0.heap.size 31 #[.int .i64 x.p.dev, .int .i64 x.p.chan, .int .i64 x.p.boot, .int .i64 x.p.seq, .int .i64 x.p.stamp, .slice x.A x.p.vals.length x.c]) ⟨(hbW.alloc hbW.size _).drew, (Blk.drw (Blk.new _ _ _ _ rfl))⟩ fun V1 ⟨hbW2, qHN⟩ => ?_
                have hbW := hbW2
                clear hbW2
                have HN := Lib.hid qHN
                clear qHN
                have hS := hbW
                refine hK.out _ _ ?_ (fun hHeld2 => ?_)
                · clear hK; exact hS
                clear hK K hHeld hS
                have hHeld := hHeld2
                clear hHeld2
                try simp only [Act.put, List.setIfInBounds_toArray, List.set_cons_zero, List.set_cons_succ]
                refine wpAnyH_ready (rs := [0]) (by kernel_rfl) (by simp) ?_
                refine AllReadyH.cons rfl (fun K hK => ?_) AllReadyH.nil
                rw [if_pos (by rfl)]
                go_simp
                have HNE := Lib.hid (show some W0.heap.size ≠ Value.ownBlock (.slice (some ⟨V1.heap.size, 0, none⟩) 0 0) from (fun he => absurd (Option.some.inj he) (Nat.ne_of_lt HN.out.lt)))
                refine nameV (fun V2 => Below W0.heap.size W0 V2 ∧ World.ownsRow V2 W0.heap.size 31 6 (.slice (some ⟨V1.heap.size, 0, none⟩) 0 0) 0 [] ∧ Blk V2 W0.heap.size 31 #[.int .i64 x.p.dev, .int .i64 x.p.chan, .int .i64 x.p.boot, .int .i64 x.p.seq, .int .i64 x.p.stamp, .slice x.A x.p.vals.length x.c]) ⟨hbW.alloc hbW.size _, (own_emptyN _ _ _ _ _ hbW.size rfl), (HN.out.al _)⟩ fun V2 ⟨hbW2, qHC, qHN⟩ => ?_
                clear HN
                have hbW := hbW2
                clear hbW2
                have HC := Lib.hid qHC
                clear qHC
                have HN := Lib.hid qHN
                clear qHN
                have hS := hbW
                refine hK.out _ _ ?_ (fun hHeld2 => ?_)
                · clear hK; exact hS
                clear hK K hHeld hS
                have hHeld := hHeld2
                clear hHeld2
                try simp only [Act.put, List.setIfInBounds_toArray, List.set_cons_zero, List.set_cons_succ]
                refine wpAnyH_ready (rs := [4]) (by kernel_rfl) (by simp) ?_
                refine AllReadyH.cons rfl (fun K hK => ?_) AllReadyH.nil
                rw [if_pos (by rfl)]
                refine wp_appN elPk (.tmp 49) (.tmp 52) rfl W0.heap.size _ 0 [] rfl HC.out _ k (tk f6 (O.take k)) rfl (HPRE.out.below hbW) (tk_all f6_one _) (by unfold maxLen; omega) (by omega) hbW.size ?_
                intro v2 V3 hO hg hor
                have hbW2 := below_app hbW hbW.size HC.out hg (Nat.le_refl _)
                have HN2 := Lib.hid (show Blk _ _ _ _ from (hg.block _ HN.out.lt HNE.out).trans HN.out)
                have HNE2 := Lib.hid (show some W0.heap.size ≠ Value.ownBlock v2 by rcases hor with e | e <;> rw [e] <;> first | exact HNE.out | (intro he; injection he with he; have := HN.out.lt; omega))
                clear HN HNE
                have HN := Lib.hid HN2.out
                have HNE := Lib.hid HNE2.out
                clear HN2 HNE2
                clear HC
                have HC := Lib.hid hO
                clear hO hg hor hbW
                have hbW := hbW2
                clear hbW2
                have hS := hbW
                refine hK.out _ _ ?_ (fun hHeld2 => ?_)
                · clear hK; exact hS
                clear hK K hHeld hS
                have hHeld := hHeld2
                clear hHeld2
                try simp only [Act.put, List.setIfInBounds_toArray, List.set_cons_zero, List.set_cons_succ]
                refine wpAnyH_ready (rs := [10]) (by kernel_rfl) (by simp) ?_
                refine AllReadyH.cons rfl (fun K hK => ?_) AllReadyH.nil
                rw [if_pos (by rfl)]
                refine wp_appN elPk (.tmp 53) (.tmp 58) rfl W0.heap.size _ (0 + k) ([] ++ tk f6 (O.take k)) rfl HC.out _ 1 (f6 x) rfl (RowN.of_blk HN.out rfl rfl (Nat.le_refl _) (by decide)) (f6_one _) (by unfold maxLen; omega) (by omega) hbW.size ?_
                intro v3 V4 hO hg hor
                have hbW2 := below_app hbW hbW.size HC.out hg (Nat.le_refl _)
                clear HC
                have HC := Lib.hid hO
                clear hO hg hor hbW
                have hbW := hbW2
                clear hbW2
                have hS := hbW
                refine hK.out _ _ ?_ (fun hHeld2 => ?_)
                · clear hK; exact hS
                clear hK K hHeld hS
                have hHeld := hHeld2
                clear hHeld2
                try simp only [Act.put, List.setIfInBounds_toArray, List.set_cons_zero, List.set_cons_succ]
                refine wpAnyH_ready (rs := [14]) (by kernel_rfl) (by simp) ?_
                refine AllReadyH.cons rfl (fun K hK => ?_) AllReadyH.nil
                rw [if_pos (by rfl)]
                refine wp_appN elPk (.tmp 59) (.tmp 62) rfl W0.heap.size _ (0 + k + 1) ([] ++ tk f6 (O.take k) ++ f6 x) rfl HC.out _ 0 (tk f6 (O.drop k)) rfl (HSUF.out.below hbW) (tk_all f6_one _) (by unfold maxLen; omega) (by omega) hbW.size ?_
                intro v4 V5 hO hg hor
                have hbW2 := below_app hbW hbW.size HC.out hg (Nat.le_refl _)
                clear HC
                have HC := Lib.hid hO
                clear hO hg hor hbW
                have hbW := hbW2
                clear hbW2
                have hS := hbW
                refine hK.out _ _ ?_ (fun hHeld2 => ?_)
                · clear hK; exact hS
                clear hK K hHeld hS
                have hHeld := hHeld2
                clear hHeld2
                try simp only [Act.put, List.setIfInBounds_toArray, List.set_cons_zero, List.set_cons_succ]
                refine takeD 15 (some 5) (v := ?_) rfl rfl (by kernel_rfl) (by kernel_rfl) (by kernel_rfl) (fun _ _ _ h => h) (by rfl) ?_ (by assumption) ?_
                rotate_left
                · intro w hSw
                  (try dsimp only at hSw)
                  go_simp
                  try with_reducible rfl
                try simp only [Act.put, List.setIfInBounds_toArray, List.set_cons_zero, List.set_cons_succ]
                refine wpAnyH_done (by kernel_rfl) ?_ _
                have HBW := Lib.hid hbW
                clear hHeld hbW
                have HEQ := Lib.hid (ins_put (ts := (ts.map TV.t)) (x := x) (O := O) (k := k) hk HBF2.out (.inl HKE.out))
                obtain ⟨n9, hn9⟩ : ∃ n, n = 0 + k + 1 + 0 := ⟨_, rfl⟩
                have HC9 := HC.out
                clear HC
                rw [← hn9] at HC9
                have HN9 := Lib.hid hn9
                clear hn9
                obtain ⟨A4, c4, rfl, _⟩ := own_shapeX HC9
                have HC := Lib.hid HC9
                clear HC9
                go_wp2
                go_roundw
                case rel => exact ⟨j + 1, O.take k ++ [x] ++ O.drop k, by omega, by go_num, HB0.out.trans (HBW.out.mono HB0.out.size), by
                  have h9 := own_mono HC.out HB0.out.size
                  have e1 : n9 = (O.take k ++ [x] ++ O.drop k).length := by
                    rw [HN9.out, List.length_append, List.length_append, List.length_take, List.length_drop, List.length_singleton]
                    omega
                  rw [List.nil_append, ← tk_one (f := f6) x, ← tk_app, ← tk_app] at h9
                  rw [← e1]
                  exact h9, by
                  rw [HTJ.out, show List.map PV.p (List.take j l ++ [x]) = List.map PV.p (List.take j l) ++ [x.p] from by rw [List.map_append, List.map_singleton], ordR_snoc, ← HOO.out.1]
                  exact HEQ.out, by
                  intro z hz
                  rcases List.mem_append.1 hz with hz | hz
                  · rcases List.mem_append.1 hz with hz | hz
                    · exact HOO.out.2 z (List.mem_of_mem_take hz)
                    · simp at hz
                      subst hz
                      exact List.mem_of_getElem? HX.out
                  · exact HOO.out.2 z (List.mem_of_mem_drop hz)⟩
                case measure => simp [intOf]; omega

            · as_aux_lemma =>
              have HSUF := Lib.hid (show ∃ ad, OA = some ad ∧ RowN 6 W0 (.slice (some (ad.add (k * 6))) (O.length - k) (oc - k)) (O.length - k) (tk f6 (O.drop k)) by
                have h0 := RowN.of_own HO0.out
                have h1 := h0
                obtain ⟨q0, A9, c9, q1, q2, q3, q4⟩ := h0
                injection q1 with q1 _ q5
                subst q1 q5
                rcases q4 with ⟨q4, q5⟩ | ⟨ad9, q4, _⟩
                · first | omega | (cases q4)
                · first | subst q4 | (injection q4 with q4; subst q4)
                  exact ⟨_, rfl, h1.suf f6_len rfl hk⟩)
              obtain ⟨ad9, e9, hsuf⟩ := HSUF.out
              first | subst e9 | (injection e9 with e9; subst e9)
              have HSUF2 := Lib.hid hsuf
              clear hsuf HSUF
              have HSUF := Lib.hid HSUF2.out
              clear HSUF2
              have g9 : (oc == k) = false := by simpa using hkc
              have g9' : ((oc : Int) == (k : Int)) = false := by simp; omega
              have hbW := (Below.refl W0.heap.size W0)
              have Sz := HSX.out.at HB0.out HB0.out.size
              have z0 := fun V hV => (Sz V hV).1
              have z1 := fun V hV => (Sz V hV).2.1
              have z2 := fun V hV => (Sz V hV).2.2.1
              have z3 := fun V hV => (Sz V hV).2.2.2.1
              have z4 := fun V hV => (Sz V hV).2.2.2.2.1
              have z5 := fun V hV => (Sz V hV).2.2.2.2.2
              clear Sz
              refine wp_region_held_drew (S := fun W => Below W0.heap.size W0 W) (by kernel_rfl) ((Below.refl W0.heap.size W0).drew) (fun hHeld => ?_)
              refine takeD 1 (some 50) (v := ?_) rfl rfl (by kernel_rfl) (by kernel_rfl) (by kernel_rfl) (fun _ _ _ h => h) (by rfl) ?_ (by assumption) ?_
              rotate_left
              · intro w hSw
                (try dsimp only at hSw)
                go_simp
                try with_reducible rfl
              try simp only [Act.put, List.setIfInBounds_toArray, List.set_cons_zero, List.set_cons_succ]
              refine takeD 2 (some 51) (v := ?_) rfl rfl (by kernel_rfl) (by kernel_rfl) (by kernel_rfl) (fun _ _ _ h => h) (by rfl) ?_ (by assumption) ?_
              rotate_left
              · intro w hSw
                (try dsimp only at hSw)
                go_simp
                try with_reducible rfl
              try simp only [Act.put, List.setIfInBounds_toArray, List.set_cons_zero, List.set_cons_succ]
              refine takeD 3 (some 52) (v := ?_) rfl rfl (by kernel_rfl) (by kernel_rfl) (by kernel_rfl) (fun _ _ _ h => h) (by rfl) ?_ (by assumption) ?_
              rotate_left
              · intro w hSw
                (try dsimp only at hSw)
                go_simp
                try with_reducible rfl
              try simp only [Act.put, List.setIfInBounds_toArray, List.set_cons_zero, List.set_cons_succ]
              refine takeD 5 (some 54) (v := ?_) rfl rfl (by kernel_rfl) (by kernel_rfl) (by kernel_rfl) (fun _ _ _ h => h) (by rfl) ?_ (by assumption) ?_
              rotate_left
              · intro w hSw
                (try dsimp only at hSw)
                go_simp
                try with_reducible rfl
              try simp only [Act.put, List.setIfInBounds_toArray, List.set_cons_zero, List.set_cons_succ]
              refine takeD 6 (some 55) (v := ?_) rfl rfl (by kernel_rfl) (by kernel_rfl) (by kernel_rfl) (fun _ _ _ h => h) (by rfl) ?_ (by assumption) ?_
              rotate_left
              · intro w hSw
                (try dsimp only at hSw)
                go_simp
                try with_reducible rfl
              try simp only [Act.put, List.setIfInBounds_toArray, List.set_cons_zero, List.set_cons_succ]
              refine takeD 7 (some 56) (v := ?_) rfl rfl (by kernel_rfl) (by kernel_rfl) (by kernel_rfl) (fun _ _ _ h => h) (by rfl) ?_ (by assumption) ?_
              rotate_left
              · intro w hSw
                (try dsimp only at hSw)
                go_simp
                try with_reducible rfl
              try simp only [Act.put, List.setIfInBounds_toArray, List.set_cons_zero, List.set_cons_succ]
              refine takeD 8 (some 57) (v := ?_) rfl rfl (by kernel_rfl) (by kernel_rfl) (by kernel_rfl) (fun _ _ _ h => h) (by rfl) ?_ (by assumption) ?_
              rotate_left
              · intro w hSw
                (try dsimp only at hSw)
                go_simp
                try with_reducible rfl
              try simp only [Act.put, List.setIfInBounds_toArray, List.set_cons_zero, List.set_cons_succ]
              refine takeD 11 (some 60) (v := ?_) rfl rfl (by kernel_rfl) (by kernel_rfl) (by kernel_rfl) (fun _ _ _ h => h) (by rfl) ?_ (by assumption) ?_
              rotate_left
              · intro w hSw
                (try dsimp only at hSw)
                go_simp
                try with_reducible rfl
              try simp only [Act.put, List.setIfInBounds_toArray, List.set_cons_zero, List.set_cons_succ]
              refine takeD 12 (some 61) (v := ?_) rfl rfl (by kernel_rfl) (by kernel_rfl) (by kernel_rfl) (fun _ _ _ h => h) (by rfl) ?_ (by assumption) ?_
              rotate_left
              · intro w hSw
                (try dsimp only at hSw)
                go_simp
                try with_reducible rfl
              try simp only [Act.put, List.setIfInBounds_toArray, List.set_cons_zero, List.set_cons_succ]
              refine takeD 13 (some 62) (v := ?_) rfl rfl (by kernel_rfl) (by kernel_rfl) (by kernel_rfl) (fun _ _ _ h => h) (by rfl) ?_ (by assumption) ?_
              rotate_left
              · intro w hSw
                (try dsimp only at hSw)
                go_simp
                try with_reducible rfl
              try simp only [Act.put, List.setIfInBounds_toArray, List.set_cons_zero, List.set_cons_succ]
              refine wpAnyH_ready (rs := [0, 9]) (by kernel_rfl) (by simp) ?_
              refine AllReadyH.cons rfl (fun K hK => ?_) (AllReadyH.cons rfl (fun K hK => ?_) AllReadyH.nil)
              · rw [if_pos (by rfl)]
                go_simp
                refine nameV (fun V1 => Below W0.heap.size W0 V1 ∧ World.ownsRow V1 W0.heap.size 31 6 (.slice (some ⟨W0.heap.size, 0, none⟩) 0 0) 0 []) ⟨(hbW.alloc hbW.size _).drew, (World.ownsRow.drew (own_emptyN _ _ _ _ _ hbW.size rfl))⟩ fun V1 ⟨hbW2, qHC⟩ => ?_
                have hbW := hbW2
                clear hbW2
                have HC := Lib.hid qHC
                clear qHC
                have hS := hbW
                refine hK.out _ _ ?_ (fun hHeld2 => ?_)
                · clear hK; exact hS
                clear hK K hHeld hS
                have hHeld := hHeld2
                clear hHeld2
                try simp only [Act.put, List.setIfInBounds_toArray, List.set_cons_zero, List.set_cons_succ]
                refine wpAnyH_ready (rs := [4, 9]) (by kernel_rfl) (by simp) ?_
                refine AllReadyH.cons rfl (fun K hK => ?_) (AllReadyH.cons rfl (fun K hK => ?_) AllReadyH.nil)
                · rw [if_pos (by rfl)]
                  refine wp_appN elPk (.tmp 49) (.tmp 52) rfl W0.heap.size _ 0 [] rfl HC.out _ k (tk f6 (O.take k)) rfl (HPRE.out.below hbW) (tk_all f6_one _) (by unfold maxLen; omega) (by omega) hbW.size ?_
                  intro v2 V2 hO hg hor
                  have hbW2 := below_app hbW hbW.size HC.out hg (Nat.le_refl _)
                  clear HC
                  have HC := Lib.hid hO
                  clear hO hg hor hbW
                  have hbW := hbW2
                  clear hbW2
                  have hS := hbW
                  refine hK.out _ _ ?_ (fun hHeld2 => ?_)
                  · clear hK; exact hS
                  clear hK K hHeld hS
                  have hHeld := hHeld2
                  clear hHeld2
                  try simp only [Act.put, List.setIfInBounds_toArray, List.set_cons_zero, List.set_cons_succ]
                  refine wpAnyH_ready (rs := [9]) (by kernel_rfl) (by simp) ?_
                  refine AllReadyH.cons rfl (fun K hK => ?_) AllReadyH.nil
                  rw [if_pos (by rfl)]
                  refine wp_one6 (by rfl) ?_
                  have HNE := Lib.hid (show some V2.heap.size ≠ Value.ownBlock v2 from ne_some HC.out rfl)
                  refine nameV (fun V3 => Below W0.heap.size W0 V3 ∧ World.ownsRow V3 W0.heap.size 31 6 v2 (0 + k) ([] ++ tk f6 (O.take k)) ∧ Blk V3 V2.heap.size 31 #[.int .i64 x.p.dev, .int .i64 x.p.chan, .int .i64 x.p.boot, .int .i64 x.p.seq, .int .i64 x.p.stamp, .slice x.A x.p.vals.length x.c]) ⟨hbW.alloc hbW.size _, (own_below HC.out ((Below.refl _ _).alloc (Nat.le_refl _) _)), (Blk.new _ _ _ _ rfl)⟩ fun V3 ⟨hbW2, qHC, qHN⟩ => ?_
                  clear HC
                  have hbW := hbW2
                  clear hbW2
                  have HC := Lib.hid qHC
                  clear qHC
                  have HN := Lib.hid qHN
                  clear qHN
                  have hS := hbW
                  refine hK.out _ _ ?_ (fun hHeld2 => ?_)
                  · clear hK; exact hS
                  clear hK K hHeld hS
                  have hHeld := hHeld2
                  clear hHeld2
                  try simp only [Act.put, List.setIfInBounds_toArray, List.set_cons_zero, List.set_cons_succ]
                  refine wpAnyH_ready (rs := [10]) (by kernel_rfl) (by simp) ?_
                  refine AllReadyH.cons rfl (fun K hK => ?_) AllReadyH.nil
                  rw [if_pos (by rfl)]
                  refine wp_appN elPk (.tmp 53) (.tmp 58) rfl W0.heap.size _ (0 + k) ([] ++ tk f6 (O.take k)) rfl HC.out _ 1 (f6 x) rfl (RowN.of_blk HN.out rfl rfl (Nat.le_refl _) (by decide)) (f6_one _) (by unfold maxLen; omega) (by omega) hbW.size ?_
                  intro v3 V4 hO hg hor
                  have hbW2 := below_app hbW hbW.size HC.out hg (Nat.le_refl _)
                  clear HC
                  have HC := Lib.hid hO
                  clear hO hg hor hbW
                  have hbW := hbW2
                  clear hbW2
                  have hS := hbW
                  refine hK.out _ _ ?_ (fun hHeld2 => ?_)
                  · clear hK; exact hS
                  clear hK K hHeld hS
                  have hHeld := hHeld2
                  clear hHeld2
                  try simp only [Act.put, List.setIfInBounds_toArray, List.set_cons_zero, List.set_cons_succ]
                  refine wpAnyH_ready (rs := [14]) (by kernel_rfl) (by simp) ?_
                  refine AllReadyH.cons rfl (fun K hK => ?_) AllReadyH.nil
                  rw [if_pos (by rfl)]
                  refine wp_appN elPk (.tmp 59) (.tmp 62) rfl W0.heap.size _ (0 + k + 1) ([] ++ tk f6 (O.take k) ++ f6 x) rfl HC.out _ (O.length - k) (tk f6 (O.drop k)) rfl (HSUF.out.below hbW) (tk_all f6_one _) (by unfold maxLen; omega) (by omega) hbW.size ?_
                  intro v4 V5 hO hg hor
                  have hbW2 := below_app hbW hbW.size HC.out hg (Nat.le_refl _)
                  clear HC
                  have HC := Lib.hid hO
                  clear hO hg hor hbW
                  have hbW := hbW2
                  clear hbW2
                  have hS := hbW
                  refine hK.out _ _ ?_ (fun hHeld2 => ?_)
                  · clear hK; exact hS
                  clear hK K hHeld hS
                  have hHeld := hHeld2
                  clear hHeld2
                  try simp only [Act.put, List.setIfInBounds_toArray, List.set_cons_zero, List.set_cons_succ]
                  refine takeD 15 (some 5) (v := ?_) rfl rfl (by kernel_rfl) (by kernel_rfl) (by kernel_rfl) (fun _ _ _ h => h) (by rfl) ?_ (by assumption) ?_
                  rotate_left
                  · intro w hSw
                    (try dsimp only at hSw)
                    go_simp
                    try with_reducible rfl
                  try simp only [Act.put, List.setIfInBounds_toArray, List.set_cons_zero, List.set_cons_succ]
                  refine wpAnyH_done (by kernel_rfl) ?_ _
                  have HBW := Lib.hid hbW
                  clear hHeld hbW
                  have HEQ := Lib.hid (ins_put (ts := (ts.map TV.t)) (x := x) (O := O) (k := k) hk HBF2.out (.inl HKE.out))
                  obtain ⟨n9, hn9⟩ : ∃ n, n = 0 + k + 1 + (O.length - k) := ⟨_, rfl⟩
                  have HC9 := HC.out
                  clear HC
                  rw [← hn9] at HC9
                  have HN9 := Lib.hid hn9
                  clear hn9
                  obtain ⟨A4, c4, rfl, _⟩ := own_shapeX HC9
                  have HC := Lib.hid HC9
                  clear HC9
                  go_wp2
                  go_roundw
                  case rel => exact ⟨j + 1, O.take k ++ [x] ++ O.drop k, by omega, by go_num, HB0.out.trans (HBW.out.mono HB0.out.size), by
                    have h9 := own_mono HC.out HB0.out.size
                    have e1 : n9 = (O.take k ++ [x] ++ O.drop k).length := by
                      rw [HN9.out, List.length_append, List.length_append, List.length_take, List.length_drop, List.length_singleton]
                      omega
                    rw [List.nil_append, ← tk_one (f := f6) x, ← tk_app, ← tk_app] at h9
                    rw [← e1]
                    exact h9, by
                    rw [HTJ.out, show List.map PV.p (List.take j l ++ [x]) = List.map PV.p (List.take j l) ++ [x.p] from by rw [List.map_append, List.map_singleton], ordR_snoc, ← HOO.out.1]
                    exact HEQ.out, by
                    intro z hz
                    rcases List.mem_append.1 hz with hz | hz
                    · rcases List.mem_append.1 hz with hz | hz
                      · exact HOO.out.2 z (List.mem_of_mem_take hz)
                      · simp at hz
                        subst hz
                        exact List.mem_of_getElem? HX.out
                    · exact HOO.out.2 z (List.mem_of_mem_drop hz)⟩
                  case measure => simp [intOf]; omega
                · rw [if_pos (by rfl)]
                  refine wp_one6 (by rfl) ?_
                  have HNE := Lib.hid (show some V1.heap.size ≠ Value.ownBlock (.slice (some ⟨W0.heap.size, 0, none⟩) 0 0) from ne_some HC.out rfl)
                  refine nameV (fun V2 => Below W0.heap.size W0 V2 ∧ World.ownsRow V2 W0.heap.size 31 6 (.slice (some ⟨W0.heap.size, 0, none⟩) 0 0) 0 [] ∧ Blk V2 V1.heap.size 31 #[.int .i64 x.p.dev, .int .i64 x.p.chan, .int .i64 x.p.boot, .int .i64 x.p.seq, .int .i64 x.p.stamp, .slice x.A x.p.vals.length x.c]) ⟨hbW.alloc hbW.size _, (own_below HC.out ((Below.refl _ _).alloc (Nat.le_refl _) _)), (Blk.new _ _ _ _ rfl)⟩ fun V2 ⟨hbW2, qHC, qHN⟩ => ?_
                  clear HC
                  have hbW := hbW2
                  clear hbW2
                  have HC := Lib.hid qHC
                  clear qHC
                  have HN := Lib.hid qHN
                  clear qHN
                  have hS := hbW
                  refine hK.out _ _ ?_ (fun hHeld2 => ?_)
                  · clear hK; exact hS
                  clear hK K hHeld hS
                  have hHeld := hHeld2
                  clear hHeld2
                  try simp only [Act.put, List.setIfInBounds_toArray, List.set_cons_zero, List.set_cons_succ]
                  refine wpAnyH_ready (rs := [4]) (by kernel_rfl) (by simp) ?_
                  refine AllReadyH.cons rfl (fun K hK => ?_) AllReadyH.nil
                  rw [if_pos (by rfl)]
                  refine wp_appN elPk (.tmp 49) (.tmp 52) rfl W0.heap.size _ 0 [] rfl HC.out _ k (tk f6 (O.take k)) rfl (HPRE.out.below hbW) (tk_all f6_one _) (by unfold maxLen; omega) (by omega) hbW.size ?_
                  intro v2 V3 hO hg hor
                  have hbW2 := below_app hbW hbW.size HC.out hg (Nat.le_refl _)
                  have HN2 := Lib.hid (show Blk _ _ _ _ from (hg.block _ HN.out.lt HNE.out).trans HN.out)
                  have HNE2 := Lib.hid (show some V1.heap.size ≠ Value.ownBlock v2 by rcases hor with e | e <;> rw [e] <;> first | exact HNE.out | (intro he; injection he with he; have := HN.out.lt; omega))
                  clear HN HNE
                  have HN := Lib.hid HN2.out
                  have HNE := Lib.hid HNE2.out
                  clear HN2 HNE2
                  clear HC
                  have HC := Lib.hid hO
                  clear hO hg hor hbW
                  have hbW := hbW2
                  clear hbW2
                  have hS := hbW
                  refine hK.out _ _ ?_ (fun hHeld2 => ?_)
                  · clear hK; exact hS
                  clear hK K hHeld hS
                  have hHeld := hHeld2
                  clear hHeld2
                  try simp only [Act.put, List.setIfInBounds_toArray, List.set_cons_zero, List.set_cons_succ]
                  refine wpAnyH_ready (rs := [10]) (by kernel_rfl) (by simp) ?_
                  refine AllReadyH.cons rfl (fun K hK => ?_) AllReadyH.nil
                  rw [if_pos (by rfl)]
                  refine wp_appN elPk (.tmp 53) (.tmp 58) rfl W0.heap.size _ (0 + k) ([] ++ tk f6 (O.take k)) rfl HC.out _ 1 (f6 x) rfl (RowN.of_blk HN.out rfl rfl (Nat.le_refl _) (by decide)) (f6_one _) (by unfold maxLen; omega) (by omega) hbW.size ?_
                  intro v3 V4 hO hg hor
                  have hbW2 := below_app hbW hbW.size HC.out hg (Nat.le_refl _)
                  clear HC
                  have HC := Lib.hid hO
                  clear hO hg hor hbW
                  have hbW := hbW2
                  clear hbW2
                  have hS := hbW
                  refine hK.out _ _ ?_ (fun hHeld2 => ?_)
                  · clear hK; exact hS
                  clear hK K hHeld hS
                  have hHeld := hHeld2
                  clear hHeld2
                  try simp only [Act.put, List.setIfInBounds_toArray, List.set_cons_zero, List.set_cons_succ]
                  refine wpAnyH_ready (rs := [14]) (by kernel_rfl) (by simp) ?_
                  refine AllReadyH.cons rfl (fun K hK => ?_) AllReadyH.nil
                  rw [if_pos (by rfl)]
                  refine wp_appN elPk (.tmp 59) (.tmp 62) rfl W0.heap.size _ (0 + k + 1) ([] ++ tk f6 (O.take k) ++ f6 x) rfl HC.out _ (O.length - k) (tk f6 (O.drop k)) rfl (HSUF.out.below hbW) (tk_all f6_one _) (by unfold maxLen; omega) (by omega) hbW.size ?_
                  intro v4 V5 hO hg hor
                  have hbW2 := below_app hbW hbW.size HC.out hg (Nat.le_refl _)
                  clear HC
                  have HC := Lib.hid hO
                  clear hO hg hor hbW
                  have hbW := hbW2
                  clear hbW2
                  have hS := hbW
                  refine hK.out _ _ ?_ (fun hHeld2 => ?_)
                  · clear hK; exact hS
                  clear hK K hHeld hS
                  have hHeld := hHeld2
                  clear hHeld2
                  try simp only [Act.put, List.setIfInBounds_toArray, List.set_cons_zero, List.set_cons_succ]
                  refine takeD 15 (some 5) (v := ?_) rfl rfl (by kernel_rfl) (by kernel_rfl) (by kernel_rfl) (fun _ _ _ h => h) (by rfl) ?_ (by assumption) ?_
                  rotate_left
                  · intro w hSw
                    (try dsimp only at hSw)
                    go_simp
                    try with_reducible rfl
                  try simp only [Act.put, List.setIfInBounds_toArray, List.set_cons_zero, List.set_cons_succ]
                  refine wpAnyH_done (by kernel_rfl) ?_ _
                  have HBW := Lib.hid hbW
                  clear hHeld hbW
                  have HEQ := Lib.hid (ins_put (ts := (ts.map TV.t)) (x := x) (O := O) (k := k) hk HBF2.out (.inl HKE.out))
                  obtain ⟨n9, hn9⟩ : ∃ n, n = 0 + k + 1 + (O.length - k) := ⟨_, rfl⟩
                  have HC9 := HC.out
                  clear HC
                  rw [← hn9] at HC9
                  have HN9 := Lib.hid hn9
                  clear hn9
                  obtain ⟨A4, c4, rfl, _⟩ := own_shapeX HC9
                  have HC := Lib.hid HC9
                  clear HC9
                  go_wp2
                  go_roundw
                  case rel => exact ⟨j + 1, O.take k ++ [x] ++ O.drop k, by omega, by go_num, HB0.out.trans (HBW.out.mono HB0.out.size), by
                    have h9 := own_mono HC.out HB0.out.size
                    have e1 : n9 = (O.take k ++ [x] ++ O.drop k).length := by
                      rw [HN9.out, List.length_append, List.length_append, List.length_take, List.length_drop, List.length_singleton]
                      omega
                    rw [List.nil_append, ← tk_one (f := f6) x, ← tk_app, ← tk_app] at h9
                    rw [← e1]
                    exact h9, by
                    rw [HTJ.out, show List.map PV.p (List.take j l ++ [x]) = List.map PV.p (List.take j l) ++ [x.p] from by rw [List.map_append, List.map_singleton], ordR_snoc, ← HOO.out.1]
                    exact HEQ.out, by
                    intro z hz
                    rcases List.mem_append.1 hz with hz | hz
                    · rcases List.mem_append.1 hz with hz | hz
                      · exact HOO.out.2 z (List.mem_of_mem_take hz)
                      · simp at hz
                        subst hz
                        exact List.mem_of_getElem? HX.out
                    · exact HOO.out.2 z (List.mem_of_mem_drop hz)⟩
                  case measure => simp [intOf]; omega
              · rw [if_pos (by rfl)]
                refine wp_one6 (by rfl) ?_
                refine nameV (fun V1 => Below W0.heap.size W0 V1 ∧ Blk V1 W0.heap.size 31 #[.int .i64 x.p.dev, .int .i64 x.p.chan, .int .i64 x.p.boot, .int .i64 x.p.seq, .int .i64 x.p.stamp, .slice x.A x.p.vals.length x.c]) ⟨(hbW.alloc hbW.size _).drew, (Blk.drw (Blk.new _ _ _ _ rfl))⟩ fun V1 ⟨hbW2, qHN⟩ => ?_
                have hbW := hbW2
                clear hbW2
                have HN := Lib.hid qHN
                clear qHN
                have hS := hbW
                refine hK.out _ _ ?_ (fun hHeld2 => ?_)
                · clear hK; exact hS
                clear hK K hHeld hS
                have hHeld := hHeld2
                clear hHeld2
                try simp only [Act.put, List.setIfInBounds_toArray, List.set_cons_zero, List.set_cons_succ]
                refine wpAnyH_ready (rs := [0]) (by kernel_rfl) (by simp) ?_
                refine AllReadyH.cons rfl (fun K hK => ?_) AllReadyH.nil
                rw [if_pos (by rfl)]
                go_simp
                have HNE := Lib.hid (show some W0.heap.size ≠ Value.ownBlock (.slice (some ⟨V1.heap.size, 0, none⟩) 0 0) from (fun he => absurd (Option.some.inj he) (Nat.ne_of_lt HN.out.lt)))
                refine nameV (fun V2 => Below W0.heap.size W0 V2 ∧ World.ownsRow V2 W0.heap.size 31 6 (.slice (some ⟨V1.heap.size, 0, none⟩) 0 0) 0 [] ∧ Blk V2 W0.heap.size 31 #[.int .i64 x.p.dev, .int .i64 x.p.chan, .int .i64 x.p.boot, .int .i64 x.p.seq, .int .i64 x.p.stamp, .slice x.A x.p.vals.length x.c]) ⟨hbW.alloc hbW.size _, (own_emptyN _ _ _ _ _ hbW.size rfl), (HN.out.al _)⟩ fun V2 ⟨hbW2, qHC, qHN⟩ => ?_
                clear HN
                have hbW := hbW2
                clear hbW2
                have HC := Lib.hid qHC
                clear qHC
                have HN := Lib.hid qHN
                clear qHN
                have hS := hbW
                refine hK.out _ _ ?_ (fun hHeld2 => ?_)
                · clear hK; exact hS
                clear hK K hHeld hS
                have hHeld := hHeld2
                clear hHeld2
                try simp only [Act.put, List.setIfInBounds_toArray, List.set_cons_zero, List.set_cons_succ]
                refine wpAnyH_ready (rs := [4]) (by kernel_rfl) (by simp) ?_
                refine AllReadyH.cons rfl (fun K hK => ?_) AllReadyH.nil
                rw [if_pos (by rfl)]
                refine wp_appN elPk (.tmp 49) (.tmp 52) rfl W0.heap.size _ 0 [] rfl HC.out _ k (tk f6 (O.take k)) rfl (HPRE.out.below hbW) (tk_all f6_one _) (by unfold maxLen; omega) (by omega) hbW.size ?_
                intro v2 V3 hO hg hor
                have hbW2 := below_app hbW hbW.size HC.out hg (Nat.le_refl _)
                have HN2 := Lib.hid (show Blk _ _ _ _ from (hg.block _ HN.out.lt HNE.out).trans HN.out)
                have HNE2 := Lib.hid (show some W0.heap.size ≠ Value.ownBlock v2 by rcases hor with e | e <;> rw [e] <;> first | exact HNE.out | (intro he; injection he with he; have := HN.out.lt; omega))
                clear HN HNE
                have HN := Lib.hid HN2.out
                have HNE := Lib.hid HNE2.out
                clear HN2 HNE2
                clear HC
                have HC := Lib.hid hO
                clear hO hg hor hbW
                have hbW := hbW2
                clear hbW2
                have hS := hbW
                refine hK.out _ _ ?_ (fun hHeld2 => ?_)
                · clear hK; exact hS
                clear hK K hHeld hS
                have hHeld := hHeld2
                clear hHeld2
                try simp only [Act.put, List.setIfInBounds_toArray, List.set_cons_zero, List.set_cons_succ]
                refine wpAnyH_ready (rs := [10]) (by kernel_rfl) (by simp) ?_
                refine AllReadyH.cons rfl (fun K hK => ?_) AllReadyH.nil
                rw [if_pos (by rfl)]
                refine wp_appN elPk (.tmp 53) (.tmp 58) rfl W0.heap.size _ (0 + k) ([] ++ tk f6 (O.take k)) rfl HC.out _ 1 (f6 x) rfl (RowN.of_blk HN.out rfl rfl (Nat.le_refl _) (by decide)) (f6_one _) (by unfold maxLen; omega) (by omega) hbW.size ?_
                intro v3 V4 hO hg hor
                have hbW2 := below_app hbW hbW.size HC.out hg (Nat.le_refl _)
                clear HC
                have HC := Lib.hid hO
                clear hO hg hor hbW
                have hbW := hbW2
                clear hbW2
                have hS := hbW
                refine hK.out _ _ ?_ (fun hHeld2 => ?_)
                · clear hK; exact hS
                clear hK K hHeld hS
                have hHeld := hHeld2
                clear hHeld2
                try simp only [Act.put, List.setIfInBounds_toArray, List.set_cons_zero, List.set_cons_succ]
                refine wpAnyH_ready (rs := [14]) (by kernel_rfl) (by simp) ?_
                refine AllReadyH.cons rfl (fun K hK => ?_) AllReadyH.nil
                rw [if_pos (by rfl)]
                refine wp_appN elPk (.tmp 59) (.tmp 62) rfl W0.heap.size _ (0 + k + 1) ([] ++ tk f6 (O.take k) ++ f6 x) rfl HC.out _ (O.length - k) (tk f6 (O.drop k)) rfl (HSUF.out.below hbW) (tk_all f6_one _) (by unfold maxLen; omega) (by omega) hbW.size ?_
                intro v4 V5 hO hg hor
                have hbW2 := below_app hbW hbW.size HC.out hg (Nat.le_refl _)
                clear HC
                have HC := Lib.hid hO
                clear hO hg hor hbW
                have hbW := hbW2
                clear hbW2
                have hS := hbW
                refine hK.out _ _ ?_ (fun hHeld2 => ?_)
                · clear hK; exact hS
                clear hK K hHeld hS
                have hHeld := hHeld2
                clear hHeld2
                try simp only [Act.put, List.setIfInBounds_toArray, List.set_cons_zero, List.set_cons_succ]
                refine takeD 15 (some 5) (v := ?_) rfl rfl (by kernel_rfl) (by kernel_rfl) (by kernel_rfl) (fun _ _ _ h => h) (by rfl) ?_ (by assumption) ?_
                rotate_left
                · intro w hSw
                  (try dsimp only at hSw)
                  go_simp
                  try with_reducible rfl
                try simp only [Act.put, List.setIfInBounds_toArray, List.set_cons_zero, List.set_cons_succ]
                refine wpAnyH_done (by kernel_rfl) ?_ _
                have HBW := Lib.hid hbW
                clear hHeld hbW
                have HEQ := Lib.hid (ins_put (ts := (ts.map TV.t)) (x := x) (O := O) (k := k) hk HBF2.out (.inl HKE.out))
                obtain ⟨n9, hn9⟩ : ∃ n, n = 0 + k + 1 + (O.length - k) := ⟨_, rfl⟩
                have HC9 := HC.out
                clear HC
                rw [← hn9] at HC9
                have HN9 := Lib.hid hn9
                clear hn9
                obtain ⟨A4, c4, rfl, _⟩ := own_shapeX HC9
                have HC := Lib.hid HC9
                clear HC9
                go_wp2
                go_roundw
                case rel => exact ⟨j + 1, O.take k ++ [x] ++ O.drop k, by omega, by go_num, HB0.out.trans (HBW.out.mono HB0.out.size), by
                  have h9 := own_mono HC.out HB0.out.size
                  have e1 : n9 = (O.take k ++ [x] ++ O.drop k).length := by
                    rw [HN9.out, List.length_append, List.length_append, List.length_take, List.length_drop, List.length_singleton]
                    omega
                  rw [List.nil_append, ← tk_one (f := f6) x, ← tk_app, ← tk_app] at h9
                  rw [← e1]
                  exact h9, by
                  rw [HTJ.out, show List.map PV.p (List.take j l ++ [x]) = List.map PV.p (List.take j l) ++ [x.p] from by rw [List.map_append, List.map_singleton], ordR_snoc, ← HOO.out.1]
                  exact HEQ.out, by
                  intro z hz
                  rcases List.mem_append.1 hz with hz | hz
                  · rcases List.mem_append.1 hz with hz | hz
                    · exact HOO.out.2 z (List.mem_of_mem_take hz)
                    · simp at hz
                      subst hz
                      exact List.mem_of_getElem? HX.out
                  · exact HOO.out.2 z (List.mem_of_mem_drop hz)⟩
                case measure => simp [intOf]; omega

          · as_aux_lemma =>
            have HKE := Lib.hid hke
            clear hke
            go_wp2_with fail
            refine wp_region_held_drew (S := fun w' => Below wr.heap.size wr w') (by kernel_rfl) (by exact (Below.refl _ _).drew) (fun hHeld => ?_)
            refine takeD 0 (some 15) (v := ?_) rfl rfl (by kernel_rfl) (by kernel_rfl) (by kernel_rfl) (fun _ _ _ h => h) (by rfl) ?_ (by assumption) ?_
            rotate_left
            · intro w hSw
              (try dsimp only at hSw)
              go_simp
              try with_reducible rfl
            try simp only [Act.put, List.setIfInBounds_toArray, List.set_cons_zero, List.set_cons_succ]
            refine takeD 1 (some 16) (v := ?_) rfl rfl (by kernel_rfl) (by kernel_rfl) (by kernel_rfl) (fun _ _ _ h => h) (by rfl) ?_ (by assumption) ?_
            rotate_left
            · intro w hSw
              (try dsimp only at hSw)
              go_simp
              try with_reducible rfl
            try simp only [Act.put, List.setIfInBounds_toArray, List.set_cons_zero, List.set_cons_succ]
            refine takeD 2 (some 17) (v := ?_) rfl rfl (by kernel_rfl) (by kernel_rfl) (by kernel_rfl) (fun _ _ _ h => h) (by rfl) ?_ (by assumption) ?_
            rotate_left
            · intro w hSw
              (try dsimp only at hSw)
              go_simp
              try with_reducible rfl
            try simp only [Act.put, List.setIfInBounds_toArray, List.set_cons_zero, List.set_cons_succ]
            refine takeD 3 (some 18) (v := ?_) rfl rfl (by kernel_rfl) (by kernel_rfl) (by kernel_rfl) (fun _ _ _ h => h) (by rfl) ?_ (by assumption) ?_
            rotate_left
            · intro w hSw
              (try dsimp only at hSw)
              go_simp
              try with_reducible rfl
            try simp only [Act.put, List.setIfInBounds_toArray, List.set_cons_zero, List.set_cons_succ]
            refine takeD 4 (some 19) (v := ?_) rfl rfl (by kernel_rfl) (by kernel_rfl) (by kernel_rfl) (fun _ _ _ h => h) (by rfl) ?_ (by assumption) ?_
            rotate_left
            · intro w hSw
              (try dsimp only at hSw)
              go_simp
              try with_reducible rfl
            try simp only [Act.put, List.setIfInBounds_toArray, List.set_cons_zero, List.set_cons_succ]
            refine skipD 5 (some 20) rfl rfl (by kernel_rfl) (by kernel_rfl) (by kernel_rfl) (fun _ _ _ h => h) (by rfl) (by assumption) ?_
            try simp only [Act.put, List.setIfInBounds_toArray, List.set_cons_zero, List.set_cons_succ]
            refine skipD 6 (some 21) rfl rfl (by kernel_rfl) (by kernel_rfl) (by kernel_rfl) (fun _ _ _ h => h) (by rfl) (by assumption) ?_
            try simp only [Act.put, List.setIfInBounds_toArray, List.set_cons_zero, List.set_cons_succ]
            refine takeD 7 (some 22) (v := ?_) rfl rfl (by kernel_rfl) (by kernel_rfl) (by kernel_rfl) (fun _ _ _ h => h) (by rfl) ?_ (by assumption) ?_
            rotate_left
            · intro w hSw
              (try dsimp only at hSw)
              go_simp
              try with_reducible rfl
            try simp only [Act.put, List.setIfInBounds_toArray, List.set_cons_zero, List.set_cons_succ]
            refine takeD 8 (some 23) (v := ?_) rfl rfl (by kernel_rfl) (by kernel_rfl) (by kernel_rfl) (fun _ _ _ h => h) (by rfl) ?_ (by assumption) ?_
            rotate_left
            · intro w hSw
              (try dsimp only at hSw)
              go_simp
              try with_reducible rfl
            try simp only [Act.put, List.setIfInBounds_toArray, List.set_cons_zero, List.set_cons_succ]
            refine skipD 9 (some 24) rfl rfl (by kernel_rfl) (by kernel_rfl) (by kernel_rfl) (fun _ _ _ h => h) (by rfl) (by assumption) ?_
            try simp only [Act.put, List.setIfInBounds_toArray, List.set_cons_zero, List.set_cons_succ]
            refine skipD 10 (some 25) rfl rfl (by kernel_rfl) (by kernel_rfl) (by kernel_rfl) (fun _ _ _ h => h) (by rfl) (by assumption) ?_
            try simp only [Act.put, List.setIfInBounds_toArray, List.set_cons_zero, List.set_cons_succ]
            refine skipD 11 (some 26) rfl rfl (by kernel_rfl) (by kernel_rfl) (by kernel_rfl) (fun _ _ _ h => h) (by rfl) (by assumption) ?_
            try simp only [Act.put, List.setIfInBounds_toArray, List.set_cons_zero, List.set_cons_succ]
            refine skipD 12 (some 27) rfl rfl (by kernel_rfl) (by kernel_rfl) (by kernel_rfl) (fun _ _ _ h => h) (by rfl) (by assumption) ?_
            try simp only [Act.put, List.setIfInBounds_toArray, List.set_cons_zero, List.set_cons_succ]
            refine skipD 13 (some 28) rfl rfl (by kernel_rfl) (by kernel_rfl) (by kernel_rfl) (fun _ _ _ h => h) (by rfl) (by assumption) ?_
            try simp only [Act.put, List.setIfInBounds_toArray, List.set_cons_zero, List.set_cons_succ]
            refine skipD 14 (some 29) rfl rfl (by kernel_rfl) (by kernel_rfl) (by kernel_rfl) (fun _ _ _ h => h) (by rfl) (by assumption) ?_
            try simp only [Act.put, List.setIfInBounds_toArray, List.set_cons_zero, List.set_cons_succ]
            refine skipD 15 (some 30) rfl rfl (by kernel_rfl) (by kernel_rfl) (by kernel_rfl) (fun _ _ _ h => h) (by rfl) (by assumption) ?_
            try simp only [Act.put, List.setIfInBounds_toArray, List.set_cons_zero, List.set_cons_succ]
            refine skipD 16 (some 31) rfl rfl (by kernel_rfl) (by kernel_rfl) (by kernel_rfl) (fun _ _ _ h => h) (by rfl) (by assumption) ?_
            try simp only [Act.put, List.setIfInBounds_toArray, List.set_cons_zero, List.set_cons_succ]
            refine skipD 17 (some 32) rfl rfl (by kernel_rfl) (by kernel_rfl) (by kernel_rfl) (fun _ _ _ h => h) (by rfl) (by assumption) ?_
            try simp only [Act.put, List.setIfInBounds_toArray, List.set_cons_zero, List.set_cons_succ]
            refine skipD 18 (some 33) rfl rfl (by kernel_rfl) (by kernel_rfl) (by kernel_rfl) (fun _ _ _ h => h) (by rfl) (by assumption) ?_
            try simp only [Act.put, List.setIfInBounds_toArray, List.set_cons_zero, List.set_cons_succ]
            refine skipD 19 (some 34) rfl rfl (by kernel_rfl) (by kernel_rfl) (by kernel_rfl) (fun _ _ _ h => h) (by rfl) (by assumption) ?_
            try simp only [Act.put, List.setIfInBounds_toArray, List.set_cons_zero, List.set_cons_succ]
            refine takeD 20 (some 35) (v := ?_) rfl rfl (by kernel_rfl) (by kernel_rfl) (by kernel_rfl) (fun _ _ _ h => h) (by rfl) ?_ (by assumption) ?_
            rotate_left
            · intro w hSw
              (try dsimp only at hSw)
              go_simp
              try with_reducible rfl
            try simp only [Act.put, List.setIfInBounds_toArray, List.set_cons_zero, List.set_cons_succ]
            refine wpAnyH_done (by kernel_rfl) ?_ _
            have HF := Lib.hid hHeld
            clear hHeld
            have HBK2 := Lib.hid (Btrans HBK.out HF.out)
            clear HBK HF
            have HBK := Lib.hid HBK2.out
            clear HBK2
            have HEQ := Lib.hid (HBT.out (by simp))
            have HB8 := Lib.hid (HBw.out.trans (HBK.out.mono HBw.out.size))
            go_wp2
            go_roundw
            case rel => exact ⟨j + 1, O, by omega, by go_num, HB8.out, own_below HOw.out HBK.out, by rw [HTJ.out, List.map_append, List.map_singleton, ordR_snoc, ← HOO.out.1, HEQ.out], HOO.out.2⟩
            case measure => simp [intOf]; omega
    · obtain rfl : j = l.length := by omega
      go_wp2
      go_ret
      refine ⟨.slice OA O.length oc, O, by simp, HPO.out, ⟨?_, HOO.out.2⟩, HBw.out⟩
      have := HOO.out.1
      rwa [List.take_length] at this
end Go.Proofs.Ytgklbmhihfmagaa
