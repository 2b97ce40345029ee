/- Layer 14: the law BatchDevices. -/
import Derived.Test.YtgklbmhihfmagaaBatchC
import Derived.Test.YtgklbmhihfmagaaBatchZ
import Derived.IntWalk
namespace Go.Proofs.Ytgklbmhihfmagaa
open Go.ChangeShapes Go.WideShapes Go.ChangeAt Go.RowKit Go.Deep
set_option linter.unusedVariables false
set_option linter.unusedSimpArgs false

open Go.Sort Go.Lib
theorem elTr : Elem Try.prog 22 40 4 48 := Elem.mk' (z := .agg #[.bool false, .int .i64 0, .int .i64 0, .slice none 0 0]) (by kernel_rfl) (by kernel_rfl) rfl (by decide)
set_option maxRecDepth 100000 in
theorem wp_one4 {a : Act} {w : World} {next : Act → World → Prop} {Q : Exit → Act → World → Prop} {r : Nat} {d : Option Nat} {ty : TypeId} {pos : String} {af : Array Edge} {gd : Option (Nat × Bool)} {v0 v1 v2 v3 : Value} (hv : a.eval (.tmp r) = .agg #[v0, v1, v2, v3])
    (hn : next (a.put d (.slice (some ⟨w.heap.size, 0, none⟩) 1 1)) (w.alloc (.cells #[v0, v1, v2, v3] 40))) :
    Oper.wp Try.prog ⟨d, .buildSlice 22 1 #[(0, .tmp r)], ty, pos, af, gd⟩ a w next Q := by
  unfold Oper.wp
  have h : (execOp a.eval ⟨d, .buildSlice 22 1 #[(0, .tmp r)], ty, pos, af, gd⟩).run Try.prog w = .ok (.value (.slice (some ⟨w.heap.size, 0, none⟩) 1 1)) (w.alloc (.cells #[v0, v1, v2, v3] 40)) := by
    generalize a.eval = ev at hv
    simp only [execOp]
    show (Instr.buildSlice _ _ _ >>= _ : Sem Next).run _ _ = _
    simp [hv, go_sem]
  rw [h]
  exact hn
set_option maxRecDepth 100000 in
theorem wpList_one4 {a : Act} {w : World} {ops : Array Oper} {rest : List Oper} {Q : Exit → Act → World → Prop} {r : Nat} {d : Option Nat} {ty : TypeId} {pos : String} {af : Array Edge} {v0 v1 v2 v3 : Value} (hv : a.eval (.tmp r) = .agg #[v0, v1, v2, v3])
    (hn : wpList Try.prog ops Q rest (a.put d (.slice (some ⟨w.heap.size, 0, none⟩) 1 1)) (w.alloc (.cells #[v0, v1, v2, v3] 40))) :
    wpList Try.prog ops Q (⟨d, .buildSlice 22 1 #[(0, .tmp r)], ty, pos, af, none⟩ :: rest) a w := by
  refine wpList_plain rfl ?_
  intro K hK
  exact wp_one4 hv (hK _ _ hn)
def lenV : Value → Nat
  | .slice _ n _ => n
  | _ => 0
theorem set4 {cur : Array Value} {n d : Nat} {L : List TV} {x : TV} (h : cur.toList.take (n * 4) = tk f4 L) (hl : n = L.length) (hd : d < n) :
    ((((cur.setIfInBounds (d * 4) (.bool x.t.on)).setIfInBounds (d * 4 + 1) (.int .i64 x.t.boot)).setIfInBounds (d * 4 + 2) (.int .i64 x.t.top)).setIfInBounds (d * 4 + 3) x.vs).toList.take (n * 4) = tk f4 (L.set d x) := by
  have e := congrArg Array.toList (setMany_tk f4_len L d x (by omega))
  have e2 : (setMany (tk f4 L).toArray (d * 4) (f4 x)) = (((((tk f4 L).toArray.setIfInBounds (d * 4) (.bool x.t.on)).setIfInBounds (d * 4 + 1) (.int .i64 x.t.boot)).setIfInBounds (d * 4 + 2) (.int .i64 x.t.top)).setIfInBounds (d * 4 + 3) x.vs) := rfl
  rw [e2] at e
  simp only [Array.toList_setIfInBounds, List.take_set, h] at e ⊢
  exact e
theorem dev_order {ts ws : List Tk} {l : List Pk} {d : Int} (hr : ∀ x ∈ l, x.right) (ht : tkAt ts d = tkAt ws d) : (ordR ts l).filter (fun q => decide (q.dev = d)) = ordR ws (l.filter (fun q => decide (q.dev = d))) := by
  refine ordR_of (fun x hx => hr x (List.mem_filter.1 hx).1) ?_ (fun x => ?_)
  · have h := (ordR_asc (ts := ts) hr).filter (fun q => decide (q.dev = d))
    refine List.Pairwise.imp_of_mem ?_ h
    intro a b ha hb hab
    have ea : a.dev = d := of_decide_eq_true (List.mem_filter.1 ha).2
    have eb : b.dev = d := of_decide_eq_true (List.mem_filter.1 hb).2
    unfold ahead kt nm at hab ⊢
    rw [ea, eb, ← ht]
    rw [ea, eb] at hab
    exact hab
  · rw [List.mem_filter, List.mem_filter, ordR_mem hr]
set_option maxRecDepth 100000 in
set_option maxHeartbeats 8000000 in
theorem walk_BatchDevices (vt : Value) (ts : List TV) (vu : Value) (us : List TV) (vl : Value) (l : List PV) (dv : Int) (w : World) (h0 : TRow w vt ts) (h1 : TRow w vu us) (h2 : PRow w vl l) (w3 : (Lit.int .u8 dv).wf = true) :
    Calls Try.prog 8 #[vt, vu, vl, .int .u8 dv] w fun e w' => e = .returned (.bool true) ∧ Below w.heap.size w w' := by
  obtain ⟨LA, LC, rfl⟩ := h2.1
  have hlc := h2.caps
  have hl1 := hlc.2.1
  have hl2 := hlc.2.2
  clear hlc
  obtain ⟨TA, TC, rfl⟩ := h0.1
  obtain ⟨UA, UC, rfl⟩ := h1.1
  have wf3 := wf_u8 w3
  clear w3
  have HT := Lib.hid h0
  have HU := Lib.hid h1
  have HP := Lib.hid h2
  clear h0 h1 h2
  go_enter Try.func8, Try.ntmps8
  go_wp2_with fail
  go_at_call 9
  refine (head_any _).mono ?_
  rintro e w1 ⟨rfl, hk⟩
  have HB_ := Lib.hid hk
  have HT_ := Lib.hid (HT.out.below hk)
  have HU_ := Lib.hid (HU.out.below hk)
  have HP_ := Lib.hid (HP.out.below hk)
  clear HT HU HP hk
  have HT := HT_
  clear HT_
  have HU := HU_
  clear HU_
  have HP := HP_
  clear HP_
  have HB := HB_
  clear HB_
  go_wp2_with fail
  go_at_call 10
  refine (good_any _ _ ts l _ HT.out HP.out).mono ?_
  rintro e V1 ⟨b, hb, rfl, hk⟩
  have HGD := Lib.hid hb
  clear hb
  have HT_ := Lib.hid (HT.out.below hk)
  have HU_ := Lib.hid (HU.out.below hk)
  have HP_ := Lib.hid (HP.out.below hk)
  have HB_ := Lib.hid (Btrans HB.out hk)
  clear HT HU HP HB hk
  have HT := HT_
  clear HT_
  have HU := HU_
  clear HU_
  have HP := HP_
  clear HP_
  have HB := HB_
  clear HB_
  cases b
  · go_wp2
    go_ret
    exact ⟨by simp, HB.out⟩
  have HG := Lib.hid (HGD.out rfl)
  clear HGD
  have hl60 : l.length ≤ 60 := HG.out.2.1
  have ht6 : ts.length ≤ 6 := HG.out.1
  go_wp2_with fail
  go_at_call 10
  refine (good_any _ _ us [] _ HU.out PRow.nil_).mono ?_
  rintro e W0 ⟨b, hb, rfl, hk⟩
  have HGD := Lib.hid hb
  clear hb
  have HT_ := Lib.hid (HT.out.below hk)
  have HU_ := Lib.hid (HU.out.below hk)
  have HP_ := Lib.hid (HP.out.below hk)
  have HB_ := Lib.hid (Btrans HB.out hk)
  clear HT HU HP HB hk
  have HT := HT_
  clear HT_
  have HU := HU_
  clear HU_
  have HP := HP_
  clear HP_
  have HB := HB_
  clear HB_
  cases b
  · go_wp2
    go_ret
    exact ⟨by simp, HB.out⟩
  have HGu := Lib.hid (show ∀ t ∈ us, TkOk t.t from (HGD.out rfl).2.2.1)
  have hu6 : us.length ≤ 6 := (HGD.out rfl).1
  clear HGD
  by_cases ht0 : ts.length = 0
  · go_wp2
    go_ret
    exact ⟨by simp, HB.out⟩
  have g0 : ((ts.length : Int) == 0) = false := beq_eq_false_iff_ne.2 (by omega)
  obtain ⟨d, hd⟩ : ∃ d : Nat, d = (dv % (ts.length : Int)).toNat := ⟨_, rfl⟩
  have hdb := Int.emod_nonneg dv (show (ts.length : Int) ≠ 0 by omega)
  have hdl := Int.emod_lt_of_pos dv (show (0 : Int) < (ts.length : Int) by omega)
  have hdd : dv % (ts.length : Int) = (d : Int) := by rw [hd, Int.toNat_of_nonneg hdb]
  have hdlt : d < ts.length := by omega
  clear hd hdb hdl
  go_wp2_with (first | (at_builtin; refine wpList_appN elTr rfl (.tmp 38) (.tmp 39) rfl W0.heap.size _ 0 [] rfl (own_emptyN _ _ _ 4 _ (Nat.le_refl _) rfl) _ us.length (tk f4 us) rfl (HU.out.2.1.below ((Below.refl _ _).alloc (Nat.le_refl _) _)) (tk_all f4_one _) ?_ ?_ ?_ ?_))
  case refine_1 => unfold maxLen; omega
  case refine_2 => omega
  case refine_3 => simp
  intro v5 V5 hO5 hg5 _
  have hb5 := below_app ((Below.refl W0.heap.size W0).alloc (Nat.le_refl _) _) (by simp) (own_emptyN _ _ _ 4 _ (Nat.le_refl _) rfl) hg5 (Nat.le_refl _)
  obtain ⟨A5, c5, rfl, _⟩ := own_shapeX hO5
  have HO5 := Lib.hid hO5
  have HB5 := Lib.hid hb5
  clear hO5 hb5 hg5
  go_wp2_with fail
  clear hdd
  go_loopw [11] (fun v wr => ∃ (n : Nat) (A : Option Addr) (c : Nat) (M : List TV), v = .slice A n c ∧ n = M.length ∧ n ≤ 7 ∧ Below W0.heap.size W0 wr ∧ wr.ownsRow W0.heap.size 40 4 (.slice A n c) n (tk f4 M) ∧ ∀ t ∈ M, t ∈ us ∨ t = noneT) (fun v _ => d + 1 - lenV v)
  case atStart => exact ⟨us.length, A5, c5, us, rfl, rfl, by omega, HB5.out, HO5.out, fun t h => .inl h⟩
  case round =>
    clear HB5 HO5
    obtain ⟨n, A, c, M, rfl, hn, hn7, hb, hO, hM⟩ := hrel
    have HB6 := Lib.hid hb
    have HO6 := Lib.hid hO
    have HN6 := Lib.hid hn
    have HM6 := Lib.hid hM
    have hbs6 := HB6.out.size
    clear hb hO hn hM
    by_cases hlt : n ≤ d
    · have hlt2 : (n : Int) ≤ (d : Int) := by omega
      go_wp2_with fail
      go_at_call 17
      refine (rtrackNone_any _).mono ?_
      rintro e X1 ⟨rfl, hk⟩
      have hbx : Below W0.heap.size W0 X1 := HB6.out.trans (hk.mono hbs6)
      have HBX := Lib.hid hbx
      have HOX := Lib.hid (own_below HO6.out hk)
      have hbsx := hbx.size
      clear hk hbx
      rw [show noneT.agg = .agg #[.bool false, .int .i64 0, .int .i64 (-1), .slice none 0 0] from rfl]
      go_wp2_with (first | (refine wpList_one4 (by rfl) ?_) | (at_builtin; refine wpList_appN elTr rfl (.tmp 45) (.tmp 47) rfl W0.heap.size _ n (tk f4 M) rfl (own_below HOX.out ((Below.refl _ _).alloc (Nat.le_refl _) _)) _ 1 (f4 noneT) rfl (RowN.of_blk (Blk.new _ _ _ _ rfl) rfl rfl (Nat.le_refl _) (by decide)) (f4_one _) ?_ ?_ ?_ ?_))
      case refine_1 => unfold maxLen; omega
      case refine_2 => omega
      case refine_3 => (try simp); omega
      intro v7 V7 hO7 hg7 _
      have HB7 := Lib.hid (below_app (HBX.out.alloc hbsx _) (by simp; omega) (own_below HOX.out ((Below.refl _ _).alloc (Nat.le_refl _) _)) hg7 (Nat.le_refl _))
      obtain ⟨A7, c7, rfl, _⟩ := own_shapeX hO7
      have HO7 := Lib.hid hO7
      clear hO7 hg7
      go_wp2
      go_roundw
      case rel => exact ⟨n + 1, A7, c7, M ++ [noneT], rfl, by rw [List.length_append, ← HN6.out]; rfl, by omega, HB7.out, by rw [tk_app, tk_one]; exact HO7.out, fun t h => by
        rcases List.mem_append.1 h with h | h
        · exact HM6.out t h
        · exact .inr (List.mem_singleton.1 h)⟩
      case measure => simp [lenV]; omega
    · have hlt2 : ¬ (n : Int) ≤ (d : Int) := by omega
      have hdn : d < n := by omega
      have hdi : (d : Int) < (n : Int) := by omega
      have hdt : (d : Int) < (ts.length : Int) := by omega
      obtain ⟨tx, hx⟩ : ∃ x, ts[d]? = some x := ⟨_, List.getElem?_eq_getElem hdlt⟩
      have HX := Lib.hid hx
      have HTw := Lib.hid (HT.out.below HB6.out)
      obtain ⟨td, rfl, _, htb, k0, k1, k2, k3⟩ := HTw.out.atw hx
      clear hx
      obtain ⟨h1, h2⟩ := HO6.out
      rcases h2 with ⟨e, _⟩ | ⟨g, cap, cur, e, hbg, hgg, hn1, hcm, hcs, htk⟩
      · injection e with _ e _
        omega
      injection e with e1 e2 e3
      subst e1 e3
      have hq : Blk wr g 40 cur := hgg
      have hsz : d * 4 + 4 ≤ cur.size := by
        have h2 := congrArg List.length htk
        rw [List.length_take, tk_len f4_len, ← HN6.out, Array.length_toList] at h2
        omega
      obtain ⟨q0, z0⟩ := hq.some_ (j := d * 4) (by omega)
      obtain ⟨q1, z1⟩ := hq.some_ (j := d * 4 + 1) (by omega)
      obtain ⟨q2, z2⟩ := hq.some_ (j := d * 4 + 2) (by omega)
      obtain ⟨q3, z3⟩ := hq.some_ (j := d * 4 + 3) (by omega)
      have fz := hq.froz
      have hgl := hq.lt
      have HQ := Lib.hid hq
      have HTK := Lib.hid htk
      clear h1 e2 hgg hcs htk hq hsz HO6
      have hngt : g ≠ (td.add (d * 4)).block := by
        have h5 := (show (td.add (d * 4)).block < W0.heap.size by
          obtain ⟨td2, e9, _, h9, _⟩ := HT.out.atw HX.out
          injection e9 with e9
          subst e9
          exact h9)
        omega
      go_wp2_with fail
      refine calls_world (fun W => Only [g] wr W ∧ Blk W g 40 ((((cur.setIfInBounds (d * 4) (.bool tx.t.on)).setIfInBounds (d * 4 + 1) (.int .i64 tx.t.boot)).setIfInBounds (d * 4 + 2) (.int .i64 tx.t.top)).setIfInBounds (d * 4 + 3) (.slice tx.A tx.t.some.length tx.c))) ⟨((((Only.refl _ _).setCell (p := ⟨g, d * 4, none⟩) (by simp) _).setCell (p := ⟨g, d * 4 + 1, none⟩) (by simp) _).setCell (p := ⟨g, d * 4 + 2, none⟩) (by simp) _).setCell (p := ⟨g, d * 4 + 3, none⟩) (by simp) _, (((HQ.out.set (d * 4) _).set (d * 4 + 1) _).set (d * 4 + 2) _).set (d * 4 + 3) _⟩ fun X0 ⟨hon, hq⟩ => ?_
      have hbx : Below W0.heap.size W0 X0 := Only.below HB6.out hbs6 hon (by intro x hx; simp at hx; omega)
      have hln : (M.set d tx).length = n := by rw [List.length_set]; exact HN6.out.symm
      have hmem : ∀ t ∈ M.set d tx, t ∈ us ∨ t = noneT ∨ t = tx := fun t ht => by
        rcases List.mem_or_eq_of_mem_set ht with h | h
        · rcases HM6.out t h with h | h
          · exact .inl h
          · exact .inr (.inl h)
        · exact .inr (.inr h)
      have HTW := Lib.hid (show TRow X0 (.slice (some ⟨g, 0, none⟩) n c) (M.set d tx) from ⟨⟨_, _, by rw [hln]⟩, by
        rw [hln]
        exact RowN.of_blk hq (set4 HTK.out HN6.out hdn) (by rw [tk_len f4_len, hln]) hn1 hcm, fun t ht => by
        rcases hmem t ht with h | rfl | rfl
        · exact (HU.out.2.2 t h).below hbx
        · exact ⟨Row.nil_, by simp [noneT, Tk.none]⟩
        · exact (HT.out.2.2 _ (List.mem_of_getElem? HX.out)).below hbx⟩)
      have HOK := Lib.hid (show ∀ t ∈ (M.set d tx), TkOk t.t from fun t ht => by
        rcases hmem t ht with h | rfl | rfl
        · exact HGu.out t h
        · exact ⟨by simp [noneT, Tk.none], by simp [noneT, Tk.none]⟩
        · exact HG.out.2.2.1 _ (List.mem_of_getElem? HX.out))
      have HRl := Lib.hid (show ∀ x ∈ l.map PV.p, x.right from fun x hx => by obtain ⟨y, hy, rfl⟩ := List.mem_map.1 hx; exact HG.out.2.2.2 y hy)
      have HTE := Lib.hid (show tkAt (ts.map TV.t) (d : Int) = tkAt ((M.set d tx).map TV.t) (d : Int) by
        have e1 : (ts.map TV.t)[d]? = some tx.t := by rw [List.getElem?_map, HX.out]; rfl
        have e2 : ((M.set d tx).map TV.t)[d]? = some tx.t := by
          rw [List.getElem?_map, List.getElem?_set_self (by rw [← HN6.out]; exact hdn)]
          rfl
        unfold tkAt
        rw [if_pos (by omega), if_pos (by omega), Int.toNat_natCast, List.getD_eq_getElem?_getD, List.getD_eq_getElem?_getD, e1, e2])
      have HB_ := Lib.hid (Btrans HB.out hbx)
      have HT_ := Lib.hid (HT.out.below hbx)
      have HP_ := Lib.hid (HP.out.below hbx)
      clear HB HT HP HTw HU hon hq hln hmem HQ HTK HB6 HM6 k0 k1 k2 k3 z0 z1 z2 z3 fz hgl hngt hbx htb
      have HB := HB_
      have HT := HT_
      have HP := HP_
      clear HB_ HT_ HP_
      refine (order_any _ _ ts l _ HT.out HP.out HG.out.2.2.2 HG.out.2.2.1 (by omega)).mono ?_
      rintro e X1 ⟨va, La, rfl, hP, hL, hk⟩
      obtain ⟨AA, AC, rfl⟩ := hP.1
      have hac := hP.caps
      have ha1 := hac.2.1
      have ha2 := hac.2.2
      have hLl : La.length ≤ l.length := by
        have h1 := congrArg List.length hL.1
        have h2 := ordR_len (ts := ts.map TV.t) (l := l.map PV.p) HRl.out
        simp at h1 h2
        omega
      have HEqD := Lib.hid (show (La.filter (fun y => decide (y.p.dev = (d : Int)))).map PV.p = ordR ((M.set d tx).map TV.t) ((l.filter (fun y => decide (y.p.dev = (d : Int)))).map PV.p) by
        have e := dev_order (d := (d : Int)) HRl.out HTE.out
        rw [← hL.1, List.filter_map, List.filter_map] at e
        exact e)
      have HPa := Lib.hid hP
      clear hac hP hL HT
      have HP_ := Lib.hid (HP.out.below hk)
      have HTW_ := Lib.hid (HTW.out.below hk)
      have HB_ := Lib.hid (Btrans HB.out hk)
      clear HP HTW HB hk
      have HP := HP_
      have HTW := HTW_
      have HB := HB_
      clear HP_ HTW_ HB_
      obtain ⟨u1, hu1⟩ : ∃ u, u = X1 := ⟨_, rfl⟩
      subst hu1
      go_wp2_with fail
      go_loopw [12, 15] (fun c i wk => ∃ (k n : Nat) (A : Option Addr) (cc : Nat), k ≤ La.length ∧ i = .int .i64 k ∧ c = .slice A n cc ∧ n = ((La.take k).filter (fun y => decide (y.p.dev = (d : Int)))).length ∧ Below u1.heap.size u1 wk ∧ wk.ownsRow u1.heap.size 31 6 (.slice A n cc) n (tk f6 ((La.take k).filter (fun y => decide (y.p.dev = (d : Int)))))) (fun _ i _ => La.length - (intOf i).toNat)
      case atStart => exact ⟨0, 0, none, 0, by omega, rfl, rfl, by simp, Below.refl _ _, by simp [tk]; exact own_nilN _ _⟩
      case round =>
        obtain ⟨k, n2, A2, c2, hk, rfl, rfl, hn, hb, hO⟩ := hrel
        have HB2 := Lib.hid hb
        have HO2 := Lib.hid hO
        have HN2 := Lib.hid hn
        have hbs2 := HB2.out.size
        have hn61 : n2 ≤ 60 := by
          have h1 := List.length_filter_le (fun y : PV => decide (y.p.dev = (d : Int))) (La.take k)
          rw [← hn, List.length_take] at h1
          omega
        clear hb hO hn
        by_cases hlt : k < La.length
        · obtain ⟨x, hx⟩ : ∃ x, La[k]? = some x := ⟨_, List.getElem?_eq_getElem hlt⟩
          have HX2 := Lib.hid hx
          have HTK2 := Lib.hid (show ((La.take (k + 1)).filter (fun y => decide (y.p.dev = (d : Int)))) = ((La.take k).filter (fun y => decide (y.p.dev = (d : Int)))) ++ (if x.p.dev = (d : Int) then [x] else []) by
            rw [List.take_add_one, hx, List.filter_append]
            congr 1
            by_cases h : x.p.dev = (d : Int) <;> simp [h])
          obtain ⟨ad, rfl, _, hab, c0, c1, c2, c3, c4, c5⟩ := HPa.out.atw hx
          clear hx
          have k0 := (HB2.out.cell hab).trans c0
          have k1 := (HB2.out.cell (p := ⟨(ad.add (k * 6)).block, (ad.add (k * 6)).off + 1, none⟩) hab).trans c1
          have k2 := (HB2.out.cell (p := ⟨(ad.add (k * 6)).block, (ad.add (k * 6)).off + 2, none⟩) hab).trans c2
          have k3 := (HB2.out.cell (p := ⟨(ad.add (k * 6)).block, (ad.add (k * 6)).off + 3, none⟩) hab).trans c3
          have k4 := (HB2.out.cell (p := ⟨(ad.add (k * 6)).block, (ad.add (k * 6)).off + 4, none⟩) hab).trans c4
          have k5 := (HB2.out.cell (p := ⟨(ad.add (k * 6)).block, (ad.add (k * 6)).off + 5, none⟩) hab).trans c5
          clear c0 c1 c2 c3 c4 c5
          have hkl : (k : Int) < (La.length : Int) := by omega
          by_cases he : x.p.dev = (d : Int)
          · have ge : (x.p.dev == (d : Int)) = true := beq_iff_eq.2 he
            have HE := Lib.hid he
            clear he
            go_wp2_with (first | (refine wpList_one6 (by rfl) ?_) | (at_builtin; refine wpList_appN elPk rfl (.tmp 72) (.tmp 77) rfl u1.heap.size _ n2 (tk f6 ((La.take k).filter (fun y => decide (y.p.dev = (d : Int))))) rfl (own_below HO2.out ((Below.refl _ _).alloc (Nat.le_refl _) _)) _ 1 (f6 x) rfl (RowN.of_blk (Blk.new _ _ _ _ rfl) rfl rfl (Nat.le_refl _) (by decide)) (f6_one _) ?_ ?_ ?_ ?_))
            case refine_1 => unfold maxLen; omega
            case refine_2 => omega
            case refine_3 => (try simp); omega
            intro v5 V5 hO5 hg5 _
            have HB8 := Lib.hid (below_app (HB2.out.alloc hbs2 _) (by simp; omega) (own_below HO2.out ((Below.refl _ _).alloc (Nat.le_refl _) _)) hg5 (Nat.le_refl _))
            obtain ⟨A7, c7, rfl, _⟩ := own_shapeX hO5
            have HO8 := Lib.hid hO5
            clear hO5 hg5 k0 k1 k2 k3 k4 k5
            go_wp2
            go_roundw
            case rel => exact ⟨k + 1, n2 + 1, A7, c7, by omega, by go_num, rfl, by rw [HTK2.out, if_pos HE.out, List.length_append, ← HN2.out]; rfl, HB8.out, by
              rw [HTK2.out, if_pos HE.out, tk_app, tk_one]
              exact HO8.out⟩
            case measure => simp [intOf]; omega
          · have ge : (x.p.dev == (d : Int)) = false := beq_eq_false_iff_ne.2 he
            have HE := Lib.hid he
            clear he
            go_wp2
            go_roundw
            case rel => exact ⟨k + 1, n2, A2, c2, by omega, by go_num, rfl, by rw [HTK2.out, if_neg HE.out, List.append_nil]; exact HN2.out, HB2.out, by rw [HTK2.out, if_neg HE.out, List.append_nil]; exact HO2.out⟩
            case measure => simp [intOf]; omega
        · obtain rfl : k = La.length := by omega
          have HPx := Lib.hid (PRow.of_own HO2.out HN2.out (fun y hy => (HPa.out.2.2 y (List.mem_of_mem_take (List.mem_filter.1 hy).1)).below HB2.out))
          rw [List.take_length] at HPx
          have hk := HB2.out
          clear HO2 HB2 hbs2
          have HP_ := Lib.hid (HP.out.below hk)
          have HTW_ := Lib.hid (HTW.out.below hk)
          have HB_ := Lib.hid (Btrans HB.out hk)
          clear HP HTW HB hk
          have HP := HP_
          clear HP_
          have HTW := HTW_
          clear HTW_
          have HB := HB_
          clear HB_
          obtain ⟨u2, hu2⟩ : ∃ u, u = wr := ⟨_, rfl⟩
          subst hu2
          go_wp2_with fail
          go_loopw [13, 16] (fun c i wk => ∃ (k n : Nat) (A : Option Addr) (cc : Nat), k ≤ l.length ∧ i = .int .i64 k ∧ c = .slice A n cc ∧ n = ((l.take k).filter (fun y => decide (y.p.dev = (d : Int)))).length ∧ Below u2.heap.size u2 wk ∧ wk.ownsRow u2.heap.size 31 6 (.slice A n cc) n (tk f6 ((l.take k).filter (fun y => decide (y.p.dev = (d : Int)))))) (fun _ i _ => l.length - (intOf i).toNat)
          case atStart => exact ⟨0, 0, none, 0, by omega, rfl, rfl, by simp, Below.refl _ _, by simp [tk]; exact own_nilN _ _⟩
          case round =>
            obtain ⟨k, n3, A3, c3, hk, rfl, rfl, hn, hb, hO⟩ := hrel
            have HB3 := Lib.hid hb
            have HO3 := Lib.hid hO
            have HN3 := Lib.hid hn
            have hbs3 := HB3.out.size
            have hn61 : n3 ≤ 60 := by
              have h1 := List.length_filter_le (fun y : PV => decide (y.p.dev = (d : Int))) (l.take k)
              rw [← hn, List.length_take] at h1
              omega
            clear hb hO hn
            by_cases hlt : k < l.length
            · obtain ⟨x, hx⟩ : ∃ x, l[k]? = some x := ⟨_, List.getElem?_eq_getElem hlt⟩
              have HX2 := Lib.hid hx
              have HTK2 := Lib.hid (show ((l.take (k + 1)).filter (fun y => decide (y.p.dev = (d : Int)))) = ((l.take k).filter (fun y => decide (y.p.dev = (d : Int)))) ++ (if x.p.dev = (d : Int) then [x] else []) by
                rw [List.take_add_one, hx, List.filter_append]
                congr 1
                by_cases h : x.p.dev = (d : Int) <;> simp [h])
              obtain ⟨ad, rfl, _, hab, c0, c1, c2, c3, c4, c5⟩ := HP.out.atw hx
              clear hx
              have k0 := (HB3.out.cell hab).trans c0
              have k1 := (HB3.out.cell (p := ⟨(ad.add (k * 6)).block, (ad.add (k * 6)).off + 1, none⟩) hab).trans c1
              have k2 := (HB3.out.cell (p := ⟨(ad.add (k * 6)).block, (ad.add (k * 6)).off + 2, none⟩) hab).trans c2
              have k3 := (HB3.out.cell (p := ⟨(ad.add (k * 6)).block, (ad.add (k * 6)).off + 3, none⟩) hab).trans c3
              have k4 := (HB3.out.cell (p := ⟨(ad.add (k * 6)).block, (ad.add (k * 6)).off + 4, none⟩) hab).trans c4
              have k5 := (HB3.out.cell (p := ⟨(ad.add (k * 6)).block, (ad.add (k * 6)).off + 5, none⟩) hab).trans c5
              clear c0 c1 c2 c3 c4 c5
              have hkl : (k : Int) < (l.length : Int) := by omega
              by_cases he : x.p.dev = (d : Int)
              · have ge : (x.p.dev == (d : Int)) = true := beq_iff_eq.2 he
                have HE := Lib.hid he
                clear he
                go_wp2_with (first | (refine wpList_one6 (by rfl) ?_) | (at_builtin; refine wpList_appN elPk rfl (.tmp 92) (.tmp 97) rfl u2.heap.size _ n3 (tk f6 ((l.take k).filter (fun y => decide (y.p.dev = (d : Int))))) rfl (own_below HO3.out ((Below.refl _ _).alloc (Nat.le_refl _) _)) _ 1 (f6 x) rfl (RowN.of_blk (Blk.new _ _ _ _ rfl) rfl rfl (Nat.le_refl _) (by decide)) (f6_one _) ?_ ?_ ?_ ?_))
                case refine_1 => unfold maxLen; omega
                case refine_2 => omega
                case refine_3 => (try simp); omega
                intro v5 V5 hO5 hg5 _
                have HB8 := Lib.hid (below_app (HB3.out.alloc hbs3 _) (by simp; omega) (own_below HO3.out ((Below.refl _ _).alloc (Nat.le_refl _) _)) hg5 (Nat.le_refl _))
                obtain ⟨A7, c7, rfl, _⟩ := own_shapeX hO5
                have HO8 := Lib.hid hO5
                clear hO5 hg5 k0 k1 k2 k3 k4 k5
                go_wp2
                go_roundw
                case rel => exact ⟨k + 1, n3 + 1, A7, c7, by omega, by go_num, rfl, by rw [HTK2.out, if_pos HE.out, List.length_append, ← HN3.out]; rfl, HB8.out, by
                  rw [HTK2.out, if_pos HE.out, tk_app, tk_one]
                  exact HO8.out⟩
                case measure => simp [intOf]; omega
              · have ge : (x.p.dev == (d : Int)) = false := beq_eq_false_iff_ne.2 he
                have HE := Lib.hid he
                clear he
                go_wp2
                go_roundw
                case rel => exact ⟨k + 1, n3, A3, c3, by omega, by go_num, rfl, by rw [HTK2.out, if_neg HE.out, List.append_nil]; exact HN3.out, HB3.out, by rw [HTK2.out, if_neg HE.out, List.append_nil]; exact HO3.out⟩
                case measure => simp [intOf]; omega
            · obtain rfl : k = l.length := by omega
              have HPy := Lib.hid (PRow.of_own HO3.out HN3.out (fun y hy => (HP.out.2.2 y (List.mem_of_mem_take (List.mem_filter.1 hy).1)).below HB3.out))
              rw [List.take_length] at HPy
              have HPx3 := Lib.hid (HPx.out.below HB3.out)
              have HTW3 := Lib.hid (HTW.out.below HB3.out)
              have HBF := Lib.hid (Btrans HB.out HB3.out)
              clear HO3 HPx HTW
              go_wp2_with fail
              go_at_call 12
              refine (order_any _ _ (M.set d tx) (l.filter (fun y => decide (y.p.dev = (d : Int)))) _ HTW3.out HPy.out (fun x hx => HG.out.2.2.2 x (List.mem_filter.1 hx).1) HOK.out (Nat.le_trans (List.length_filter_le _ _) (by omega))).mono ?_
              rintro e X2 ⟨vo, Lo, rfl, hP, hL, hk⟩
              have HPo := Lib.hid hP
              have HLo := Lib.hid hL.1
              have HPx4 := Lib.hid (HPx3.out.below hk)
              have HBF2 := Lib.hid (Btrans HBF.out hk)
              clear hP hL hk HPx3 HBF
              go_wp2_with fail
              go_at_call 11
              refine (sameAll_any _ _ (La.filter (fun y => decide (y.p.dev = (d : Int)))) Lo _ HPx4.out HPo.out).mono ?_
              rintro e X3 ⟨rfl, hk⟩
              rw [show decide ((La.filter (fun y => decide (y.p.dev = (d : Int)))).map PV.p = Lo.map PV.p) = true from decide_eq_true (by rw [HLo.out]; exact HEqD.out)]
              have HBF3 := Lib.hid (Btrans HBF2.out hk)
              clear hk
              go_wp2
              go_ret
              exact ⟨by simp, HBF3.out⟩
end Go.Proofs.Ytgklbmhihfmagaa
