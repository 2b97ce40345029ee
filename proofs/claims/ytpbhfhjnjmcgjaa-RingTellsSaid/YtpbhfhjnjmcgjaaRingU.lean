/- Layer 12: the text's rings. -/
import Derived.Test.YtpbhfhjnjmcgjaaRingT
import Derived.StillTailTactics
import Derived.BigRegion
namespace Go.Proofs.Ytpbhfhjnjmcgjaa
open Go.ChangeShapes Go.WideShapes Go.ChangeAt Go.RowKit
set_option linter.unusedVariables false
set_option linter.unusedSimpArgs false

theorem own_weak {w : World} {base b2 : Nat} {e : TypeId} {k n : Nat} {v : Value} {xs : List Value} (h : w.ownsRow b2 e k v n xs) (hb : base ≤ b2) : w.ownsRow base e k v n xs := by
  obtain ⟨h1, h2⟩ := h
  rcases h2 with h2 | ⟨g, cap, cur, hv, hbg, hrest⟩
  · exact ⟨h1, .inl h2⟩
  · exact ⟨h1, .inr ⟨g, cap, cur, hv, by omega, hrest⟩⟩
theorem own_al {w : World} {base : Nat} {e : TypeId} {k n : Nat} {v : Value} {xs : List Value} (h : w.ownsRow base e k v n xs) (o : Obj) : (w.alloc o).ownsRow base e k v n xs := own_below h ((Below.refl _ _).alloc (Nat.le_refl _) o)
theorem own_some' {w : World} {base : Nat} {e : TypeId} {v : Value} {n : Nat} {xs : List Value} (h : w.ownsRow base e 1 v n xs) (h0 : 0 < n) : ∃ g c, v = .slice (some ⟨g, 0, none⟩) n c ∧ base ≤ g := by
  obtain ⟨h1, h2⟩ := h
  rcases h2 with ⟨rfl, rfl⟩ | ⟨g, cap, cur, hv, hb, _⟩
  · omega
  · exact ⟨_, _, hv, hb⟩
theorem own_belowB {w w' : World} {B base : Nat} {e : TypeId} {k n g c : Nat} {xs : List Value} (h : w.ownsRow base e k (.slice (some ⟨g, 0, none⟩) n c) n xs) (hb : Below B w w') (hg : g < B) : w'.ownsRow base e k (.slice (some ⟨g, 0, none⟩) n c) n xs := by
  obtain ⟨h1, h2⟩ := h
  rcases h2 with ⟨h', _⟩ | ⟨g', cap, cur, hv, hbg, hgg, hrest⟩
  · cases h'
  · cases hv
    exact ⟨h1, .inr ⟨g, c, cur, rfl, hbg, (hb.block g hg).trans hgg, hrest⟩⟩
theorem tail_row {w : World} {base : Nat} {e : TypeId} {n g c : Nat} {x : Value} {xs : List Value} (h : w.ownsRow base e 1 (.slice (some ⟨g, 0, none⟩) n c) n (x :: xs)) :
    Row w (.slice (some ⟨g, 1, none⟩) (n - 1) (c - 1)) xs ∧ (c = 1 → Row w (.slice (some ⟨g, 0, none⟩) (n - 1) 0) xs) := by
  have hl : xs.length + 1 = n := by have := h.1; simpa using this
  have l := own_lt h
  constructor
  · refine ⟨some ⟨g, 1, none⟩, c - 1, by rw [show n - 1 = xs.length by omega], by omega, by omega, .inr ⟨_, rfl, fun _ => l.1, fun i y hy => ?_⟩⟩
    have hi : i < xs.length := (List.getElem?_eq_some_iff.1 hy).1
    have e : (Addr.add ⟨g, 1, none⟩ i) = ⟨g, 1 + i, none⟩ := by
      unfold Addr.add
      split
      · simp [*]
      · rfl
    rw [e, h.cellAt (1 + i) (by omega), Nat.add_comm, List.getElem?_cons_succ]
    exact hy
  · intro hc
    have h0 : xs = [] := List.eq_nil_of_length_eq_zero (by omega)
    subst h0
    exact ⟨some ⟨g, 0, none⟩, 0, by rw [show n - 1 = 0 by simp at hl; omega]; rfl, Nat.le_refl _, Nat.zero_le _, .inr ⟨_, rfl, fun h => absurd h (by simp), fun i y hy => by simp at hy⟩⟩
theorem elB : Elem Try.prog 33 4 1 1 := Elem.mk' (z := .bool false) Try.underlying33 (by kernel_rfl) rfl (by omega)
theorem elI : Elem Try.prog 34 3 1 8 := Elem.mk' (z := .int .i64 0) Try.underlying34 (by kernel_rfl) rfl (by omega)
set_option maxRecDepth 100000 in
set_option maxHeartbeats 1000000 in
theorem rtake_any (base rb fr K : Nat) (a : Int × Bool) (r q : List (Int × Bool)) (w : World) (h : RR w base rb fr K q) (hq : q = a :: r) (ht : fr < 4611686018427387904) :
    Calls Try.prog 19 #[.pointer (some ⟨rb, 0, none⟩)] w fun e w' => e = .returned (.tuple #[.int .i64 a.1, .bool a.2]) ∧ RR w' base rb (fr + 1) K (r ++ [(0, false)]) ∧ Below base w w' := by
  have H := Lib.hid h
  obtain ⟨hb_, xb, hc, xc, h1, h2, h3, h4, h5, h6⟩ := h.ex
  have hx := h1.cells
  have hxf := h1.froz
  have hl0 := h1.lt
  have hpos := h.pos
  have hsm := h.small
  have hlen := h.len
  have hrl : r.length + 1 = K := by rw [hq] at hlen; simpa using hlen
  have c1 : w.cell? ⟨hb_, 0, none⟩ = some (.bool a.2) := by rw [h2.cellAt 0 (by omega), hq]; rfl
  have c2 : w.cell? ⟨xb, 0, none⟩ = some (.int .i64 a.1) := by rw [h3.cellAt 0 (by omega), hq]; rfl
  have hwr : IntKind.i64.wrap ((fr : Int) + 1) = (fr : Int) + 1 := IntWalk.i64_in _ (by omega)
  have l2 := own_lt h2
  have l3 := own_lt h3
  have hki : (0 : Int) < (K : Int) := by omega
  have H1 := Lib.hid h1
  have H2 := Lib.hid h2
  have H3 := Lib.hid h3
  have HQ := Lib.hid hq
  have hkc1 : K ≤ hc := l2.2.2.1
  have hkc2 : K ≤ xc := l3.2.2.1
  have hm1 : hc ≤ 9223372036854775807 := l2.2.2.2
  have hm2 : xc ≤ 9223372036854775807 := l3.2.2.2
  clear h1 h2 h3 h hq hlen l2 l3
  go_enter Try.func19, Try.ntmps19
  go_wp2_with (at_builtin; refine wpList_app elB rfl (.tmp 26) (.tmp 31) rfl w.heap.size _ 0 [] rfl (own_empty _ _ _ _ ?_ ?_) _ (r.map fun a : Int × Bool => Value.bool a.2) rfl ?_ ?_ ?_ ?_ ?_ ?_)
  case refine_1 => simp [World.setCell]
  case refine_2 => simp [World.setCell]
  case refine_3.inl => exact (tail_row (own_al (by have h := own_only H2.out ((Only.refl [rb] _).setCell (p := ⟨rb, 0, none⟩) (by simp) (.int .i64 ((fr : Int) + 1))) (by simp; omega); rw [HQ.out] at h; exact h) _)).2 (by omega)
  case refine_3.inr => exact (tail_row (own_al (by have h := own_only H2.out ((Only.refl [rb] _).setCell (p := ⟨rb, 0, none⟩) (by simp) (.int .i64 ((fr : Int) + 1))) (by simp; omega); rw [HQ.out] at h; exact h) _)).1
  case refine_4 => intro u hu; obtain ⟨z, _, rfl⟩ := List.mem_map.1 hu; rfl
  case refine_5 => rw [List.length_map]; unfold maxLen; omega
  case refine_6 => rw [List.length_map]; omega
  case refine_7 => simp [World.setCell]
  case refine_8.inl =>
    intro va wa owna hga _
    have owna3 : wa.ownsRow w.heap.size 4 1 va r.length (r.map fun a : Int × Bool => Value.bool a.2) := by simpa using owna
    have ba : Below w.heap.size (w.setCell ⟨rb, 0, none⟩ (.int .i64 ((fr : Int) + 1))) wa := ((Below.refl _ _).alloc (by simp [World.setCell]) _).grown hga (by simp [World.setCell]) (by simp [Value.ownBlock])
    clear owna hga
    go_wp2_with (at_builtin; refine wpList_app elB rfl (.tmp 32) (.tmp 33) rfl w.heap.size _ _ _ rfl (owna3.alloc _) _ [.bool false] rfl ?_ ?_ ?_ ?_ ?_ ?_)
    case refine_1 => exact Row.of_block (heap_at _ _ _ rfl) rfl rfl (Nat.le_refl _) (by decide)
    case refine_2 => simp [Value.oneCell']
    case refine_3 => unfold maxLen; simp; omega
    case refine_4 => simp; omega
    case refine_5 => have := ba.size; simp [World.setCell] at this ⊢; omega
    intro vb wb ownb hgb _
    have ownb3 : wb.ownsRow w.heap.size 4 1 vb K ((r ++ [(0, false)]).map fun a : Int × Bool => Value.bool a.2) := by
      have e : r.length + [Value.bool false].length = K := by simpa using hrl
      try rw [e] at ownb
      rw [List.map_append]
      exact ownb
    obtain ⟨hb2, hc2, hvb, hhb2⟩ := own_some' ownb3 (by omega)
    subst hvb
    have bb : Below w.heap.size (w.setCell ⟨rb, 0, none⟩ (.int .i64 ((fr : Int) + 1))) wb := below_app (ba.alloc (by have := ba.size; simpa [World.setCell] using this) _) (by have := ba.size; simp [World.setCell] at this ⊢; omega) (owna3.alloc _) hgb (Nat.le_refl _)
    have B1 : Blk (w.setCell ⟨rb, 0, none⟩ (.int .i64 ((fr : Int) + 1))) rb 36 #[.int .i64 ((fr : Int) + 1), .slice (some ⟨hb_, 0, none⟩) K hc, .slice (some ⟨xb, 0, none⟩) K xc] := H1.out.set 0 _
    have BB := B1.keep bb hl0
    have O3 : (w.setCell ⟨rb, 0, none⟩ (.int .i64 ((fr : Int) + 1))).ownsRow base 3 1 (.slice (some ⟨xb, 0, none⟩) K xc) K (q.map fun a : Int × Bool => Value.int .i64 a.1) := own_only H3.out ((Only.refl [rb] _).setCell (p := ⟨rb, 0, none⟩) (by simp) _) (by simp; omega)
    have OB3 := own_belowB O3 bb (own_lt H3.out).1
    have cB := BB.cells
    have fB := BB.froz
    have hlx := (own_lt H3.out).1
    have bB : Below base w wb := ((Below.refl base w).setCell (p := ⟨rb, 0, none⟩) (by show base ≤ rb; exact H.out.lo) (.int .i64 ((fr : Int) + 1))).trans (bb.mono (by have := H.out.lo; omega))
    have HBB := Lib.hid BB
    have lB := BB.lt
    have HOB3 := Lib.hid OB3
    have HOb := Lib.hid ownb3
    have HbB := Lib.hid bB
    have hbsz := bb.size
    clear ownb hgb owna3 ba bb B1 BB O3 OB3 ownb3 bB hx c1 c2 hxf
    obtain ⟨wS, hwS⟩ : ∃ wS, wS = wb.setCell ⟨rb, 1, none⟩ (.slice (some ⟨hb2, 0, none⟩) K hc2) := ⟨_, rfl⟩
    have BS : Blk wS rb 36 #[.int .i64 ((fr : Int) + 1), .slice (some ⟨hb2, 0, none⟩) K hc2, .slice (some ⟨xb, 0, none⟩) K xc] := by rw [hwS]; exact HBB.out.set 1 _
    have OS1 : wS.ownsRow base 4 1 (.slice (some ⟨hb2, 0, none⟩) K hc2) K ((r ++ [(0, false)]).map fun a : Int × Bool => Value.bool a.2) := by rw [hwS]; exact own_weak (own_only HOb.out ((Only.refl [rb] _).setCell (p := ⟨rb, 1, none⟩) (by simp) _) (by simp; omega)) (by have := H.out.lo; omega)
    have OS2 : wS.ownsRow base 3 1 (.slice (some ⟨xb, 0, none⟩) K xc) K (Value.int .i64 a.1 :: (r.map fun a : Int × Bool => Value.int .i64 a.1)) := by
      have h := own_only HOB3.out ((Only.refl [rb] _).setCell (p := ⟨rb, 1, none⟩) (by simp) (.slice (some ⟨hb2, 0, none⟩) K hc2)) (by simp; omega)
      rw [hwS]
      rw [HQ.out] at h
      exact h
    have bS : Below base w wS := by rw [hwS]; exact HbB.out.setCell (by show base ≤ rb; exact H.out.lo) _
    have hSb : base ≤ wS.heap.size := by have := bS.size; have := H.out.lo; omega
    have hSw : w.heap.size ≤ wS.heap.size := bS.size
    have hxbS : xb < wS.heap.size := (own_lt OS2).1
    have hszle : wS.heap.size ≤ wb.heap.size := by rw [hwS]; simp [World.setCell]
    have HwS := Lib.hid hwS
    clear hwS
    go_wp2_with (at_builtin; go_loud (rw [← HwS.out]; refine wpList_app elI rfl (.tmp 38) (.tmp 43) rfl wS.heap.size _ 0 [] rfl (own_empty _ _ _ _ (Nat.le_refl _) (by rw [HwS.out]; simp [World.setCell])) _ (r.map fun a : Int × Bool => Value.int .i64 a.1) rfl ?_ ?_ ?_ ?_ ?_ ?_))
    case refine_1.inl => exact (tail_row (own_al OS2 _)).2 (by omega)
    case refine_1.inr => exact (tail_row (own_al OS2 _)).1
    case refine_2 => intro u hu; obtain ⟨z, _, rfl⟩ := List.mem_map.1 hu; rfl
    case refine_3 => rw [List.length_map]; unfold maxLen; omega
    case refine_4 => rw [List.length_map]; omega
    case refine_5 => simp
    case refine_6.inl =>
      intro vc wc ownc hgc _
      have ownc3 : wc.ownsRow wS.heap.size 3 1 vc r.length (r.map fun a : Int × Bool => Value.int .i64 a.1) := by simpa using ownc
      have bc : Below wS.heap.size wS wc := ((Below.refl _ _).alloc (Nat.le_refl _) _).grown hgc (by simp) (by simp [Value.ownBlock]; omega)
      clear ownc hgc
      go_wp2_with (at_builtin; refine wpList_app elI rfl (.tmp 44) (.tmp 45) rfl wS.heap.size _ _ _ rfl (ownc3.alloc _) _ [.int .i64 0] rfl ?_ ?_ ?_ ?_ ?_ ?_)
      case refine_1 => exact Row.of_block (heap_at _ _ _ rfl) rfl rfl (Nat.le_refl _) (by decide)
      case refine_2 => simp [Value.oneCell']
      case refine_3 => unfold maxLen; simp; omega
      case refine_4 => simp; omega
      case refine_5 => have := bc.size; simp; omega
      intro vd wd ownd2 hgd _
      have ownd3 : wd.ownsRow wS.heap.size 3 1 vd K ((r ++ [(0, false)]).map fun a : Int × Bool => Value.int .i64 a.1) := by
        have e : r.length + [Value.int .i64 0].length = K := by simpa using hrl
        try rw [e] at ownd2
        rw [List.map_append]
        exact ownd2
      obtain ⟨xb2, xc2, hvd, hxb2⟩ := own_some' ownd3 (by omega)
      subst hvd
      have bd : Below wS.heap.size wS wd := below_app ((bc).alloc (by have := bc.size; omega) _) (by have := bc.size; simp; omega) (ownc3.alloc _) hgd (Nat.le_refl _)
      have BD := BS.keep bd BS.lt
      have HBD := own_belowB OS1 bd (own_lt OS1).1
      have cD := BD.cells
      have fD := BD.froz
      have lD := BD.lt
      have BDh := Lib.hid BD
      have HBDh := Lib.hid HBD
      have OXh := Lib.hid ownd3
      have bDh := Lib.hid (bS.trans (bd.mono hSb))
      have rbS := BS.lt
      have hbS := (own_lt OS1).1
      clear ownd2 hgd ownc3 bd bc BD HBD ownd3 cB fB lB
      go_wp2
      go_ret2
      refine ⟨rfl, ⟨⟨hb2, xb2, hc2, xc2, ?_, ?_, ?_, by omega, by omega, by omega⟩, H.out.lo, by simpa using hrl, hpos, hsm, by omega⟩, (bDh.out).setCell (by show base ≤ rb; exact H.out.lo) _⟩
      · have ecast : (((fr + 1 : Nat)) : Int) = (fr : Int) + 1 := by omega
        rw [ecast]
        exact (BDh.out).set 2 _
      · exact own_only HBDh.out ((Only.refl [rb] _).setCell (p := ⟨rb, 2, none⟩) (by simp) _) (by simp; omega)
      · exact own_weak (own_only OXh.out ((Only.refl [rb] _).setCell (p := ⟨rb, 2, none⟩) (by simp) _) (by simp; omega)) hSb
    case refine_6.inr =>
      intro vc wc ownc hgc _
      have ownc3 : wc.ownsRow wS.heap.size 3 1 vc r.length (r.map fun a : Int × Bool => Value.int .i64 a.1) := by simpa using ownc
      have bc : Below wS.heap.size wS wc := ((Below.refl _ _).alloc (Nat.le_refl _) _).grown hgc (by simp) (by simp [Value.ownBlock]; omega)
      clear ownc hgc
      go_wp2_with (at_builtin; refine wpList_app elI rfl (.tmp 44) (.tmp 45) rfl wS.heap.size _ _ _ rfl (ownc3.alloc _) _ [.int .i64 0] rfl ?_ ?_ ?_ ?_ ?_ ?_)
      case refine_1 => exact Row.of_block (heap_at _ _ _ rfl) rfl rfl (Nat.le_refl _) (by decide)
      case refine_2 => simp [Value.oneCell']
      case refine_3 => unfold maxLen; simp; omega
      case refine_4 => simp; omega
      case refine_5 => have := bc.size; simp; omega
      intro vd wd ownd2 hgd _
      have ownd3 : wd.ownsRow wS.heap.size 3 1 vd K ((r ++ [(0, false)]).map fun a : Int × Bool => Value.int .i64 a.1) := by
        have e : r.length + [Value.int .i64 0].length = K := by simpa using hrl
        try rw [e] at ownd2
        rw [List.map_append]
        exact ownd2
      obtain ⟨xb2, xc2, hvd, hxb2⟩ := own_some' ownd3 (by omega)
      subst hvd
      have bd : Below wS.heap.size wS wd := below_app ((bc).alloc (by have := bc.size; omega) _) (by have := bc.size; simp; omega) (ownc3.alloc _) hgd (Nat.le_refl _)
      have BD := BS.keep bd BS.lt
      have HBD := own_belowB OS1 bd (own_lt OS1).1
      have cD := BD.cells
      have fD := BD.froz
      have lD := BD.lt
      have BDh := Lib.hid BD
      have HBDh := Lib.hid HBD
      have OXh := Lib.hid ownd3
      have bDh := Lib.hid (bS.trans (bd.mono hSb))
      have rbS := BS.lt
      have hbS := (own_lt OS1).1
      clear ownd2 hgd ownc3 bd bc BD HBD ownd3 cB fB lB
      go_wp2
      go_ret2
      refine ⟨rfl, ⟨⟨hb2, xb2, hc2, xc2, ?_, ?_, ?_, by omega, by omega, by omega⟩, H.out.lo, by simpa using hrl, hpos, hsm, by omega⟩, (bDh.out).setCell (by show base ≤ rb; exact H.out.lo) _⟩
      · have ecast : (((fr + 1 : Nat)) : Int) = (fr : Int) + 1 := by omega
        rw [ecast]
        exact (BDh.out).set 2 _
      · exact own_only HBDh.out ((Only.refl [rb] _).setCell (p := ⟨rb, 2, none⟩) (by simp) _) (by simp; omega)
      · exact own_weak (own_only OXh.out ((Only.refl [rb] _).setCell (p := ⟨rb, 2, none⟩) (by simp) _) (by simp; omega)) hSb
  case refine_8.inr =>
    intro va wa owna hga _
    have owna3 : wa.ownsRow w.heap.size 4 1 va r.length (r.map fun a : Int × Bool => Value.bool a.2) := by simpa using owna
    have ba : Below w.heap.size (w.setCell ⟨rb, 0, none⟩ (.int .i64 ((fr : Int) + 1))) wa := ((Below.refl _ _).alloc (by simp [World.setCell]) _).grown hga (by simp [World.setCell]) (by simp [Value.ownBlock])
    clear owna hga
    go_wp2_with (at_builtin; refine wpList_app elB rfl (.tmp 32) (.tmp 33) rfl w.heap.size _ _ _ rfl (owna3.alloc _) _ [.bool false] rfl ?_ ?_ ?_ ?_ ?_ ?_)
    case refine_1 => exact Row.of_block (heap_at _ _ _ rfl) rfl rfl (Nat.le_refl _) (by decide)
    case refine_2 => simp [Value.oneCell']
    case refine_3 => unfold maxLen; simp; omega
    case refine_4 => simp; omega
    case refine_5 => have := ba.size; simp [World.setCell] at this ⊢; omega
    intro vb wb ownb hgb _
    have ownb3 : wb.ownsRow w.heap.size 4 1 vb K ((r ++ [(0, false)]).map fun a : Int × Bool => Value.bool a.2) := by
      have e : r.length + [Value.bool false].length = K := by simpa using hrl
      try rw [e] at ownb
      rw [List.map_append]
      exact ownb
    obtain ⟨hb2, hc2, hvb, hhb2⟩ := own_some' ownb3 (by omega)
    subst hvb
    have bb : Below w.heap.size (w.setCell ⟨rb, 0, none⟩ (.int .i64 ((fr : Int) + 1))) wb := below_app (ba.alloc (by have := ba.size; simpa [World.setCell] using this) _) (by have := ba.size; simp [World.setCell] at this ⊢; omega) (owna3.alloc _) hgb (Nat.le_refl _)
    have B1 : Blk (w.setCell ⟨rb, 0, none⟩ (.int .i64 ((fr : Int) + 1))) rb 36 #[.int .i64 ((fr : Int) + 1), .slice (some ⟨hb_, 0, none⟩) K hc, .slice (some ⟨xb, 0, none⟩) K xc] := H1.out.set 0 _
    have BB := B1.keep bb hl0
    have O3 : (w.setCell ⟨rb, 0, none⟩ (.int .i64 ((fr : Int) + 1))).ownsRow base 3 1 (.slice (some ⟨xb, 0, none⟩) K xc) K (q.map fun a : Int × Bool => Value.int .i64 a.1) := own_only H3.out ((Only.refl [rb] _).setCell (p := ⟨rb, 0, none⟩) (by simp) _) (by simp; omega)
    have OB3 := own_belowB O3 bb (own_lt H3.out).1
    have cB := BB.cells
    have fB := BB.froz
    have hlx := (own_lt H3.out).1
    have bB : Below base w wb := ((Below.refl base w).setCell (p := ⟨rb, 0, none⟩) (by show base ≤ rb; exact H.out.lo) (.int .i64 ((fr : Int) + 1))).trans (bb.mono (by have := H.out.lo; omega))
    have HBB := Lib.hid BB
    have lB := BB.lt
    have HOB3 := Lib.hid OB3
    have HOb := Lib.hid ownb3
    have HbB := Lib.hid bB
    have hbsz := bb.size
    clear ownb hgb owna3 ba bb B1 BB O3 OB3 ownb3 bB hx c1 c2 hxf
    obtain ⟨wS, hwS⟩ : ∃ wS, wS = wb.setCell ⟨rb, 1, none⟩ (.slice (some ⟨hb2, 0, none⟩) K hc2) := ⟨_, rfl⟩
    have BS : Blk wS rb 36 #[.int .i64 ((fr : Int) + 1), .slice (some ⟨hb2, 0, none⟩) K hc2, .slice (some ⟨xb, 0, none⟩) K xc] := by rw [hwS]; exact HBB.out.set 1 _
    have OS1 : wS.ownsRow base 4 1 (.slice (some ⟨hb2, 0, none⟩) K hc2) K ((r ++ [(0, false)]).map fun a : Int × Bool => Value.bool a.2) := by rw [hwS]; exact own_weak (own_only HOb.out ((Only.refl [rb] _).setCell (p := ⟨rb, 1, none⟩) (by simp) _) (by simp; omega)) (by have := H.out.lo; omega)
    have OS2 : wS.ownsRow base 3 1 (.slice (some ⟨xb, 0, none⟩) K xc) K (Value.int .i64 a.1 :: (r.map fun a : Int × Bool => Value.int .i64 a.1)) := by
      have h := own_only HOB3.out ((Only.refl [rb] _).setCell (p := ⟨rb, 1, none⟩) (by simp) (.slice (some ⟨hb2, 0, none⟩) K hc2)) (by simp; omega)
      rw [hwS]
      rw [HQ.out] at h
      exact h
    have bS : Below base w wS := by rw [hwS]; exact HbB.out.setCell (by show base ≤ rb; exact H.out.lo) _
    have hSb : base ≤ wS.heap.size := by have := bS.size; have := H.out.lo; omega
    have hSw : w.heap.size ≤ wS.heap.size := bS.size
    have hxbS : xb < wS.heap.size := (own_lt OS2).1
    have hszle : wS.heap.size ≤ wb.heap.size := by rw [hwS]; simp [World.setCell]
    have HwS := Lib.hid hwS
    clear hwS
    go_wp2_with (at_builtin; go_loud (rw [← HwS.out]; refine wpList_app elI rfl (.tmp 38) (.tmp 43) rfl wS.heap.size _ 0 [] rfl (own_empty _ _ _ _ (Nat.le_refl _) (by rw [HwS.out]; simp [World.setCell])) _ (r.map fun a : Int × Bool => Value.int .i64 a.1) rfl ?_ ?_ ?_ ?_ ?_ ?_))
    case refine_1.inl => exact (tail_row (own_al OS2 _)).2 (by omega)
    case refine_1.inr => exact (tail_row (own_al OS2 _)).1
    case refine_2 => intro u hu; obtain ⟨z, _, rfl⟩ := List.mem_map.1 hu; rfl
    case refine_3 => rw [List.length_map]; unfold maxLen; omega
    case refine_4 => rw [List.length_map]; omega
    case refine_5 => simp
    case refine_6.inl =>
      intro vc wc ownc hgc _
      have ownc3 : wc.ownsRow wS.heap.size 3 1 vc r.length (r.map fun a : Int × Bool => Value.int .i64 a.1) := by simpa using ownc
      have bc : Below wS.heap.size wS wc := ((Below.refl _ _).alloc (Nat.le_refl _) _).grown hgc (by simp) (by simp [Value.ownBlock]; omega)
      clear ownc hgc
      go_wp2_with (at_builtin; refine wpList_app elI rfl (.tmp 44) (.tmp 45) rfl wS.heap.size _ _ _ rfl (ownc3.alloc _) _ [.int .i64 0] rfl ?_ ?_ ?_ ?_ ?_ ?_)
      case refine_1 => exact Row.of_block (heap_at _ _ _ rfl) rfl rfl (Nat.le_refl _) (by decide)
      case refine_2 => simp [Value.oneCell']
      case refine_3 => unfold maxLen; simp; omega
      case refine_4 => simp; omega
      case refine_5 => have := bc.size; simp; omega
      intro vd wd ownd2 hgd _
      have ownd3 : wd.ownsRow wS.heap.size 3 1 vd K ((r ++ [(0, false)]).map fun a : Int × Bool => Value.int .i64 a.1) := by
        have e : r.length + [Value.int .i64 0].length = K := by simpa using hrl
        try rw [e] at ownd2
        rw [List.map_append]
        exact ownd2
      obtain ⟨xb2, xc2, hvd, hxb2⟩ := own_some' ownd3 (by omega)
      subst hvd
      have bd : Below wS.heap.size wS wd := below_app ((bc).alloc (by have := bc.size; omega) _) (by have := bc.size; simp; omega) (ownc3.alloc _) hgd (Nat.le_refl _)
      have BD := BS.keep bd BS.lt
      have HBD := own_belowB OS1 bd (own_lt OS1).1
      have cD := BD.cells
      have fD := BD.froz
      have lD := BD.lt
      have BDh := Lib.hid BD
      have HBDh := Lib.hid HBD
      have OXh := Lib.hid ownd3
      have bDh := Lib.hid (bS.trans (bd.mono hSb))
      have rbS := BS.lt
      have hbS := (own_lt OS1).1
      clear ownd2 hgd ownc3 bd bc BD HBD ownd3 cB fB lB
      go_wp2
      go_ret2
      refine ⟨rfl, ⟨⟨hb2, xb2, hc2, xc2, ?_, ?_, ?_, by omega, by omega, by omega⟩, H.out.lo, by simpa using hrl, hpos, hsm, by omega⟩, (bDh.out).setCell (by show base ≤ rb; exact H.out.lo) _⟩
      · have ecast : (((fr + 1 : Nat)) : Int) = (fr : Int) + 1 := by omega
        rw [ecast]
        exact (BDh.out).set 2 _
      · exact own_only HBDh.out ((Only.refl [rb] _).setCell (p := ⟨rb, 2, none⟩) (by simp) _) (by simp; omega)
      · exact own_weak (own_only OXh.out ((Only.refl [rb] _).setCell (p := ⟨rb, 2, none⟩) (by simp) _) (by simp; omega)) hSb
    case refine_6.inr =>
      intro vc wc ownc hgc _
      have ownc3 : wc.ownsRow wS.heap.size 3 1 vc r.length (r.map fun a : Int × Bool => Value.int .i64 a.1) := by simpa using ownc
      have bc : Below wS.heap.size wS wc := ((Below.refl _ _).alloc (Nat.le_refl _) _).grown hgc (by simp) (by simp [Value.ownBlock]; omega)
      clear ownc hgc
      go_wp2_with (at_builtin; refine wpList_app elI rfl (.tmp 44) (.tmp 45) rfl wS.heap.size _ _ _ rfl (ownc3.alloc _) _ [.int .i64 0] rfl ?_ ?_ ?_ ?_ ?_ ?_)
      case refine_1 => exact Row.of_block (heap_at _ _ _ rfl) rfl rfl (Nat.le_refl _) (by decide)
      case refine_2 => simp [Value.oneCell']
      case refine_3 => unfold maxLen; simp; omega
      case refine_4 => simp; omega
      case refine_5 => have := bc.size; simp; omega
      intro vd wd ownd2 hgd _
      have ownd3 : wd.ownsRow wS.heap.size 3 1 vd K ((r ++ [(0, false)]).map fun a : Int × Bool => Value.int .i64 a.1) := by
        have e : r.length + [Value.int .i64 0].length = K := by simpa using hrl
        try rw [e] at ownd2
        rw [List.map_append]
        exact ownd2
      obtain ⟨xb2, xc2, hvd, hxb2⟩ := own_some' ownd3 (by omega)
      subst hvd
      have bd : Below wS.heap.size wS wd := below_app ((bc).alloc (by have := bc.size; omega) _) (by have := bc.size; simp; omega) (ownc3.alloc _) hgd (Nat.le_refl _)
      have BD := BS.keep bd BS.lt
      have HBD := own_belowB OS1 bd (own_lt OS1).1
      have cD := BD.cells
      have fD := BD.froz
      have lD := BD.lt
      have BDh := Lib.hid BD
      have HBDh := Lib.hid HBD
      have OXh := Lib.hid ownd3
      have bDh := Lib.hid (bS.trans (bd.mono hSb))
      have rbS := BS.lt
      have hbS := (own_lt OS1).1
      clear ownd2 hgd ownc3 bd bc BD HBD ownd3 cB fB lB
      go_wp2
      go_ret2
      refine ⟨rfl, ⟨⟨hb2, xb2, hc2, xc2, ?_, ?_, ?_, by omega, by omega, by omega⟩, H.out.lo, by simpa using hrl, hpos, hsm, by omega⟩, (bDh.out).setCell (by show base ≤ rb; exact H.out.lo) _⟩
      · have ecast : (((fr + 1 : Nat)) : Int) = (fr : Int) + 1 := by omega
        rw [ecast]
        exact (BDh.out).set 2 _
      · exact own_only HBDh.out ((Only.refl [rb] _).setCell (p := ⟨rb, 2, none⟩) (by simp) _) (by simp; omega)
      · exact own_weak (own_only OXh.out ((Only.refl [rb] _).setCell (p := ⟨rb, 2, none⟩) (by simp) _) (by simp; omega)) hSb
end Go.Proofs.Ytpbhfhjnjmcgjaa
