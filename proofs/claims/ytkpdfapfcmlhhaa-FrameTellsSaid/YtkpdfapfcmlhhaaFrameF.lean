/- Layer 3: contracts: Split of whatever; equality of rows; appends of bytes. -/
import Derived.Test.YtkpdfapfcmlhhaaFrameE
namespace Go.Proofs.Ytkpdfapfcmlhhaa
open Go.ChangeShapes Go.WideShapes Go.ChangeAt Go.RowKit
set_option linter.unusedVariables false
set_option linter.unusedSimpArgs false

set_option maxRecDepth 100000 in
set_option maxHeartbeats 2000000 in
theorem split_none (w : World) :
    Calls Try.prog 12 #[.slice none 0 0] w fun e w' => ∃ u r, e = .returned (.tuple #[u, r, .int .i64 0]) ∧ Frows w' w.heap.size u [] ∧ Own8 w' r [] ∧ Below w.heap.size w w' := by
  go_enter Try.func12, Try.ntmps12
  go_wp2
  go_step3
  go_wp2
  go_step3
  go_wp2_with fail
  refine wp_loop_rounds 1 ?_
  rw [rounds_succ]
  go_wp2_with fail
  refine (cloned_any _ [] _ Bytes.nil_ (by simp)).mono ?_
  rintro e w2 ⟨u, rfl, hu, hk2⟩
  have HU := Lib.hid hu
  obtain ⟨Bu, cu, rfl, hcu, hcmu, hsu⟩ := hu.bytes.src
  have hb2 : Below w.heap.size w w2 := (show Below w.heap.size w _ by go_grown).trans (hk2.mono (by simp))
  clear hu hsu hk2
  go_wp2
  rw [Exit.noGoto_ret]
  go_ret3
  exact ⟨_, _, rfl, Frows.nil_, HU.out, hb2⟩

theorem split_own (v : Value) (bs : List Int) (w : World) (h : Bytes w v bs) (hl : bs.length ≤ 100000) :
    Calls Try.prog 12 #[v] w fun e w' => ∃ u r, e = .returned (.tuple #[u, r, .int .i64 ((split bs).bad : Int)]) ∧ Frows w' w.heap.size u (split bs).fs ∧ Own8 w' r (split bs).rest ∧ Below w.heap.size w w' := by
  obtain ⟨A, c, rfl, hc, hcm, hs⟩ := h.src
  cases A with
  | none =>
    obtain ⟨⟨A', c', e, h2, h3, hA⟩, _⟩ := h
    injection e with e1 e2 e3
    rcases hA with ⟨_, h0⟩ | ⟨ad, e4, _⟩
    · rw [List.length_map] at h2
      have hb : bs = [] := List.eq_nil_of_length_eq_zero (by omega)
      subst hb
      obtain rfl : c = 0 := by omega
      exact split_none w
    · rw [e4] at e1; cases e1
  | some ad => exact split_some ad c bs w h hl
theorem split_any (v : Value) (bs : List Int) (w : World) (h : Bytes w v bs) (hl : bs.length ≤ 100000) :
    Calls Try.prog 12 #[v] w fun e w' => ∃ u r, e = .returned (.tuple #[u, r, .int .i64 ((split bs).bad : Int)]) ∧ Frows w' w.heap.size u (split bs).fs ∧ Bytes w' r (split bs).rest ∧ Below w.heap.size w w' :=
  (split_own v bs w h hl).mono fun _ _ ⟨u, r, h1, h2, h3, h4⟩ => ⟨u, r, h1, h2, h3.bytes, h4⟩

def RowsB (w : World) (v : Value) (F : List (List Int)) : Prop :=
  ∃ vs : List Value, Row w v vs ∧ vs.length = F.length ∧ ∀ (i : Nat) f, F[i]? = some f → ∃ u, vs[i]? = some u ∧ Bytes w u f
theorem Frows.rows {w : World} {base : Nat} {v : Value} {F : List (List Int)} (h : Frows w base v F) : RowsB w v F := by
  obtain ⟨vs, h1, h2, h3⟩ := h
  exact ⟨vs, by rw [← h2] at h1; exact Row.of_own h1, h2, fun i f hf => by obtain ⟨u, hu, ho⟩ := h3 i f hf; exact ⟨u, hu, ho.bytes⟩⟩
theorem RowsB.below {w w' : World} {v : Value} {F : List (List Int)} (h : RowsB w v F) (hb : Below w.heap.size w w') : RowsB w' v F := by
  obtain ⟨vs, h1, h2, h3⟩ := h
  exact ⟨vs, h1.below hb, h2, fun i f hf => by obtain ⟨u, hu, ho⟩ := h3 i f hf; exact ⟨u, hu, ho.below hb⟩⟩
theorem RowsB.src {w : World} {v : Value} {F : List (List Int)} (h : RowsB w v F) : ∃ A c, v = .slice A F.length c ∧ F.length ≤ c ∧ c ≤ 9223372036854775807 ∧
    ∀ (i : Nat) f, F[i]? = some f → ∃ ad u, A = some ad ∧ ad.block < w.heap.size ∧ w.cell? (ad.add i) = some u ∧ Bytes w u f := by
  obtain ⟨vs, ⟨A, c, h1, h2, h3, hA⟩, hl, hf⟩ := h
  rw [hl] at h1 h2
  unfold maxLen at h3
  refine ⟨A, c, h1, h2, h3, fun i f hi => ?_⟩
  obtain ⟨u, hu, hB⟩ := hf i f hi
  have hil : i < F.length := (List.getElem?_eq_some_iff.1 hi).1
  rcases hA with ⟨_, h0⟩ | ⟨ad, e, hb, hc⟩
  · omega
  · exact ⟨ad, u, e, hb (by omega), hc i u hu, hB⟩

theorem quiet_l {P : Program} {f : FuncId} {args : Array Value} {w : World} {n : Nat} {v : Value}
    (h : Calls P f args (w.drewN n) fun e w' => e = .returned v ∧ w.drewN n = w') : Calls P f args (w.drewN n) fun e w'' => e = .returned v ∧ ∃ m, w'' = w.drewN m :=
  h.mono fun _ _ ⟨he, hw⟩ => ⟨he, n, hw.symm⟩
theorem Bytes.drewN {w : World} {v : Value} {bs : List Int} (h : Bytes w v bs) (n : Nat) : Bytes (w.drewN n) v bs := h
theorem take_eq_step {α : Type} {xs ys : List α} {k : Nat} {x : α} (h : xs.take k = ys.take k) (hx : xs[k]? = some x) (hy : ys[k]? = some x) : xs.take (k + 1) = ys.take (k + 1) := by
  rw [List.take_add_one, List.take_add_one, hx, hy, h]

set_option maxRecDepth 100000 in
set_option maxHeartbeats 4000000 in
theorem sameall_any (va vb : Value) (F G : List (List Int)) (w : World) (ha : RowsB w va F) (hb : RowsB w vb G) :
    Calls Try.prog 15 #[va, vb] w fun e w' => e = .returned (.bool (decide (F = G))) ∧ Below w.heap.size w w' := by
  obtain ⟨A, c, rfl, hc, hcm, hA⟩ := ha.src
  obtain ⟨B, d, rfl, hd, hdm, hB⟩ := hb.src
  have HA := Lib.hid hA
  have HB := Lib.hid hB
  clear ha hb hA hB
  by_cases hl : F.length = G.length
  rotate_left
  · have hne : decide (F = G) = false := decide_eq_false fun h => hl (by rw [h])
    have g : ((F.length : Int) != (G.length : Int)) = true := by simp; omega
    go_enter Try.func15, Try.ntmps15
    go_wp2
    all_goals
      go_ret
      exact ⟨by first | rfl | (rw [hne]; rfl), Below.refl _ _⟩
  have g : ((F.length : Int) != (G.length : Int)) = false := by simp; omega
  have HL := Lib.hid hl
  have hle : G.length ≤ F.length := by omega
  have hle2 : F.length ≤ G.length := by omega
  clear hl
  go_enter Try.func15, Try.ntmps15
  go_wp2_with fail
  go_loopw [5] (fun i wr => ∃ k : Nat, k ≤ F.length ∧ i = .int .i64 k ∧ F.take k = G.take k ∧ Below w.heap.size w wr) (fun i _ => F.length - (intOf i).toNat)
  case atStart => exact ⟨0, by omega, rfl, rfl, Below.refl _ _⟩
  case round =>
    obtain ⟨k, hk, rfl, ht, hb⟩ := hrel
    have HT := Lib.hid ht
    clear ht
    by_cases hlt : k < F.length
    · obtain ⟨f, hf⟩ : ∃ f, F[k]? = some f := ⟨_, List.getElem?_eq_getElem hlt⟩
      obtain ⟨q, hq⟩ : ∃ q, G[k]? = some q := ⟨_, List.getElem?_eq_getElem (by omega)⟩
      obtain ⟨ad, u, rfl, hau, hcu, hbu⟩ := HA.out k f hf
      obtain ⟨bd, t, rfl, hat, hct, hbt⟩ := HB.out k q hq
      have HU := Lib.hid (hbu.below hb)
      have HTB := Lib.hid (hbt.below hb)
      have hcu' : wr.cell? (ad.add k) = some u := (hb.cell (by rw [block_add]; exact hau)).trans hcu
      have hct' : wr.cell? (bd.add k) = some t := (hb.cell (by rw [block_add]; exact hat)).trans hct
      have hkb : (k : Int) < (G.length : Int) := by omega
      have hka : (k : Int) < (F.length : Int) := by omega
      have HX := Lib.hid hf
      have HY := Lib.hid hq
      clear hf hq hbu hbt hcu hct
      by_cases hxy : f = q
      · have gxy : decide (f = q) = true := decide_eq_true hxy
        have HXY := Lib.hid hxy
        clear hxy
        go_wp2_with fail
        go_quiet ((go_at_call 14; exact quiet_l (same_any _ _ f q _ (HU.out.drewN _) (HTB.out.drewN _))))
        go_wp2
        go_roundw
        case rel => exact ⟨k + 1, by omega, by go_num, take_eq_step HT.out HX.out (by rw [HXY.out]; exact HY.out), Bdrew hb _⟩
        case measure => simp [intOf]; omega
      · have gxy : decide (f = q) = false := decide_eq_false hxy
        have hne : decide (F = G) = false := decide_eq_false fun h => hxy (by
          have h1 := HX.out
          rw [h, HY.out] at h1
          exact (Option.some.inj h1).symm)
        go_wp2_with fail
        go_quiet ((go_at_call 14; exact quiet_l (same_any _ _ f q _ (HU.out.drewN _) (HTB.out.drewN _))))
        go_wp2
        go_ret
        exact ⟨by first | rfl | (rw [hne]; rfl), Bdrew hb _⟩
    · have he : k = F.length := by omega
      subst he
      have hyes : decide (F = G) = true := decide_eq_true (by
        have h := HT.out
        rw [List.take_length, HL.out, List.take_length] at h
        exact h)
      go_wp2
      go_ret
      exact ⟨by first | rfl | (rw [hyes]; rfl), hb⟩

theorem own_lit {w : World} {g base n : Nat} {l : List Int} {e : TypeId} (h : Blk w g e (l.map (Value.int .u8)).toArray) (hb : base ≤ g) (hn : n = l.length) (hm : n ≤ maxLen) :
    w.ownsRow base e 1 (.slice (some ⟨g, 0, none⟩) n n) l.length (l.map (Value.int .u8)) := by
  subst hn
  refine ⟨by simp, .inr ⟨g, l.length, _, rfl, hb, h, Nat.le_refl _, hm, by simp, ?_⟩⟩
  rw [List.toList_toArray]
  exact List.take_of_length_le (by simp)
theorem lit8 {w : World} {g n : Nat} {l : List Int} (h : Blk w g 5 (l.map (Value.int .u8)).toArray) (hn : n = l.length) (hm : n ≤ maxLen) (hr : U8s l) : Bytes w (.slice (some ⟨g, 0, none⟩) n n) l :=
  (Own8.of_own (own_lit h (Nat.zero_le _) hn hm) hr).bytes
theorem wpList_ap8 {w : World} {ops : Array Oper} {rest : List Oper} {o : Oper} {a : Act} {Q : Exit → Act → World → Prop} (hgd : o.guard = none) (s x : Operand)
    (ho : o.op = .call { callee := .builtin .append, args := #[s, x], argTypes := #[22, 22] }) (base : Nat) (v : Value) (xs : List Int) (hs : a.eval s = v) (hown : w.ownsRow base 5 1 v xs.length (xs.map (Value.int .u8)))
    (vx : Value) (ys : List Int) (hx : a.eval x = vx) (hB : Bytes w vx ys) (hn : xs.length + ys.length ≤ 1000000) (hbase : base ≤ w.heap.size) (w0 : World) (hb : Below base w0 w)
    (h : ∀ v' w', Hid (w'.ownsRow base 5 1 v' (xs ++ ys).length ((xs ++ ys).map (Value.int .u8))) → Below base w0 w' → wpList Try.prog ops Q rest (a.put o.dst v') w') : wpList Try.prog ops Q (o :: rest) a w := by
  refine wpList_app el8 hgd s x ho base v xs.length _ hs hown vx (ys.map (.int .u8)) hx hB.1 (one_ints _ _) ?_ ?_ hbase ?_
  · rw [List.length_map]; unfold maxLen; omega
  · rw [List.length_map]; omega
  · intro v' w' ho hg _
    refine h v' w' (Lib.hid ?_) (below_app hb hbase hown hg (Nat.le_refl _))
    rw [List.map_append, List.length_append]
    rw [List.length_map] at ho
    exact ho
theorem step_ap8 {w : World} {ops : Array Oper} {o : Oper} {a : Act} {K : Act → World → Prop} {Q : Exit → Act → World → Prop} {E : Prop} (hgd : o.guard = none) (s x : Operand)
    (ho : o.op = .call { callee := .builtin .append, args := #[s, x], argTypes := #[22, 22] }) (base : Nat) (v : Value) (xs : List Int) (hs : a.eval s = v) (hown : w.ownsRow base 5 1 v xs.length (xs.map (Value.int .u8)))
    (vx : Value) (ys : List Int) (hx : a.eval x = vx) (hB : Bytes w vx ys) (hn : xs.length + ys.length ≤ 1000000) (hbase : base ≤ w.heap.size) (w0 : World) (hb : Below base w0 w)
    (h : ∀ v' w', Hid (w'.ownsRow base 5 1 v' (xs ++ ys).length ((xs ++ ys).map (Value.int .u8))) → Below base w0 w' → w.grownBy w' v.ownBlock → K (a.put o.dst v') w') :
    if Region.wanted o (yielded ops a.tmps) = true then Oper.wp Try.prog o a w K Q else E := by
  have hw : Region.wanted o (yielded ops a.tmps) = true := by simp [Region.wanted, hgd]
  rw [if_pos hw]
  refine wp_app el8 s x ho base v xs.length _ hs hown vx (ys.map (.int .u8)) hx hB.1 (one_ints _ _) ?_ ?_ hbase ?_
  · rw [List.length_map]; unfold maxLen; omega
  · rw [List.length_map]; omega
  · intro v' w' ho hg _
    refine h v' w' (Lib.hid ?_) (below_app hb hbase hown hg (Nat.le_refl _)) hg
    rw [List.map_append, List.length_append]
    rw [List.length_map] at ho
    exact ho
end Go.Proofs.Ytkpdfapfcmlhhaa
