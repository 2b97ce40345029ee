/- Layer 3: contracts: rows of bytes that are made, sums, frames. -/
import Derived.Test.YtkpdfapfcmlhhaaFrameM
import Derived.Test.YtkpdfapfcmlhhaaMemC
import Derived.Laws.CopyOwn
import Derived.Deep.RegionLaw
import Derived.Deep.QuietTactic
import Derived.BigQuiet
namespace Go.Proofs.Ytkpdfapfcmlhhaa
open Go.ChangeShapes Go.WideShapes Go.ChangeAt Go.RowKit
set_option linter.unusedVariables false
set_option linter.unusedSimpArgs false

theorem NB.of_bytes {w : World} {v : Value} {bs : List Int} (h : Bytes w v bs) : NB w v (toN bs) := by
  refine ⟨?_, toN_lt h.2⟩
  unfold toN
  rw [List.map_map]
  have e : bs.map ((fun x : Nat => Value.int .u8 (x : Int)) ∘ Int.toNat) = bs.map (Value.int .u8) := by
    apply List.map_congr_left
    intro z hz
    have := h.2 z hz
    show Value.int .u8 ((z.toNat : Nat) : Int) = _
    rw [Int.toNat_of_nonneg this.1]
  rw [e]
  exact h.1
theorem Bytes.src {w : World} {v : Value} {bs : List Int} (h : Bytes w v bs) : ∃ A c, v = .slice A bs.length c ∧ bs.length ≤ c ∧ c ≤ 9223372036854775807 ∧
    (0 < bs.length → ∃ ad, A = some ad ∧ ad.block < w.heap.size ∧ ∀ j x, (bs.map (Value.int .u8))[j]? = some x → w.cell? (ad.add j) = some x) := by
  obtain ⟨⟨A, c, h1, h2, h3, hA⟩, _⟩ := h
  rw [List.length_map] at h1 h2 hA
  unfold maxLen at h3
  refine ⟨A, c, h1, h2, h3, fun h0 => ?_⟩
  rcases hA with ⟨_, hz⟩ | ⟨ad, e, hb, hc⟩
  · omega
  · exact ⟨ad, e, hb h0, hc⟩
theorem Bytes.sub {w : World} {ad : Addr} {n c : Nat} {bs : List Int} (h : Bytes w (.slice (some ad) n c) bs) (i m c' : Nat) (hm : i + m ≤ bs.length) (hc' : m ≤ c') (hcm : c' ≤ maxLen) : Bytes w (.slice (some (ad.add i)) m c') ((bs.drop i).take m) := by
  obtain ⟨⟨A, c0, hv, h2, h3, hA⟩, hr⟩ := h
  injection hv with e1 e2 e3
  subst e1 e3
  have hl : ((bs.drop i).take m).length = m := by simp; omega
  refine ⟨⟨some (ad.add i), c', by rw [List.length_map, hl], by rw [List.length_map, hl]; exact hc', hcm, .inr ⟨_, rfl, fun h0 => ?_, fun j x hx => ?_⟩⟩, fun x hx => hr x (List.mem_of_mem_drop (List.mem_of_mem_take hx))⟩
  · rw [List.length_map, hl] at h0
    rcases hA with ⟨h, _⟩ | ⟨ad', h5, h6, _⟩
    · cases h
    · cases h5
      rw [block_add]
      exact h6 (by rw [List.length_map]; omega)
  · rcases hA with ⟨h, _⟩ | ⟨ad', h5, _, h7⟩
    · cases h
    · cases h5
      rw [Go.Deep.add_add]
      refine h7 (i + j) x ?_
      rw [← hx, List.getElem?_map, List.getElem?_map, List.getElem?_take]
      have hj : j < m := by
        rcases Nat.lt_or_ge j m with h | h
        · exact h
        · rw [List.getElem?_eq_none (by rw [List.length_map, hl]; exact h)] at hx
          cases hx
      rw [if_pos hj, List.getElem?_drop]

def laidL (N : Nat) (pre : List Int) : List Value := (pre ++ List.replicate (N - pre.length) (0 : Int)).map (Value.int .u8)
def Laid (w : World) (g N : Nat) (pre : List Int) : Prop := Blk w g 5 (laidL N pre).toArray
theorem laid_len (N : Nat) (pre : List Int) (h : pre.length ≤ N) : (laidL N pre).length = N := by simp [laidL]; omega
theorem laid_splice (N : Nat) (pre cs : List Int) (h : pre.length + cs.length ≤ N) : splice (laidL N pre) pre.length (cs.map (Value.int .u8)) = laidL N (pre ++ cs) := by
  unfold splice laidL
  rw [List.length_map, ← List.map_take, ← List.map_drop, ← List.map_append, ← List.map_append]
  congr 1
  rw [List.take_append_of_le_length (Nat.le_refl _), List.take_length, List.append_assoc]
  congr 2
  rw [List.drop_append, List.drop_eq_nil_of_le (by omega), List.nil_append, List.drop_replicate, List.length_append]
  congr 1
  omega
theorem laid_set (N : Nat) (x : Int) (h : 1 ≤ N) : (laidL N []).toArray.setIfInBounds 0 (.int .u8 x) = (laidL N [x]).toArray := by
  obtain ⟨m, rfl⟩ : ∃ m, N = m + 1 := ⟨N - 1, by omega⟩
  simp [laidL, List.replicate_succ]
theorem laid_set' (N : Nat) (x : Int) (h : 1 ≤ N) : (laidL N []).set 0 (.int .u8 x) = laidL N [x] := by
  obtain ⟨m, rfl⟩ : ∃ m, N = m + 1 := ⟨N - 1, by omega⟩
  simp [laidL, List.replicate_succ]
theorem laid_full (N : Nat) (pre : List Int) (h : pre.length = N) : laidL N pre = pre.map (Value.int .u8) := by simp [laidL, h]
theorem Laid.row {w : World} {g N : Nat} {pre : List Int} (h : Laid w g N pre) (hl : pre.length = N) (hm : N ≤ maxLen) : Row w (.slice (some ⟨g, 0, none⟩) N N) (pre.map (Value.int .u8)) := by
  refine Row.of_block h ?_ (by rw [List.length_map, hl]) (Nat.le_refl _) hm
  rw [List.toList_toArray, laid_full N pre hl, List.drop_zero]
  exact List.take_of_length_le (by rw [List.length_map, hl]; exact Nat.le_refl _)
theorem Laid.sub {w : World} {g N : Nat} {pre xs : List Int} (h : Laid w g N pre) (i m c' : Nat) (hx : (pre.drop i).take m = xs) (him : i + m ≤ pre.length) (hc : m ≤ c') (hcm : c' ≤ maxLen) (hr : U8s pre) : Bytes w (.slice (some ⟨g, i, none⟩) m c') xs := by
  refine ⟨Row.of_block h ?_ ?_ hc hcm, fun x hx' => hr x ?_⟩
  · rw [List.toList_toArray, ← hx]
    unfold laidL
    rw [← List.map_drop, ← List.map_take, List.drop_append_of_le_length (by omega), List.take_append_of_le_length (by rw [List.length_drop]; omega)]
  · rw [← hx, List.length_map, List.length_take, List.length_drop]; omega
  · rw [← hx] at hx'
    exact List.mem_of_mem_drop (List.mem_of_mem_take hx')
theorem u8_info : (Try.prog.info? 5).map (fun i => (i.zero, i.size, i.bytes)) = some (some (.int .u8 0), 1, 1) := by kernel_rfl
theorem u8_size : (Try.prog.info? 5).map (·.size) = some 1 := by kernel_rfl
theorem mk_u8 (N : Nat) (h : N ≤ 100000000) : ∀ w : World, (Instr.makeSlice 22 (.int .i64 (N : Int)) (.int .i64 (N : Int))).run Try.prog w = .ok (.slice (some ⟨w.heap.size, 0, none⟩) N N) (w.alloc (.cells (laidL N []).toArray 5)) := by
  intro w
  have h := run_make_rowN (P := Try.prog) 22 5 (.int .u8 0) 1 (k := 1) Try.underlying22 u8_info .i64 .i64 N (by omega) (by omega) w
  have e2 : madeCells (Value.int .u8 0).cells (N * 1) = (laidL N []).toArray := by
    rw [madeCells_rep _ (.int .u8 0) _ (by intro i hi; simp [Value.cells] at hi; subst hi; rfl) (by decide)]
    simp [laidL]
  rw [e2] at h
  exact h

/-- A row of bytes in a block of its own. -/
def Own8 (w : World) (u : Value) (f : List Int) : Prop :=
  (∃ (b : Nat) (c : Nat) (cs : Array Value), u = .slice (some ⟨b, 0, none⟩) f.length c ∧ Blk w b 5 cs ∧ cs.toList.take f.length = f.map (Value.int .u8) ∧ f.length ≤ c ∧ c ≤ maxLen ∧ U8s f) ∨ (u = .slice none 0 0 ∧ f = [])
theorem Own8.bytes {w : World} {u : Value} {f : List Int} (h : Own8 w u f) : Bytes w u f := by
  rcases h with ⟨b, c, cs, rfl, hb, ht, hc, hm, hr⟩ | ⟨rfl, rfl⟩
  · exact ⟨Row.of_block hb (by rw [List.drop_zero]; exact ht) (by rw [List.length_map]) hc hm, hr⟩
  · exact Bytes.nil_
theorem Own8.move {w w' : World} {u : Value} {f : List Int} (h : Own8 w u f) (hk : ∀ b cs, Blk w b 5 cs → Blk w' b 5 cs) : Own8 w' u f := by
  rcases h with ⟨b, c, cs, e, hb, h⟩ | h
  · exact .inl ⟨b, c, cs, e, hk b cs hb, h⟩
  · exact .inr h
theorem Own8.below {w w' : World} {u : Value} {f : List Int} (h : Own8 w u f) (hb : Below w.heap.size w w') : Own8 w' u f := h.move fun _ _ h => h.below hb
theorem Own8.of_own {w : World} {base n : Nat} {v : Value} {f : List Int} (h : w.ownsRow base 5 1 v n (f.map (Value.int .u8))) (hr : U8s f) : Own8 w v f := by
  obtain ⟨hl, h⟩ := h
  rw [List.length_map, Nat.mul_one] at hl
  subst hl
  rcases h with ⟨rfl, h0⟩ | ⟨g, cap, cur, rfl, hb, hh, hn, hc, hs, ht⟩
  · have e : f = [] := List.eq_nil_of_length_eq_zero (by simpa using h0)
    subst e
    exact .inr ⟨rfl, rfl⟩
  · exact .inl ⟨g, cap, cur, rfl, hh, by simpa using ht, hn, hc, hr⟩
theorem Own8.one {w : World} {u : Value} {f : List Int} (h : Own8 w u f) : u.oneCell' = true := by
  rcases h with ⟨b, c, cs, rfl, _⟩ | ⟨rfl, _⟩ <;> rfl

theorem Bytes.len {w : World} {A : Option Addr} {n c : Nat} {bs : List Int} (h : Bytes w (.slice A n c) bs) : n = bs.length := by
  obtain ⟨A', c', e, _⟩ := h.src
  injection e
theorem Bytes.pos {w : World} {A : Option Addr} {n c : Nat} {bs : List Int} (h : Bytes w (.slice A n c) bs) {dp ep : Option Addr} (hd : dp = ep) :
    0 < (bs.map (Value.int .u8)).length → dp = ep ∧ ∃ ad, A = some ad ∧ ∀ j v, (bs.map (Value.int .u8))[j]? = some v → w.cell? (ad.add j) = some v := by
  intro h0
  obtain ⟨A', c', e, _, _, hs⟩ := h.src
  injection e with e1 e2 e3
  obtain ⟨ad, e, _, hc⟩ := hs (by simpa using h0)
  exact ⟨hd, ad, e1.trans e, hc⟩
theorem laid_of_splice {w' : World} {g N : Nat} {pre bs : List Int} (h : w'.heap[g]? = some (.cells (splice (laidL N pre) pre.length (bs.map (.int .u8))).toArray 5 (0, 0))) (hfit : pre.length + bs.length ≤ N) : Laid w' g N (pre ++ bs) := by
  rw [laid_splice N pre bs hfit] at h
  exact h
theorem wpList_cpy {w : World} {ops : Array Oper} {rest : List Oper} {o : Oper} {a : Act} {Q : Exit → Act → World → Prop} (hgd : o.guard = none) (d s : Operand)
    (ho : o.op = .call { callee := .builtin .copy, args := #[d, s], argTypes := #[22, 22] }) (g off dLen dCap N : Nat) (A : Option Addr) (n c : Nat)
    (hd : a.eval d = .slice (some ⟨g, off, none⟩) dLen dCap) (hs : a.eval s = .slice A n c) (pre bs : List Int) (hoff : pre.length = off) (hL : Laid w g N pre) (hB : Bytes w (.slice A n c) bs)
    (hn : bs.length ≤ dLen) (hfit : pre.length + bs.length ≤ N) (B : Nat) (w0 : World) (hb : Below B w0 w) (hBg : B ≤ g)
    (h : ∀ w', Hid (Laid w' g N (pre ++ bs)) → Below B w0 w' → wpList Try.prog ops Q rest (a.put o.dst (goInt bs.length)) w') : wpList Try.prog ops Q (o :: rest) a w := by
  obtain rfl := hB.len
  refine wpList_copy_splice hgd d s 22 22 ho 5 Try.underlying22 u8_size _ _ _ _ _ _ hd hs g off (laidL N pre) 5 hL (bs.map (.int .u8)) ?_ (hB.pos rfl) ?_ (one_ints _ _) B w0 hb hBg ?_
  · rw [List.length_map]; exact (Nat.min_eq_left hn).symm
  · rw [laid_len _ _ (by omega), List.length_map]; omega
  · intro w' HG hb'
    rw [List.length_map]
    subst hoff
    exact h w' (Lib.hid (laid_of_splice HG.out hfit)) hb'
theorem step_cpy {w : World} {ops : Array Oper} {o : Oper} {a : Act} {K : Act → World → Prop} {Q : Exit → Act → World → Prop} {E : Prop} (hgd : o.guard = none) (d s : Operand)
    (ho : o.op = .call { callee := .builtin .copy, args := #[d, s], argTypes := #[22, 22] }) (g off dLen dCap N : Nat) (A : Option Addr) (n c : Nat)
    (hd : a.eval d = .slice (some ⟨g, off, none⟩) dLen dCap) (hs : a.eval s = .slice A n c) (pre bs : List Int) (hoff : pre.length = off) (hL : Laid w g N pre) (hB : Bytes w (.slice A n c) bs)
    (hn : bs.length ≤ dLen) (hfit : pre.length + bs.length ≤ N) (B : Nat) (w0 : World) (hb : Below B w0 w) (hBg : B ≤ g)
    (h : ∀ w', Hid (Laid w' g N (pre ++ bs)) → Below B w0 w' → K (a.put o.dst (goInt bs.length)) w') :
    if Region.wanted o (yielded ops a.tmps) = true then Oper.wp Try.prog o a w K Q else E := by
  obtain rfl := hB.len
  refine step_copy_splice hgd d s 22 22 ho 5 Try.underlying22 u8_size _ _ _ _ _ _ hd hs g off (laidL N pre) 5 hL (bs.map (.int .u8)) ?_ (hB.pos rfl) ?_ (one_ints _ _) B w0 hb hBg ?_
  · rw [List.length_map]; exact (Nat.min_eq_left hn).symm
  · rw [laid_len _ _ (by omega), List.length_map]; omega
  · intro w' HG hb'
    rw [List.length_map]
    subst hoff
    exact h w' (Lib.hid (laid_of_splice HG.out hfit)) hb'

set_option maxHeartbeats 1000000 in
theorem cloned_any (v : Value) (bs : List Int) (w : World) (h : Bytes w v bs) (hl : bs.length ≤ 1000000) :
    Calls Try.prog 25 #[v] w fun e w' => ∃ u, e = .returned u ∧ Own8 w' u bs ∧ Below w.heap.size w w' := by
  have H := Lib.hid h
  have hr := h.2
  obtain ⟨A, c, rfl, hc, hcm, hs⟩ := h.src
  have HR := Lib.hid hr
  have hmk := mk_u8 bs.length (by omega)
  clear h hs hr
  go_enter Try.func25, Try.ntmps25
  go_wp2_with ((with_reducible show wpList _ _ _ _ _ _); refine wpList_cpy rfl (.tmp 7) (.tmp 8) rfl w.heap.size 0 _ _ bs.length A _ _ rfl rfl [] bs rfl (heap_at _ _ _ rfl) (H.out.below ((Below.refl _ _).alloc (Nat.le_refl _) _)) (Nat.le_refl _) (by simp) w.heap.size w (by go_grown) (Nat.le_refl _) ?_)
  intro w2 HL hb2
  clear hmk
  go_wp2
  go_ret
  have hT : (laidL bs.length bs).toArray.toList.take bs.length = bs.map (Value.int .u8) := by
    rw [List.toList_toArray, laid_full _ _ rfl]
    exact List.take_of_length_le (by rw [List.length_map]; exact Nat.le_refl _)
  exact ⟨_, rfl, .inl ⟨_, _, _, rfl, HL.out, hT, Nat.le_refl _, by unfold maxLen; omega, HR.out⟩, hb2⟩

theorem sumOf_any (v : Value) (bs : List Int) (w : World) (h : Bytes w v bs) :
    Calls Try.prog 17 #[v] w fun e w' => ∃ u, e = .returned u ∧ Bytes w' u (sum4 bs) ∧ Below w.heap.size w w' := by
  have HN := Lib.hid (NB.of_bytes h)
  have hs := sum_lt32 (toN bs) (toN_lt h.2)
  have HE := Lib.hid (show putB ((sumN 0 (toN bs) : Nat) : Int) (Int.toNat 4) = sum4 bs from rfl)
  clear h
  go_enter Try.func17, Try.ntmps17
  go_wp2_with fail
  refine (sum_any _ (toN bs) _ HN.out).mono ?_
  rintro e w1 ⟨rfl, hb1⟩
  go_wp2_with fail
  refine (put_yes _ 4 _ (by omega) (by omega) (by omega) (by simp; omega)).mono ?_
  rintro e w2 ⟨u, rfl, hu, hk⟩
  rw [HE.out] at hu
  have hb2 := hb1.trans (hk.mono hb1.size)
  have HU := Lib.hid hu
  obtain ⟨B, d, rfl, _⟩ := hu.src
  clear hu hk
  go_wp2
  go_ret
  exact ⟨_, rfl, HU.out, hb2⟩

theorem frame_no (v : Value) (d : List Int) (w : World) (h : Bytes w v d) (hl : 255 < d.length) :
    Calls Try.prog 10 #[v] w fun e w' => e = .returned (.tuple #[.slice none 0 0, .bool false]) ∧ w = w' := by
  obtain ⟨A, c, rfl, hc, hcm, _⟩ := h.src
  clear h
  go_enter Try.func10, Try.ntmps10
  go_wp2
  go_ret2
  exact ⟨rfl, rfl⟩

set_option maxHeartbeats 4000000 in
theorem frame_yes (v : Value) (d : List Int) (w : World) (h : Bytes w v d) (hl : d.length ≤ 255) :
    Calls Try.prog 10 #[v] w fun e w' => ∃ u, e = .returned (.tuple #[u, .bool true]) ∧ Own8 w' u (framed d) ∧ Below w.heap.size w w' := by
  have H := Lib.hid h
  have hr := h.2
  obtain ⟨A, c, rfl, hc, hcm, hs⟩ := h.src
  have HS := Lib.hid hs
  have HR := Lib.hid hr
  have HP := Lib.hid (show putB (d.length : Int) (Int.toNat 1) = [(d.length : Int)] by simp [putB]; omega)
  obtain ⟨N, hN⟩ : ∃ N : Nat, N = d.length + 6 := ⟨_, rfl⟩
  have hmk := mk_u8 N (by omega)
  rw [show ((N : Nat) : Int) = 2 + (d.length : Int) + 4 by omega] at hmk
  have HN := Lib.hid hN
  clear h hs hr hN
  go_enter Try.func10, Try.ntmps10
  go_wp2_with fail
  refine (put_yes _ 1 _ (by omega) (by omega) (by omega) (by simp; omega)).mono ?_
  rintro e w1 ⟨u, rfl, hu, hb1⟩
  rw [HP.out] at hu
  obtain ⟨B, c1, rfl, hc1, hcm1, hs1⟩ := hu.src
  have HU := Lib.hid hu
  have HS1 := Lib.hid hs1
  clear hu hs1
  have hN6 : d.length + 6 ≤ N := by have := HN.out; omega
  have hx0 : (w1.alloc (.cells (laidL N []).toArray 5)).cell? ⟨w1.heap.size, 0, none⟩ = some (.int .u8 0) := by
    rw [World.cell?_alloc_new]
    obtain ⟨m, rfl⟩ : ∃ m, N = m + 1 := ⟨N - 1, by omega⟩
    simp [laidL, List.replicate_succ]
  have hf0 := (Blk.new w1 5 (laidL N []).toArray _ rfl).froz 0
  have HL1 : Hid (Laid (w1.alloc (.cells ((laidL N []).set 0 (.int .u8 165)).toArray 5)) w1.heap.size N [165]) := Lib.hid (by
    rw [laid_set' N 165 (by omega)]
    exact heap_at _ _ _ rfl)
  go_wp2_with ((with_reducible show wpList _ _ _ _ _ _); refine wpList_cpy rfl (.tmp 24) (.tmp 25) rfl w1.heap.size 1 _ _ N B _ _ rfl rfl [165] [(d.length : Int)] rfl HL1.out (HU.out.below ((Below.refl _ _).alloc (Nat.le_refl _) _)) (by simp; omega) (by simp; omega) w.heap.size w (hb1.alloc hb1.size _) hb1.size ?_)
  intro w2 HL2 hb2
  clear hmk hx0 hf0 HU HS1 HL1
  go_wp2_with ((with_reducible show wpList _ _ _ _ _ _); refine wpList_cpy rfl (.tmp 28) (.tmp 29) rfl w1.heap.size 2 _ _ N A _ _ rfl rfl [165, (d.length : Int)] d rfl HL2.out (H.out.below hb2) (by omega) (by simp; omega) w.heap.size w hb2 hb1.size ?_)
  intro w3 HL3 hb3
  clear HL2 hb2
  go_wp2_with fail
  obtain ⟨M, hM⟩ : ∃ M : Nat, M = 2 + d.length := ⟨_, rfl⟩
  have hW : IntKind.i64.wrap (2 + (d.length : Int)) = (M : Int) := by rw [IntWalk.i64_in _ (by omega)]; omega
  have hMN : (M : Int) ≤ (N : Int) := by omega
  have hM1 : (1 : Int) ≤ (M : Int) := by omega
  have hne : ¬ N = M := by omega
  have hN1 : ¬ N = 1 := by omega
  have hN2 : N ≤ 300 := by have := HN.out; omega
  have HM := Lib.hid hM
  have hsl := sum4_len ((d.length : Int) :: d)
  have HSL := Lib.hid hsl
  have hrf : U8s (165 :: (d.length : Int) :: d) := U8s.cons (by omega) (U8s.cons (by omega) HR.out)
  have HRF := Lib.hid hrf
  clear hM hsl hrf
  go_region_law (first
    | (refine step_cpy rfl (.tmp 35) (.tmp 41) rfl w1.heap.size M _ _ N Bu _ _ rfl rfl (165 :: (d.length : Int) :: d) (sum4 ((d.length : Int) :: d)) (by have := HM.out; simp; omega) HL4.out HU4.out (by have := HM.out; have := HSL.out; omega) (by have := HM.out; have := HSL.out; simp; omega) w.heap.size w hb4 hb1.size ?_; intro w5 HL5 hb5)
    | (rw [if_pos (by rfl)]; go_simp; go_at_call 17; refine (sumOf_any _ ((d.length : Int) :: d) _ (Laid.sub (pre := 165 :: (d.length : Int) :: d) (show Laid w3.drew w1.heap.size N _ from HL3.out) 1 (M - 1) (N - 1) (by have := HM.out; rw [show M - 1 = d.length + 1 by omega]; simp) (by have := HM.out; simp; omega) (by omega) (by unfold maxLen; omega) HRF.out)).mono ?_; rintro e w4 ⟨u, rfl, hu, hk⟩; obtain ⟨Bu, cu, rfl, hcu, hcmu, _⟩ := hu.src; have HU4 := Lib.hid hu; have HL4 : Hid (Laid w4 w1.heap.size N (165 :: (d.length : Int) :: d)) := Lib.hid (Blk.below (show Blk w3.drew _ _ _ from HL3.out) hk); have hb4 : Below w.heap.size w w4 := hb3.trans ⟨hk.os, hk.tape, hk.output, hk.size, fun b hb => hk.block b (Nat.lt_of_lt_of_le hb hb3.size)⟩; clear hu hk; dsimp only))
  have e : 165 :: (d.length : Int) :: d ++ sum4 ((d.length : Int) :: d) = framed d := rfl
  rw [e] at HL5
  have HL5' := Lib.hid HL5.out
  have HNN := Lib.hid hN2
  clear HL5 HL4 HU4 e
  go_wp2
  go_ret2
  have hfl : (framed d).length = N := by rw [framed_len]; exact HN.out.symm
  refine ⟨_, rfl, .inl ⟨w1.heap.size, N, _, ?_, HL5'.out, ?_, by omega, by have := HNN.out; unfold maxLen; omega, framed_range HR.out hl⟩, hb5⟩
  · rw [hfl]; rfl
  · rw [List.toList_toArray, laid_full _ _ hfl]
    exact List.take_of_length_le (by rw [List.length_map]; exact Nat.le_refl _)
end Go.Proofs.Ytkpdfapfcmlhhaa
