/- Layer 13: New. -/
import Derived.Test.YtoiaagdpckgpoaaGridG
import Derived.Test.YtoiaagdpckgpoaaConfM
namespace Go.Proofs.Ytoiaagdpckgpoaa
open Go.ChangeShapes Go.WideShapes Go.ChangeAt Go.RowKit
set_option linter.unusedVariables false
set_option linter.unusedSimpArgs false

/-- rings as they are made -/
structure NewRs (w : World) (lo k : Nat) (bs : List (Nat × Nat)) : Prop where
  rings : ∀ b ∈ bs, RingP w b.1 b.2 0 k (List.replicate k ((0, 0), false))
  apart : ∀ (i j : Nat) b c, bs[i]? = some b → bs[j]? = some c → i ≠ j → c.1 ∉ [b.1, b.2] ∧ c.2 ∉ [b.1, b.2]
  lo : ∀ b ∈ bs, lo ≤ b.1 ∧ lo ≤ b.2
theorem NewRs.nil_ (w : World) (lo k : Nat) : NewRs w lo k [] := ⟨by simp, by simp, by simp⟩
theorem NewRs.lt {w : World} {lo k : Nat} {bs : List (Nat × Nat)} (h : NewRs w lo k bs) : ∀ b ∈ bs, b.1 < w.heap.size ∧ b.2 < w.heap.size := fun b hb =>
  ⟨(h.rings b hb).head.lt, (h.rings b hb).rest.elim fun cs hh => hh.1.lt⟩
theorem NewRs.below {w w' : World} {lo k : Nat} {bs : List (Nat × Nat)} (h : NewRs w lo k bs) (hb : Below w.heap.size w w') : NewRs w' lo k bs := ⟨fun b hm => (h.rings b hm).below hb, h.apart, h.lo⟩
theorem NewRs.only {w w' : World} {lo k : Nat} {bs : List (Nat × Nat)} {s : List Nat} (h : NewRs w lo k bs) (hs : Only s w w') (hl : ∀ x ∈ s, x < lo) : NewRs w' lo k bs :=
  ⟨fun b hm => (h.rings b hm).only hs (fun hx => by have := hl _ hx; have := (h.lo b hm).1; omega) (fun hx => by have := hl _ hx; have := (h.lo b hm).2; omega), h.apart, h.lo⟩
theorem NewRs.add {w w' : World} {lo k : Nat} {bs : List (Nat × Nat)} (h : NewRs w lo k bs) (hb : Below w.heap.size w w') (b : Nat × Nat) (hr : RingP w' b.1 b.2 0 k (List.replicate k ((0, 0), false))) (h1 : w.heap.size ≤ b.1) (h2 : w.heap.size ≤ b.2) (hlo : lo ≤ w.heap.size) : NewRs w' lo k (bs ++ [b]) := by
  refine ⟨fun c hc => ?_, fun i j c d hc hd hij => ?_, fun c hc => ?_⟩
  · rcases List.mem_append.1 hc with hc | hc
    · exact (h.rings c hc).below hb
    · simp at hc; subst hc; exact hr
  · have hlt := h.lt
    rcases Nat.lt_or_ge i bs.length with hi | hi <;> rcases Nat.lt_or_ge j bs.length with hj | hj
    · rw [List.getElem?_append_left hi] at hc
      rw [List.getElem?_append_left hj] at hd
      exact h.apart i j c d hc hd hij
    · rw [List.getElem?_append_left hi] at hc
      rw [List.getElem?_append_right hj] at hd
      have hd2 : d = b := by have := List.mem_of_getElem? hd; simpa using this
      subst hd2
      have := hlt c (List.mem_of_getElem? hc)
      simp only [List.mem_cons, List.not_mem_nil, or_false]
      omega
    · rw [List.getElem?_append_right hi] at hc
      rw [List.getElem?_append_left hj] at hd
      have hc2 : c = b := by have := List.mem_of_getElem? hc; simpa using this
      subst hc2
      have := hlt d (List.mem_of_getElem? hd)
      simp only [List.mem_cons, List.not_mem_nil, or_false]
      omega
    · have e1 := (List.getElem?_eq_some_iff.1 hc).1
      have e2 := (List.getElem?_eq_some_iff.1 hd).1
      simp at e1 e2
      omega
  · rcases List.mem_append.1 hc with hc | hc
    · exact h.lo c hc
    · simp at hc; subst hc; omega
def ptrs (bs : List (Nat × Nat)) (n : Nat) : List Value := (bs.map fun b => Value.pointer (some ⟨b.1, 0, none⟩)) ++ List.replicate (n - bs.length) (.pointer none)
theorem ptrs_set (bs : List (Nat × Nat)) (n : Nat) (b : Nat × Nat) (h : bs.length < n) : (ptrs bs n).set bs.length (.pointer (some ⟨b.1, 0, none⟩)) = ptrs (bs ++ [b]) n := by
  unfold ptrs
  rw [show n - bs.length = (n - (bs ++ [b]).length) + 1 by simp; omega, List.replicate_succ, set_mid _ _ _ _ _ (by simp)]
  simp
theorem ptrs_all (bs : List (Nat × Nat)) : ptrs bs bs.length = bs.map fun b => Value.pointer (some ⟨b.1, 0, none⟩) := by simp [ptrs]
theorem ptrs_at (bs : List (Nat × Nat)) (n : Nat) (h : bs.length < n) : (ptrs bs n)[bs.length]? = some (.pointer none) := by
  unfold ptrs
  rw [List.getElem?_append_right (by simp), List.length_map, Nat.sub_self, show n - bs.length = (n - bs.length - 1) + 1 by omega, List.replicate_succ]
  rfl
theorem infoPtr : (Try.prog.info? 59).map (fun i => (i.zero, i.size, i.bytes)) = some (some (.pointer none), 1, 8) := by kernel_rfl
theorem mkPtr (n : Nat) : madeCells (Value.pointer none).cells (n * 1) = (ptrs [] n).toArray := by
  rw [madeCells_rep _ (.pointer none) _ (fun i hi => by simp [Value.cells] at hi; subst hi; rfl) (by decide)]
  simp [ptrs]

theorem newP_c (c : Int) (k : Nat) (w : World) (hc : c = (k : Int)) (hk : 1 ≤ k ∧ k ≤ 1000) :
    Calls Try.prog 25 #[.int .i64 c, .int .i64 0] w fun e w' => ∃ rb gb, e = .returned (.pointer (some ⟨rb, 0, none⟩)) ∧ RingP w' rb gb 0 k (List.replicate k ((0, 0), false)) ∧ Below w.heap.size w w' ∧ w.heap.size ≤ rb ∧ w.heap.size ≤ gb := by
  subst hc
  exact newP_any k 0 w hk (by omega)

set_option maxRecDepth 100000 in
set_option maxHeartbeats 4000000 in
theorem gnew_any (v : Value) (c : Cf) (w : World) (h : IsConf w v c) (k : Nat) (hC : c.C = (k : Int)) (hk : 1 ≤ k ∧ k ≤ 1000) (hN : (chansOf c.rows).length ≤ 2500) :
    Calls Try.prog 11 #[v] w fun e w' => ∃ g ab bs, e = .returned (.pointer (some ⟨g, 0, none⟩)) ∧ bs.length = (chansOf c.rows).length ∧ GridS w' g ab bs k (List.replicate (chansOf c.rows).length (0, List.replicate k ((0, 0), false))) ∧ Below w.heap.size w w' ∧ ∀ x ∈ gblocks g ab bs, w.heap.size ≤ x := by
  have hmk : ∀ w : World, (Instr.makeSlice 58 (.int .i64 ((chansOf c.rows).length : Int)) (.int .i64 ((chansOf c.rows).length : Int))).run Try.prog w = .ok (.slice (some ⟨w.heap.size, 0, none⟩) (chansOf c.rows).length (chansOf c.rows).length) (w.alloc (.cells (ptrs [] (chansOf c.rows).length).toArray 59)) := by
    intro w
    have hm := run_make_rowN (P := Try.prog) 58 59 (.pointer none) 8 (k := 1) (by kernel_rfl) infoPtr .i64 .i64 (chansOf c.rows).length (by omega) (by omega) w
    rw [mkPtr] at hm
    exact hm
  obtain ⟨s, rr, rfl, hs⟩ := h
  obtain ⟨A, cp, rfl, _, _, q⟩ := hs.src
  have HC := Lib.hid hC
  have HS := Lib.hid (hs.below (show Below w.heap.size w (w.alloc (.cells #[.int .i64 c.P, .int .i64 c.H, .int .i64 c.C, .int .i64 c.Mn, .int .i64 c.Mx, .int .i64 c.Rho, .int .i64 c.Bd, .int .i64 c.Win, .int .i64 c.St, .slice A c.rows.length cp, rr] 25)) from (Below.refl _ _).alloc (Nat.le_refl _) _))
  clear hs q hC
  obtain ⟨n, hn⟩ : ∃ n, n = (chansOf c.rows).length := ⟨_, rfl⟩
  rw [← hn] at hN hmk ⊢
  have HNN := Lib.hid hn
  clear hn
  go_enter Try.func11, Try.ntmps11
  go_wp2_with fail
  refine (many_any _ c _ ⟨_, _, rfl, HS.out⟩ (by rw [← HNN.out]; omega)).mono ?_
  rintro e w1 ⟨rfl, hk1⟩
  rw [← HNN.out]
  have hb1 : Below w.heap.size w w1 := (show Below w.heap.size w _ by go_grown).trans (hk1.mono (by simp))
  have HC1 := Lib.hid ((Blk.new w 25 #[.int .i64 c.P, .int .i64 c.H, .int .i64 c.C, .int .i64 c.Mn, .int .i64 c.Mx, .int .i64 c.Rho, .int .i64 c.Bd, .int .i64 c.Win, .int .i64 c.St, .slice A c.rows.length cp, rr] _ rfl).below hk1)
  have hsz := hk1.size
  rw [World.size_alloc] at hsz
  clear hk1 HS
  go_wp2_with fail
  go_loopw [10] (fun i wr => ∃ bs : List (Nat × Nat), bs.length ≤ n ∧ i = .int .i64 bs.length ∧ Below w.heap.size w wr ∧ Blk wr w.heap.size 25 #[.int .i64 c.P, .int .i64 c.H, .int .i64 c.C, .int .i64 c.Mn, .int .i64 c.Mx, .int .i64 c.Rho, .int .i64 c.Bd, .int .i64 c.Win, .int .i64 c.St, .slice A c.rows.length cp, rr] ∧ Blk wr w1.heap.size 59 (ptrs bs n).toArray ∧ NewRs wr (w1.heap.size + 1) k bs) (fun i _ => n - (intOf i).toNat)
  case atStart =>
    exact ⟨[], Nat.zero_le _, rfl, hb1.alloc hb1.size _, HC1.out.al _, Blk.new _ _ _ _ rfl, NewRs.nil_ _ _ _⟩
  case round =>
    obtain ⟨bs, hj, rfl, hbr, hcf, hpt, hnr⟩ := hrel
    by_cases hlt : bs.length < n
    · have HBR := Lib.hid hbr
      have HCF := Lib.hid hcf
      have HPT := Lib.hid hpt
      have HNR := Lib.hid hnr
      have hx := hcf.cells
      have hpl := hpt.lt
      clear hbr hcf hpt hnr hmk
      go_wp2_with fail
      refine (newP_c c.C k _ HC.out hk).mono ?_
      rintro e w5 ⟨rb, gb, rfl, hr5, hb5, hl1, hl2⟩
      have HB5 := Lib.hid hb5
      have HN5 := Lib.hid (HNR.out.add hb5 (rb, gb) hr5 hl1 hl2 (by omega))
      have hp5 := HPT.out.below hb5
      have q1 : w5.cell? ⟨w1.heap.size, bs.length, none⟩ = some (.pointer none) := by rw [hp5.cells]; simpa using ptrs_at bs n hlt
      have qf := hp5.froz
      have HP5 := Lib.hid hp5
      have HC5 := Lib.hid (HCF.out.below hb5)
      clear hr5 hb5 hp5 hx
      go_wp2
      go_roundw
      case rel =>
        have hset := HP5.out.set bs.length (.pointer (some ⟨rb, 0, none⟩))
        rw [setArr, ptrs_set bs n (rb, gb) hlt] at hset
        refine ⟨bs ++ [(rb, gb)], by simp; omega, by simp, ?_, HC5.out.setO (by omega) _ _, hset, ?_⟩
        · exact Below.setCell (p := ⟨w1.heap.size, bs.length, none⟩) (Btrans HBR.out HB5.out) (by simp; omega) _
        · exact HN5.out.only ((Only.refl [w1.heap.size] w5).setCell (p := ⟨w1.heap.size, bs.length, none⟩) (by simp) _) (by simp)
      case measure => simp [intOf]; omega
    · have he : n = bs.length := by omega
      subst he
      have hsr := hbr.size
      have hpl := hpt.lt
      go_wp2
      go_ret
      have hal := (Below.refl wr.heap.size wr).alloc (Nat.le_refl _) (.cells #[.slice (some ⟨w1.heap.size, 0, none⟩) bs.length bs.length] 62)
      have hnl := hnr.lt
      refine ⟨wr.heap.size, w1.heap.size, bs, rfl, rfl, ⟨Blk.new _ _ _ _ rfl, ?_, ?_, by simp, hN, hnr.apart, ?_, by omega⟩, hbr.alloc hbr.size _, ?_⟩
      · rw [← ptrs_all]; exact hpt.al _
      · intro i b r hb hr
        have hr2 := List.mem_of_getElem? hr
        rw [List.mem_replicate] at hr2
        obtain ⟨_, rfl⟩ := hr2
        exact (hnr.rings b (List.mem_of_getElem? hb)).below hal
      · intro b hb
        have h1 := hnl b hb
        have h2 := hnr.lo b hb
        simp only [List.mem_cons, List.not_mem_nil, or_false]
        omega
      · intro x hx
        rcases gb_cases hx with rfl | rfl | ⟨b, hb, hx⟩
        · exact hsr
        · omega
        · have h2 := hnr.lo b hb
          rcases hx with rfl | rfl <;> omega
end Go.Proofs.Ytoiaagdpckgpoaa
