/- Layer 13: a grid in memory. -/
import Derived.Test.YtoiaagdpckgpoaaGridD
namespace Go.Proofs.Ytoiaagdpckgpoaa
open Go.ChangeShapes Go.WideShapes Go.ChangeAt Go.RowKit
set_option linter.unusedVariables false
set_option linter.unusedSimpArgs false

/-- all blocks of a grid -/
def gblocks (g ab : Nat) (bs : List (Nat × Nat)) : List Nat := g :: ab :: bs.flatMap fun b => [b.1, b.2]
structure GridS (w : World) (g ab : Nat) (bs : List (Nat × Nat)) (k : Nat) (rs : List (Nat × List SB)) : Prop where
  head : Blk w g 62 #[.slice (some ⟨ab, 0, none⟩) bs.length bs.length]
  row : Blk w ab 59 (bs.map fun b => Value.pointer (some ⟨b.1, 0, none⟩)).toArray
  rings : ∀ (i : Nat) b r, bs[i]? = some b → rs[i]? = some r → RingP w b.1 b.2 r.1 k r.2
  len : rs.length = bs.length
  small : bs.length ≤ 2500
  apart : ∀ (i j : Nat) b c, bs[i]? = some b → bs[j]? = some c → i ≠ j → c.1 ∉ [b.1, b.2] ∧ c.2 ∉ [b.1, b.2]
  off : ∀ b ∈ bs, g ∉ [b.1, b.2] ∧ ab ∉ [b.1, b.2]
  ne : g ≠ ab
theorem gb_g (g ab : Nat) (bs : List (Nat × Nat)) : g ∈ gblocks g ab bs := by simp [gblocks]
theorem gb_ab (g ab : Nat) (bs : List (Nat × Nat)) : ab ∈ gblocks g ab bs := by simp [gblocks]
theorem gb_ring (g ab : Nat) {bs : List (Nat × Nat)} {b : Nat × Nat} (h : b ∈ bs) : b.1 ∈ gblocks g ab bs ∧ b.2 ∈ gblocks g ab bs := by
  refine ⟨?_, ?_⟩
  all_goals
    refine List.mem_cons_of_mem _ (List.mem_cons_of_mem _ (List.mem_flatMap.2 ⟨b, h, ?_⟩))
    simp
theorem gb_cases {g ab x : Nat} {bs : List (Nat × Nat)} (h : x ∈ gblocks g ab bs) : x = g ∨ x = ab ∨ ∃ b ∈ bs, x = b.1 ∨ x = b.2 := by
  rcases List.mem_cons.1 h with h | h
  · exact .inl h
  rcases List.mem_cons.1 h with h | h
  · exact .inr (.inl h)
  obtain ⟨b, hb, h⟩ := List.mem_flatMap.1 h
  exact .inr (.inr ⟨b, hb, by simpa using h⟩)
section
variable {w w' : World} {g ab k : Nat} {bs : List (Nat × Nat)} {rs : List (Nat × List SB)} {s : List Nat}
theorem GridS.only (h : GridS w g ab bs k rs) (hs : Only s w w') (hd : ∀ x ∈ gblocks g ab bs, x ∉ s) : GridS w' g ab bs k rs :=
  ⟨h.head.only hs (hd _ (gb_g _ _ _)), h.row.only hs (hd _ (gb_ab _ _ _)), fun i b r hb hr => (h.rings i b r hb hr).only hs (hd _ (gb_ring _ _ (List.mem_of_getElem? hb)).1) (hd _ (gb_ring _ _ (List.mem_of_getElem? hb)).2), h.len, h.small, h.apart, h.off, h.ne⟩
theorem GridS.below (h : GridS w g ab bs k rs) (hs : Below w.heap.size w w') : GridS w' g ab bs k rs := h.only (Only.of_below [] hs) (fun _ _ => by simp)
theorem GridS.lt (h : GridS w g ab bs k rs) : ∀ x ∈ gblocks g ab bs, x < w.heap.size := by
  intro x hx
  rcases gb_cases hx with rfl | rfl | ⟨b, hb, hx⟩
  · exact h.head.lt
  · exact h.row.lt
  · obtain ⟨i, hi, rfl⟩ := List.getElem_of_mem hb
    have hr := h.rings i _ (rs[i]'(by rw [h.len]; exact hi)) (List.getElem?_eq_getElem hi) (List.getElem?_eq_getElem _)
    rcases hx with rfl | rfl
    · exact hr.head.lt
    · exact hr.rest.elim fun cs hh => hh.1.lt
/-- one ring's turn -/
theorem GridS.set (h : GridS w g ab bs k rs) {i : Nat} {b : Nat × Nat} {r : Nat × List SB} (hb : bs[i]? = some b) (hs : Only [b.1, b.2] w w') (hr : RingP w' b.1 b.2 r.1 k r.2) : GridS w' g ab bs k (rs.set i r) := by
  have hm := List.mem_of_getElem? hb
  have ho := h.off b hm
  refine ⟨h.head.only hs ho.1, h.row.only hs ho.2, fun j c q hc hq => ?_, by rw [List.length_set]; exact h.len, h.small, h.apart, h.off, h.ne⟩
  by_cases hij : i = j
  · subst hij
    rw [hb] at hc
    injection hc with hc
    subst hc
    have hl : i < rs.length := by rw [h.len]; exact (List.getElem?_eq_some_iff.1 hb).1
    rw [List.getElem?_set_self hl] at hq
    injection hq with hq
    subst hq
    exact hr
  · rw [List.getElem?_set_ne hij] at hq
    have := h.apart i j b c hb hc hij
    exact (h.rings j c q hc hq).only hs this.1 this.2
theorem only_ring (h : GridS w g ab bs k rs) {b : Nat × Nat} (hb : b ∈ bs) {a c : World} (hs : Only [b.1, b.2] a c) : Only (gblocks g ab bs) a c :=
  ⟨hs.os, hs.tape, hs.output, hs.size, fun i hi hn => hs.block i hi (fun hm => by
    have hg := gb_ring g ab hb
    simp only [List.mem_cons, List.not_mem_nil, or_false] at hm
    rcases hm with rfl | rfl
    · exact hn hg.1
    · exact hn hg.2)⟩
theorem GridS.rowAt (h : GridS w g ab bs k rs) {i : Nat} {b : Nat × Nat} (hb : bs[i]? = some b) : w.cell? ⟨ab, i, none⟩ = some (.pointer (some ⟨b.1, 0, none⟩)) := by
  rw [h.row.cells]
  simp [hb]
end

def gputC (k : Nat) (rs : List (Nat × List SB)) (ch at_ : Int) : Int := if ch < 0 then 0 else match rs[ch.toNat]? with | some r => putC r.1 k r.2 at_ | none => 0
def gputR (k : Nat) (rs : List (Nat × List SB)) (ch at_ : Int) (x : Int × Int) : List (Nat × List SB) := if ch < 0 then rs else match rs[ch.toNat]? with | some r => rs.set ch.toNat (r.1, putQ r.1 k r.2 at_ x) | none => rs
def gfirst (rs : List (Nat × List SB)) : Nat := match rs with | [] => 0 | r :: _ => r.1

set_option maxHeartbeats 1000000 in
theorem gfirst_any (w : World) (g ab k : Nat) (bs : List (Nat × Nat)) (rs : List (Nat × List SB)) (h : GridS w g ab bs k rs) (h0 : 0 < bs.length) :
    Calls Try.prog 13 #[.pointer (some ⟨g, 0, none⟩)] w fun e w' => e = .returned (.int .i64 (gfirst rs : Int)) ∧ Below w.heap.size w w' := by
  obtain ⟨b, hb⟩ : ∃ b, bs[0]? = some b := ⟨_, List.getElem?_eq_getElem h0⟩
  obtain ⟨r, hr⟩ : ∃ r, rs[0]? = some r := ⟨_, List.getElem?_eq_getElem (by rw [h.len]; exact h0)⟩
  have hx := h.head.cells
  have hc := h.rowAt hb
  have HR := Lib.hid (h.rings 0 b r hb hr)
  have hg : gfirst rs = r.1 := by cases rs with
    | nil => simp at hr
    | cons a l => simp at hr; subst hr; rfl
  have e0 : ((bs.length : Int) == 0) = false := beq_false_of_ne (by omega)
  rw [hg]
  clear h hg hb hr
  go_enter Try.func13, Try.ntmps13
  go_wp2_with fail
  refine (fromP_any b.1 b.2 r.1 k r.2 w HR.out).mono ?_
  rintro e w1 ⟨rfl, rfl⟩
  go_wp2
  go_ret
  exact ⟨rfl, Below.refl _ _⟩

set_option maxHeartbeats 2000000 in
theorem gput_any (w : World) (g ab k : Nat) (bs : List (Nat × Nat)) (rs : List (Nat × List SB)) (ch at_ : Int) (x : Int × Int) (h : GridS w g ab bs k rs) (hb : -4611686018427387904 ≤ at_ ∧ at_ ≤ 4611686018427387904) :
    Calls Try.prog 18 #[.pointer (some ⟨g, 0, none⟩), .int .i64 ch, .int .i64 at_, .agg #[.int .i64 x.1, .int .i64 x.2]] w fun e w' => e = .returned (.int .i64 (gputC k rs ch at_)) ∧ GridS w' g ab bs k (gputR k rs ch at_ x) ∧ Only (gblocks g ab bs) w w' := by
  have hB := (Below.refl w.heap.size w).alloc (Nat.le_refl _) (.cells #[.int .i64 x.1, .int .i64 x.2] 39)
  have H := Lib.hid (h.below hB)
  have OB := Lib.hid (Only.of_below (gblocks g ab bs) hB)
  have hx := H.out.head.cells
  by_cases h1 : ch < 0
  · have e1 : gputC k rs ch at_ = 0 := if_pos h1
    have e2 : gputR k rs ch at_ x = rs := if_pos h1
    have g1 : decide (ch < 0) = true := decide_eq_true h1
    rw [e1, e2]
    clear h hB e1 e2
    go_enter Try.func18, Try.ntmps18
    go_wp2
    go_ret
    exact ⟨rfl, H.out, OB.out⟩
  have g1 : decide (ch < 0) = false := decide_eq_false h1
  obtain ⟨i, rfl⟩ : ∃ i : Nat, ch = (i : Int) := ⟨ch.toNat, by omega⟩
  by_cases h2 : i < bs.length
  · obtain ⟨b, hbi⟩ : ∃ b, bs[i]? = some b := ⟨_, List.getElem?_eq_getElem h2⟩
    obtain ⟨r, hri⟩ : ∃ r, rs[i]? = some r := ⟨_, List.getElem?_eq_getElem (by rw [h.len]; exact h2)⟩
    have e1 : gputC k rs (i : Int) at_ = putC r.1 k r.2 at_ := by rw [gputC, if_neg h1, Int.toNat_natCast, hri]
    have e2 : gputR k rs (i : Int) at_ x = rs.set i (r.1, putQ r.1 k r.2 at_ x) := by rw [gputR, if_neg h1, Int.toNat_natCast, hri]
    have g2 : decide ((i : Int) ≥ (bs.length : Int)) = false := decide_eq_false (by omega)
    have hc := H.out.rowAt hbi
    have HR := Lib.hid (H.out.rings i b r hbi hri)
    have HBI := Lib.hid hbi
    have hxb := (Blk.new w 39 #[.int .i64 x.1, .int .i64 x.2] w.heap.size rfl).cells
    rw [e1, e2]
    clear h hB e1 e2 hbi hri
    go_enter Try.func18, Try.ntmps18
    go_wp2_with fail
    go_region_with (go_at_call 30; refine (putP_any b.1 b.2 r.1 k at_ x r.2 _ (HR.out.drw 1) hb).mono ?_; rintro e w1 ⟨rfl, hr1, ho1⟩; go_simp)
    all_goals
      go_wp2
      go_ret
      have ho := (Only.of_below [b.1, b.2] (Bdrew (Below.refl _ (w.alloc (.cells #[.int .i64 x.1, .int .i64 x.2] 39))) 1)).trans ho1
      exact ⟨rfl, H.out.set HBI.out ho hr1, OB.out.trans (only_ring H.out (List.mem_of_getElem? HBI.out) ho)⟩
  · have hri : rs[i]? = none := List.getElem?_eq_none (by rw [h.len]; omega)
    have e1 : gputC k rs (i : Int) at_ = 0 := by rw [gputC, if_neg h1, Int.toNat_natCast, hri]
    have e2 : gputR k rs (i : Int) at_ x = rs := by rw [gputR, if_neg h1, Int.toNat_natCast, hri]
    have g2 : decide ((i : Int) ≥ (bs.length : Int)) = true := decide_eq_true (by omega)
    rw [e1, e2]
    clear h hB e1 e2 hri
    go_enter Try.func18, Try.ntmps18
    go_wp2
    go_ret
    exact ⟨rfl, H.out, OB.out⟩
end Go.Proofs.Ytoiaagdpckgpoaa
