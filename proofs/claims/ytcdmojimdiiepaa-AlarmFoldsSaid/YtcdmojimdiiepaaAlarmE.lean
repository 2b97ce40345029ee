/- Layer 21: acks. -/
import Derived.Test.YtcdmojimdiiepaaAlarmD
import Derived.StillTailTactics
import Derived.Handy
namespace Go.Proofs.Ytcdmojimdiiepaa
open Go.ChangeShapes Go.WideShapes Go.ChangeAt Go.RowKit
set_option linter.unusedVariables false
set_option linter.unusedSimpArgs false

set_option maxRecDepth 100000 in
theorem rack_any (W0 : World) (b : Nat) (A : Option Addr) (rc : Nat) (h : Int) (la : Bool) (l : List T) (s : Ph) (a : Bool) (w : World) (hW : IsW W0 w b (.rule A rc h la l s a)) :
    Calls Try.prog 129 #[.pointer (some ⟨b, 0, none⟩)] w fun e w' => e = .returned (.tuple #[]) ∧ IsW W0 w' b (.rule A rc h la l s true) ∧ Only [b] w w' := by
  have HB := Lib.hid hW.1
  have HT := Lib.hid hW.2
  have cB := HB.out.cells
  have fB := HB.out.froz
  clear hW
  go_enter Try.func129, Try.ntmps129
  go_wp2
  go_end0
  exact ⟨rfl, ⟨HB.out.set 6 (.bool true), HT.out⟩, (Only.refl _ _).setCell (p := ⟨b, 6, none⟩) (by simp) _⟩
set_option maxRecDepth 100000 in
theorem cack_any (W0 : World) (b : Nat) (k : Int) (ch : Nat) (s : Te) (a : Bool) (w : World) (hW : IsW W0 w b (.chan k ch s a)) :
    Calls Try.prog 132 #[.pointer (some ⟨b, 0, none⟩)] w fun e w' => e = .returned (.tuple #[]) ∧ IsW W0 w' b (.chan k ch s true) ∧ Only [b] w w' := by
  have HB := Lib.hid (show Blk w b _ _ from hW)
  have cB := HB.out.cells
  have fB := HB.out.froz
  clear hW
  go_enter Try.func132, Try.ntmps132
  go_wp2
  go_end0
  exact ⟨rfl, HB.out.set 6 (.bool true), (Only.refl _ _).setCell (p := ⟨b, 6, none⟩) (by simp) _⟩
def ack1 (x : Nat × Wt) : Nat × Wt := (x.1, x.2.ack)
def ackq (n : Int) (q : List (Nat × Wt)) : List (Nat × Wt) := if 0 ≤ n ∧ n < (q.length : Int) then q.modify n.toNat ack1 else q
theorem map_modify_id {α β : Type} (g : α → β) (f : α → α) (h : ∀ x, g (f x) = g x) : ∀ (l : List α) (n : Nat), (l.modify n f).map g = l.map g := by
  intro l n
  apply List.ext_getElem?
  intro i
  rw [List.getElem?_map, List.getElem?_map, List.getElem?_modify]
  cases l[i]? with
  | none => rfl
  | some x =>
    simp only [Option.map_some]
    split
    · exact congrArg some (h x)
    · rfl
theorem bl_ackq (n : Int) (q : List (Nat × Wt)) : bl (ackq n q) = bl q := by
  unfold ackq bl
  split
  · exact map_modify_id Prod.fst ack1 (fun x => rfl) _ _
  · rfl
theorem wvals_ackq (n : Int) (q : List (Nat × Wt)) : (ackq n q).map wval = q.map wval := by
  unfold ackq
  split
  · exact map_modify_id wval ack1 (fun x => wval_ack x) _ _
  · rfl
theorem AllW.ackq {W0 w w' : World} {q : List (Nat × Wt)} {k : Nat} {x : Nat × Wt} (h : AllW W0 w q) (hi : Inj q) (hx : q[k]? = some x) (ho : Only [x.1] w w') (hw : IsW W0 w' x.1 x.2.ack) : AllW W0 w' (ackq (k : Int) q) := by
  have hk := (List.getElem?_eq_some_iff.1 hx).1
  unfold Go.Proofs.Ytcdmojimdiiepaa.ackq
  rw [if_pos (by omega), Int.toNat_natCast]
  intro j y hy
  rw [List.getElem?_modify] at hy
  obtain ⟨z, hz, rfl⟩ := Option.map_eq_some_iff.1 hy
  by_cases hj : k = j
  · subst hj
    rw [hx] at hz
    injection hz with hz
    subst hz
    rw [if_pos rfl]
    exact hw
  · rw [if_neg hj]
    refine (h j z hz).only ho ?_
    simp only [List.mem_singleton]
    intro he
    exact hj (hi j k z x hz hx he).symm
set_option maxRecDepth 100000 in
set_option maxHeartbeats 4000000 in
theorem ackq_any (W0 w : World) (q : List (Nat × Wt)) (A : Option Addr) (c : Nat) (n : Int) (hq : AllW W0 w q) (hi : Inj q) (hrow : Row w (.slice A q.length c) (q.map wval)) (hlen : q.length ≤ 100000) :
    Calls Try.prog 37 #[.slice A q.length c, .int .i64 n] w fun e w' => e = .returned (.bool (decide (0 ≤ n ∧ n < (q.length : Int)))) ∧ AllW W0 w' (ackq n q) ∧ Only (bl q) w w' := by
  have HQ := Lib.hid hq
  have HI := Lib.hid hi
  have HROW := Lib.hid hrow
  clear hq hi hrow
  by_cases h1 : n < 0
  · have g1 : decide (n < 0) = true := decide_eq_true h1
    have HE := Lib.hid (show ackq n q = q by unfold ackq; rw [if_neg (by omega)])
    have HD := Lib.hid (show decide (0 ≤ n ∧ n < (q.length : Int)) = false from decide_eq_false (by omega))
    rw [HD.out, HE.out]
    clear h1
    go_enter Try.func37, Try.ntmps37
    go_wp2
    go_ret
    exact ⟨by first | rfl | simp, HQ.out, Only.refl _ _⟩
  by_cases h2 : n ≥ (q.length : Int)
  · have g1 : decide (n < 0) = false := decide_eq_false h1
    have g2 : decide (n ≥ (q.length : Int)) = true := decide_eq_true h2
    have g3 : decide ((q.length : Int) ≤ n) = true := decide_eq_true h2
    have HE := Lib.hid (show ackq n q = q by unfold ackq; rw [if_neg (by omega)])
    have HD := Lib.hid (show decide (0 ≤ n ∧ n < (q.length : Int)) = false from decide_eq_false (by omega))
    rw [HD.out, HE.out]
    clear h1 h2
    go_enter Try.func37, Try.ntmps37
    go_wp2
    go_ret
    exact ⟨by first | rfl | simp, HQ.out, Only.refl _ _⟩
  obtain ⟨k, rfl⟩ : ∃ k : Nat, n = (k : Int) := ⟨n.toNat, by omega⟩
  have hk : k < q.length := by omega
  obtain ⟨x, hx⟩ : ∃ x, q[k]? = some x := ⟨_, List.getElem?_eq_getElem hk⟩
  obtain ⟨ad, rfl, hcx⟩ := HROW.out.at1 k (wval x) (by rw [List.getElem?_map, hx]; rfl)
  have HX := Lib.hid hx
  have g1 : decide ((k : Int) < 0) = false := decide_eq_false (by omega)
  have g2 : decide ((k : Int) ≥ (q.length : Int)) = false := decide_eq_false (by omega)
  have g3 : decide (q.length ≤ k) = false := decide_eq_false (by omega)
  have gk : (k : Int) < (q.length : Int) := by omega
  have HD := Lib.hid (show decide (0 ≤ (k : Int) ∧ (k : Int) < (q.length : Int)) = true from decide_eq_true (by omega))
  rw [HD.out]
  clear h1 h2 hx
  obtain ⟨b, y⟩ := x
  cases y with
  | rule A rc h la l s a =>
    have hcx' : w.cell? (ad.add k) = some (.iface 69 (.pointer (some ⟨b, 0, none⟩))) := hcx
    clear hcx
    go_enter Try.func37, Try.ntmps37
    go_wp2_with fail
    refine (rack_any W0 b A rc h la l s a _ (HQ.out k _ HX.out)).mono ?_
    rintro e w1 ⟨rfl, hw1, ho1⟩
    have HA := Lib.hid (HQ.out.ackq HI.out HX.out ho1 hw1)
    have HO := Lib.hid (ho1.mono (t := bl q) (by simpa using mem_bl HX.out))
    clear hw1 ho1
    go_wp2
    go_ret
    exact ⟨by first | rfl | simp, HA.out, HO.out⟩
  | chan kk ch s a =>
    have hcx' : w.cell? (ad.add k) = some (.iface 78 (.pointer (some ⟨b, 0, none⟩))) := hcx
    clear hcx
    go_enter Try.func37, Try.ntmps37
    go_wp2_with fail
    refine (cack_any W0 b kk ch s a _ (HQ.out k _ HX.out)).mono ?_
    rintro e w1 ⟨rfl, hw1, ho1⟩
    have HA := Lib.hid (HQ.out.ackq HI.out HX.out ho1 hw1)
    have HO := Lib.hid (ho1.mono (t := bl q) (by simpa using mem_bl HX.out))
    clear hw1 ho1
    go_wp2
    go_ret
    exact ⟨by first | rfl | simp, HA.out, HO.out⟩
set_option maxRecDepth 100000 in
set_option maxHeartbeats 4000000 in
theorem ackR_any (W0 w : World) (lo hi pb : Nat) (qr qc : List (Nat × Wt)) (n : Int) (h : St W0 w lo hi pb qr qc) (hlen : qr.length ≤ 100000) :
    Calls Try.prog 16 #[.pointer (some ⟨pb, 0, none⟩), .int .i64 n] w fun e w' => e = .returned (.bool (decide (0 ≤ n ∧ n < (qr.length : Int)))) ∧ St W0 w' lo hi pb (ackq n qr) qc ∧ Only (bl (qr ++ qc)) w w' := by
  obtain ⟨RA, rc, SA, sc, hblk, hrr, hrc, hRA, hSA⟩ := h.blk
  have HST := Lib.hid h
  have HB := Lib.hid hblk
  have HRR := Lib.hid hrr
  have HRC := Lib.hid hrc
  have cB := hblk.cells
  clear h hblk hrr hrc hRA hSA
  go_enter Try.func16, Try.ntmps16
  go_wp2_with fail
  refine (ackq_any W0 _ qr RA rc n HST.out.rules HST.out.inj.left HRR.out hlen).mono ?_
  rintro e w1 ⟨rfl, hq1, ho1⟩
  have HO := Lib.hid (ho1.mono (t := bl (qr ++ qc)) (fun x hx => by rw [bl_app]; exact List.mem_append.2 (.inl hx)))
  have HS := Lib.hid (HST.out.back HO.out (bl_ackq n qr) rfl (wvals_ackq n qr) rfl hq1 (HST.out.chans.only ho1 (fun b hb hm => HST.out.inj.cross b hm hb)))
  clear hq1 ho1
  go_wp2
  go_ret
  exact ⟨by first | rfl | simp, HS.out, HO.out⟩
set_option maxRecDepth 100000 in
set_option maxHeartbeats 4000000 in
theorem ackC_any (W0 w : World) (lo hi pb : Nat) (qr qc : List (Nat × Wt)) (n : Int) (h : St W0 w lo hi pb qr qc) (hlen : qc.length ≤ 100000) :
    Calls Try.prog 18 #[.pointer (some ⟨pb, 0, none⟩), .int .i64 n] w fun e w' => e = .returned (.bool (decide (0 ≤ n ∧ n < (qc.length : Int)))) ∧ St W0 w' lo hi pb qr (ackq n qc) ∧ Only (bl (qr ++ qc)) w w' := by
  obtain ⟨RA, rc, SA, sc, hblk, hrr, hrc, hRA, hSA⟩ := h.blk
  have HST := Lib.hid h
  have HB := Lib.hid hblk
  have HRR := Lib.hid hrr
  have HRC := Lib.hid hrc
  have cB := hblk.cells
  clear h hblk hrr hrc hRA hSA
  go_enter Try.func18, Try.ntmps18
  go_wp2_with fail
  refine (ackq_any W0 _ qc SA sc n HST.out.chans HST.out.inj.right HRC.out hlen).mono ?_
  rintro e w1 ⟨rfl, hq1, ho1⟩
  have HO := Lib.hid (ho1.mono (t := bl (qr ++ qc)) (fun x hx => by rw [bl_app]; exact List.mem_append.2 (.inr hx)))
  have HS := Lib.hid (HST.out.back HO.out rfl (bl_ackq n qc) rfl (wvals_ackq n qc) (HST.out.rules.only ho1 (fun b hb hm => HST.out.inj.cross b hb hm)) hq1)
  clear hq1 ho1
  go_wp2
  go_ret
  exact ⟨by first | rfl | simp, HS.out, HO.out⟩
end Go.Proofs.Ytcdmojimdiiepaa
