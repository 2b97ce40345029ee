/- Layer 4: the text's own answers. -/
import Derived.Test.YtgklbmhihfmagaaPackH
import Derived.Test.YtgklbmhihfmagaaBitsR
import Derived.BigQuiet
namespace Go.Proofs.Ytgklbmhihfmagaa
open Go.ChangeShapes Go.WideShapes Go.ChangeAt Go.RowKit Go.Deep
set_option linter.unusedVariables false
set_option linter.unusedSimpArgs false

def okI (n a b : Int) : Bool := decide (a ≤ n) && decide (n ≤ b)
theorem okI_iff {n a b : Int} : okI n a b = true ↔ a ≤ n ∧ n ≤ b := by simp [okI]
theorem rin_any (n a b : Int) (w : World) :
    Calls Try.prog 31 #[.int .i64 n, .int .i64 a, .int .i64 b] w fun e w' => e = .returned (.bool (okI n a b)) ∧ w = w' := by
  have hiff := Lib.hid (@okI_iff n a b)
  rcases hv : okI n a b with _ | _
  · have hn : ¬ (a ≤ n ∧ n ≤ b) := fun h => by have := hiff.out.2 h; rw [hv] at this; cases this
    clear hv
    by_cases h1 : a ≤ n
    · have e1 : decide (n ≥ a) = true := decide_eq_true h1
      have e2 : decide (n ≤ b) = false := decide_eq_false fun h => hn ⟨h1, h⟩
      clear hn
      go_enter Try.func31, Try.ntmps31
      go_wp2
      go_ret
      exact ⟨by first | rfl | simp, rfl⟩
    · have e1 : decide (n ≥ a) = false := decide_eq_false h1
      clear hn
      go_enter Try.func31, Try.ntmps31
      go_wp2
      go_ret
      exact ⟨by first | rfl | simp, rfl⟩
  · have h := hiff.out.1 hv
    clear hv
    have e1 : decide (n ≥ a) = true := decide_eq_true h.1
    have e2 : decide (n ≤ b) = true := decide_eq_true h.2
    go_enter Try.func31, Try.ntmps31
    go_wp2
    go_ret
    exact ⟨by first | rfl | simp [e1, e2], rfl⟩

theorem right_and (p : Pk) : decide p.right = (decide (valsOk p.vals) && (okI p.dev 0 255 && (okI p.chan 0 255 && (okI p.boot 0 255 && (okI p.seq 0 65535 && (okI p.stamp 0 1099511627775 && okI p.vals.length 1 8)))))) := by
  rw [Bool.eq_iff_iff]
  simp only [decide_eq_true_eq, Bool.and_eq_true, okI_iff]
  constructor
  · intro h
    have h1 := h.1
    have h2 := h.2.1
    exact ⟨h.2.2, h1.1, h1.2.1, h1.2.2.1, h1.2.2.2.1, h1.2.2.2.2, by omega, by omega⟩
  · intro h
    have h6 := h.2.2.2.2.2.2
    exact ⟨⟨h.2.1, h.2.2.1, h.2.2.2.1, h.2.2.2.2.1, h.2.2.2.2.2.1⟩, ⟨by omega, by omega⟩, h.1⟩

set_option maxRecDepth 100000 in
set_option maxHeartbeats 1000000 in
theorem rright_any (v : Value) (p : Pk) (w : World) (h : PkV w v p) :
    Calls Try.prog 20 #[v] w fun e w' => e = .returned (.bool (decide p.right)) ∧ Below w.heap.size w w' := by
  obtain ⟨vs, rfl, hI⟩ := h
  obtain ⟨A, c, hs, hc, hcm, hA⟩ := hI.shape
  subst hs
  have hlz : ((p.vals.length : Nat) : Int) ≤ 9223372036854775807 := by unfold maxLen at hcm; omega
  have HC := Lib.hid hA
  clear hI hA hcm
  have HR := Lib.hid (right_and p)
  go_enter Try.func20, Try.ntmps20
  go_wp2_with fail
  have HS := Lib.hid (Blk.new w 31 #[.int .i64 p.dev, .int .i64 p.chan, .int .i64 p.boot, .int .i64 p.seq, .int .i64 p.stamp, .slice A p.vals.length c] _ rfl)
  go_loopw [3] (fun i wr => ∃ k : Nat, k ≤ p.vals.length ∧ i = .int .i64 k ∧ valsOk (p.vals.take k) ∧ Below w.heap.size w wr ∧ Blk wr w.heap.size 31 #[.int .i64 p.dev, .int .i64 p.chan, .int .i64 p.boot, .int .i64 p.seq, .int .i64 p.stamp, .slice A p.vals.length c]) (fun i _ => p.vals.length - (intOf i).toNat)
  case atStart => exact ⟨0, by omega, rfl, by simp [valsOk], by go_grown, HS.out⟩
  case round =>
    obtain ⟨k, hk, rfl, hv, hb, hS⟩ := hrel
    have HV := Lib.hid hv
    have HSr := Lib.hid hS
    have hxS := hS.cells
    have lS := hS.lt
    clear hv hS HS
    by_cases hlt : k < p.vals.length
    · obtain ⟨x, hx⟩ : ∃ x, p.vals[k]? = some x := ⟨_, List.getElem?_eq_getElem hlt⟩
      obtain ⟨ad, rfl, had, hcx⟩ := HC.out k x hx
      have hcx' : wr.cell? (ad.add k) = some (.int .i64 x) := by rw [hb.cell (by rw [block_add]; exact had)]; exact hcx
      have HX := Lib.hid hx
      clear hx hcx
      go_wp2_with fail
      refine (rin_any _ _ _ _).mono ?_
      rintro e w3 ⟨rfl, rfl⟩
      by_cases hr : -32768 ≤ x ∧ x ≤ 32767
      · rw [show okI x (-32768) 32767 = true from okI_iff.2 hr]
        go_wp2
        go_roundw
        case rel => exact ⟨k + 1, by omega, by go_num, by
          intro z hz
          rw [List.take_add_one, HX.out] at hz
          rcases List.mem_append.1 hz with hz | hz
          · exact HV.out z hz
          · simp at hz; omega, hb, HSr.out⟩
        case measure => simp [intOf]; omega
      · have hno : decide p.right = false := decide_eq_false fun hr' => hr (hr'.2.2 x (List.mem_of_getElem? HX.out))
        rw [show okI x (-32768) 32767 = false from Bool.eq_false_iff.2 fun h => hr (okI_iff.1 h)]
        go_wp2
        go_ret
        exact ⟨by first | rfl | (rw [hno]; rfl), hb⟩
    · have he : k = p.vals.length := by omega
      subst he
      have hvo := HV.out
      rw [List.take_length] at hvo
      have hR := HR.out
      rw [show decide (valsOk p.vals) = true from decide_eq_true hvo, Bool.true_and] at hR
      have HR2 := Lib.hid hR
      clear hR hvo HC
      go_wp2_with fail
      refine (rin_any _ _ _ _).mono ?_
      rintro e w3 ⟨rfl, rfl⟩
      rcases o0 : okI p.dev 0 255 with _ | _
      · have hno : decide p.right = false := by rw [HR2.out]; simp [o0]
        clear o0
        go_wp2
        go_ret
        exact ⟨by first | rfl | (rw [hno]; rfl), hb⟩
      have O0 := Lib.hid o0
      clear o0
      go_wp2_with fail
      refine (rin_any _ _ _ _).mono ?_
      rintro e w3 ⟨rfl, rfl⟩
      rcases o1 : okI p.chan 0 255 with _ | _
      · have hno : decide p.right = false := by rw [HR2.out]; simp [O0.out, o1]
        clear o1
        go_wp2
        go_ret
        exact ⟨by first | rfl | (rw [hno]; rfl), hb⟩
      have O1 := Lib.hid o1
      clear o1
      go_wp2_with fail
      refine (rin_any _ _ _ _).mono ?_
      rintro e w3 ⟨rfl, rfl⟩
      rcases o2 : okI p.boot 0 255 with _ | _
      · have hno : decide p.right = false := by rw [HR2.out]; simp [O0.out, O1.out, o2]
        clear o2
        go_wp2
        go_ret
        exact ⟨by first | rfl | (rw [hno]; rfl), hb⟩
      have O2 := Lib.hid o2
      clear o2
      go_wp2_with fail
      refine (rin_any _ _ _ _).mono ?_
      rintro e w3 ⟨rfl, rfl⟩
      rcases o3 : okI p.seq 0 65535 with _ | _
      · have hno : decide p.right = false := by rw [HR2.out]; simp [O0.out, O1.out, O2.out, o3]
        clear o3
        go_wp2
        go_ret
        exact ⟨by first | rfl | (rw [hno]; rfl), hb⟩
      have O3 := Lib.hid o3
      clear o3
      go_wp2_with fail
      refine (rin_any _ _ _ _).mono ?_
      rintro e w3 ⟨rfl, rfl⟩
      rcases o4 : okI p.stamp 0 1099511627775 with _ | _
      · have hno : decide p.right = false := by rw [HR2.out]; simp [O0.out, O1.out, O2.out, O3.out, o4]
        clear o4
        go_wp2
        go_ret
        exact ⟨by first | rfl | (rw [hno]; rfl), hb⟩
      have O4 := Lib.hid o4
      clear o4
      go_wp2_with fail
      refine (rin_any _ _ _ _).mono ?_
      rintro e w3 ⟨rfl, rfl⟩
      have hyes : okI (p.vals.length : Int) 1 8 = decide p.right := by rw [HR2.out]; simp [O0.out, O1.out, O2.out, O3.out, O4.out]
      rw [hyes]
      go_wp2
      go_ret
      exact ⟨by first | rfl | simp, hb⟩
end Go.Proofs.Ytgklbmhihfmagaa
