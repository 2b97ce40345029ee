/- Layer 21: a new state of all alarms. -/
import Derived.Test.YtcdmojimdiiepaaAlarmE
import Derived.Test.YtcdmojimdiiepaaConfM
import Derived.StillTailTactics
import Derived.Handy
namespace Go.Proofs.Ytcdmojimdiiepaa
open Go.ChangeShapes Go.WideShapes Go.ChangeAt Go.RowKit
set_option linter.unusedVariables false
set_option linter.unusedSimpArgs false

/-- a rule by value, as it lies in a row -/
structure Rl where
  A : Option Addr
  rc : Nat
  hold : Int
  latch : Bool
  l : List T
def r3 (rs : List Rl) : List Value := rs.flatMap fun r => [.slice r.A r.l.length r.rc, .int .i64 r.hold, .bool r.latch]
theorem r3_len (l : List Rl) : (r3 l).length = l.length * 3 := by
  induction l with
  | nil => rfl
  | cons a l ih => simp [r3] at ih ⊢; omega
theorem r3_at (l : List Rl) (i : Nat) (a : Rl) (h : l[i]? = some a) : (r3 l)[i * 3]? = some (.slice a.A a.l.length a.rc) ∧ (r3 l)[i * 3 + 1]? = some (.int .i64 a.hold) ∧ (r3 l)[i * 3 + 2]? = some (.bool a.latch) := by
  induction l generalizing i with
  | nil => simp at h
  | cons b l ih =>
    cases i with
    | zero =>
      simp at h
      subst h
      exact ⟨rfl, rfl, rfl⟩
    | succ i =>
      have h' : l[i]? = some a := by simpa using h
      have := ih i h'
      have e1 : (i + 1) * 3 = i * 3 + 3 := by omega
      rw [e1]
      exact this
theorem rowR_at {w : World} {A : Option Addr} {c m : Nat} {ks : List Rl} {a : Rl} (h : RowN 3 w (.slice A ks.length c) ks.length (r3 ks)) (hm : ks[m]? = some a) :
    ∃ ad, A = some ad ∧ ad.block < w.heap.size ∧ w.cell? (ad.add (m * 3)) = some (.slice a.A a.l.length a.rc) ∧ w.cell? ⟨(ad.add (m * 3)).block, (ad.add (m * 3)).off + 1, none⟩ = some (.int .i64 a.hold) ∧ w.cell? ⟨(ad.add (m * 3)).block, (ad.add (m * 3)).off + 2, none⟩ = some (.bool a.latch) := by
  obtain ⟨_, A', c', e1, _, _, hA⟩ := h
  injection e1 with e1 _ _
  subst e1
  obtain ⟨q1, q2, q3⟩ := r3_at ks m a hm
  have hl := (List.getElem?_eq_some_iff.1 hm).1
  rcases hA with ⟨rfl, h0⟩ | ⟨ad, rfl, h1, h2⟩
  · omega
  · have g : ∀ i v, 0 < i → (r3 ks)[m * 3 + i]? = some v → w.cell? ⟨(ad.add (m * 3)).block, (ad.add (m * 3)).off + i, none⟩ = some v := fun i v hi hv => by
      have := h2 _ _ hv
      rwa [← Go.Deep.add_add, addk _ i hi] at this
    exact ⟨ad, rfl, h1 (by rw [r3_len]; omega), h2 _ _ q1, g 1 _ (by omega) q2, g 2 _ (by omega) q3⟩
/-- a setting with its rules, in memory -/
def ConfR (w : World) (v : Value) (c : Cf) (rs : List Rl) : Prop :=
  ∃ s RA rc, v = .agg #[.int .i64 c.P, .int .i64 c.H, .int .i64 c.C, .int .i64 c.Mn, .int .i64 c.Mx, .int .i64 c.Rho, .int .i64 c.Bd, .int .i64 c.Win, .int .i64 c.St, s, .slice RA rs.length rc] ∧ Rows2 w s c.rows ∧
    RowN 3 w (.slice RA rs.length rc) rs.length (r3 rs) ∧ ∀ r ∈ rs, RowN 3 w (.slice r.A r.l.length r.rc) r.l.length (c3c r.l)
theorem ConfR.conf {w : World} {v : Value} {c : Cf} {rs : List Rl} (h : ConfR w v c rs) : IsConf w v c := by
  obtain ⟨s, RA, rc, e, h1, _⟩ := h
  exact ⟨s, _, e, h1⟩
theorem ConfR.below {w w' : World} {v : Value} {c : Cf} {rs : List Rl} (h : ConfR w v c rs) (hb : Below w.heap.size w w') : ConfR w' v c rs := by
  obtain ⟨s, RA, rc, e, h1, h2, h3⟩ := h
  exact ⟨s, RA, rc, e, h1.below hb, h2.below hb, fun r hr => (h3 r hr).below hb⟩
def newR (r : Rl) : Wt := .rule r.A r.rc r.hold r.latch r.l ⟨0, false, false⟩ false
def newC (St : Int) (i : Nat) : Wt := .chan St i ⟨0, false, false, false⟩ false
theorem info68 : (Try.prog.info? 68).map (fun i => (i.zero, i.size, i.bytes)) = some (some .nilIface, 1, 16) := by kernel_rfl
theorem elW : Elem Try.prog 75 68 1 16 := Elem.mk' Try.underlying75 info68 rfl (by decide)
set_option maxRecDepth 100000 in
theorem through0_any (w : World) : Calls Try.prog 35 #[.func (.func 36) #[] #[]] w fun e w' =>
    e = .returned (.func (.func 59) #[] #[.pointer (some ⟨w.heap.size, 0, none⟩)]) ∧ w.alloc (.cells #[.func (.func 36) #[] #[]] 74) = w' := by
  have hmf : ∀ (fn : Fn) (first cap : Array Value) (w : World), (Instr.makeFunc fn first cap).run Try.prog w = .ok (.func fn first cap) w := fun _ _ _ _ => rfl
  go_enter Try.func35, Try.ntmps35
  go_wp2
  go_returns
  exact ⟨rfl, rfl⟩
set_option maxRecDepth 100000 in
theorem new1_any (sl : Value) (h : Int) (la : Bool) (hs : ∃ A n c, sl = .slice A n c) (w : World) : Calls Try.prog 36 #[.agg #[sl, .int .i64 h, .bool la]] w fun e w' =>
    e = .returned (.iface 69 (.pointer (some ⟨w.heap.size + 1, 0, none⟩))) ∧ Blk w' (w.heap.size + 1) 73 #[sl, .int .i64 h, .bool la, .int .i64 0, .bool false, .bool false, .bool false] ∧ Below w.heap.size w w' := by
  obtain ⟨A, n, c, rfl⟩ := hs
  go_enter Try.func36, Try.ntmps36
  go_wp2
  go_returns
  exact ⟨by first | rfl | simp, Blk.new _ _ _ _ (by simp), by go_grown⟩
def rowW (q : List (Nat × Wt)) (n : Nat) : Array Value := (q.map wval ++ List.replicate (n - q.length) Value.nilIface).toArray
theorem rowW_step (q : List (Nat × Wt)) (n : Nat) (x : Nat × Wt) (h : q.length < n) : (rowW q n).setIfInBounds q.length (wval x) = rowW (q ++ [x]) n := by
  unfold rowW
  have e : n - q.length = (n - (q ++ [x]).length) + 1 := by simp; omega
  rw [e, List.replicate_succ]
  simp only [List.setIfInBounds_toArray, List.map_append, List.map_cons, List.map_nil, List.append_assoc]
  congr 1
  rw [List.set_append_right _ _ (by simp)]
  simp
theorem rowW_at (q : List (Nat × Wt)) (n : Nat) (h : q.length < n) : (rowW q n)[q.length]? = some .nilIface := by
  unfold rowW
  rw [List.getElem?_toArray, List.getElem?_append_right (by simp)]
  rw [List.length_map, Nat.sub_self, List.getElem?_replicate, if_pos (by omega)]
theorem rowW_zero (n : Nat) : madeCells (Value.cells .nilIface) (n * 1) = rowW [] n := by
  rw [madeCells_rep _ .nilIface _ (fun i hi => by simp [Value.cells] at hi; subst hi; rfl) (by decide)]
  unfold rowW
  simp
theorem Inj.snoc {q : List (Nat × Wt)} {x : Nat × Wt} (h : Inj q) (hx : x.1 ∉ bl q) : Inj (q ++ [x]) := by
  intro i j y z hy hz e
  rcases Nat.lt_or_ge i q.length with hi | hi
  · rw [List.getElem?_append_left hi] at hy
    rcases Nat.lt_or_ge j q.length with hj | hj
    · rw [List.getElem?_append_left hj] at hz
      exact h i j y z hy hz e
    · rw [List.getElem?_append_right hj] at hz
      obtain rfl : x = z := by
        rcases hk : j - q.length with _ | k
        · rw [hk] at hz; simpa using hz
        · rw [hk] at hz; simp at hz
      exact absurd (e ▸ mem_bl hy) hx
  · rw [List.getElem?_append_right hi] at hy
    obtain ⟨rfl, hi2⟩ : x = y ∧ i = q.length := by
      rcases hk : i - q.length with _ | k
      · rw [hk] at hy; exact ⟨by simpa using hy, by omega⟩
      · rw [hk] at hy; simp at hy
    rcases Nat.lt_or_ge j q.length with hj | hj
    · rw [List.getElem?_append_left hj] at hz
      exact absurd (e.symm ▸ mem_bl hz) hx
    · rw [List.getElem?_append_right hj] at hz
      rcases hk : j - q.length with _ | k
      · omega
      · rw [hk] at hz; simp at hz
theorem AllW.snoc {W0 w : World} {q : List (Nat × Wt)} {x : Nat × Wt} (h : AllW W0 w q) (hx : IsW W0 w x.1 x.2) : AllW W0 w (q ++ [x]) := by
  intro j y hy
  rcases Nat.lt_or_ge j q.length with hj | hj
  · rw [List.getElem?_append_left hj] at hy
    exact h j y hy
  · rw [List.getElem?_append_right hj] at hy
    obtain rfl : x = y := by
      rcases hk : j - q.length with _ | k
      · rw [hk] at hy; simpa using hy
      · rw [hk] at hy; simp at hy
    exact hx
theorem bl_snoc (q : List (Nat × Wt)) (x : Nat × Wt) : bl (q ++ [x]) = bl q ++ [x.1] := by simp [bl]
set_option maxRecDepth 100000 in
set_option maxHeartbeats 4000000 in
theorem watch_any (W0 w : World) (rs : List Rl) (RA : Option Addr) (rc pd : Nat) (hrow : RowN 3 w (.slice RA rs.length rc) rs.length (r3 rs)) (hts : ∀ r ∈ rs, RowN 3 W0 (.slice r.A r.l.length r.rc) r.l.length (c3c r.l))
    (hpd : Blk w pd 74 #[.func (.func 36) #[] #[]]) (hlen : rs.length ≤ 100000) :
    Calls Try.prog 59 #[.slice RA rs.length rc, .pointer (some ⟨pd, 0, none⟩)] w fun e w' => ∃ g q, e = .returned (.slice (some ⟨g, 0, none⟩) rs.length rs.length) ∧ q.map Prod.snd = rs.map newR ∧ AllW W0 w' q ∧ Inj q ∧ Blk w' g 68 (rowW q rs.length) ∧
      (∀ b ∈ bl q, w.heap.size ≤ b ∧ b < w'.heap.size ∧ b ≠ g) ∧ w.heap.size ≤ g ∧ Below w.heap.size w w' := by
  have HROW := Lib.hid hrow
  have HTS := Lib.hid hts
  have HPD := Lib.hid hpd
  have hcap := hrow.caps.1
  clear hrow hts hpd
  have hmk := fun w => run_make_rowN (P := Try.prog) 75 68 _ _ Try.underlying75 info68 .i64 .i64 rs.length (by omega) (by omega) w
  rw [rowW_zero] at hmk
  go_enter Try.func59, Try.ntmps59
  go_wp2_with fail
  go_loopw [12] (fun i wr => ∃ k : Nat, k ≤ rs.length ∧ i = .int .i64 k ∧ Below w.heap.size w wr ∧ ∃ q, q.length = k ∧ q.map Prod.snd = (rs.take k).map newR ∧ AllW W0 wr q ∧ Inj q ∧ Blk wr w.heap.size 68 (rowW q rs.length) ∧ (∀ b ∈ bl q, w.heap.size < b ∧ b < wr.heap.size)) (fun i _ => rs.length - (intOf i).toNat)
  case atStart => exact ⟨0, Nat.zero_le _, rfl, by go_grown, [], rfl, rfl, fun j y h => by simp at h, fun i j x y h => by simp at h, Blk.new _ _ _ _ rfl, fun b h => by simp [bl] at h⟩
  case round =>
    obtain ⟨k, hk, rfl, hb, q, hql, hqs, hqa, hqi, hg, hqb⟩ := hrel
    have HB := Lib.hid hb
    have HQL := Lib.hid hql
    have HQS := Lib.hid hqs
    have HQA := Lib.hid hqa
    have HQI := Lib.hid hqi
    have HG := Lib.hid hg
    have HQB := Lib.hid hqb
    clear hb hql hqs hqa hqi hg hqb
    by_cases hlt : k < rs.length
    · obtain ⟨r, hr⟩ : ∃ r, rs[k]? = some r := ⟨_, List.getElem?_eq_getElem hlt⟩
      obtain ⟨ad, rfl, had, e0, e1, e2⟩ := rowR_at HROW.out hr
      have c0 : wr.cell? (ad.add (k * 3)) = some (.slice r.A r.l.length r.rc) := by rw [HB.out.cell (by rw [block_add]; exact had)]; exact e0
      have c1 : wr.cell? ⟨(ad.add (k * 3)).block, (ad.add (k * 3)).off + 1, none⟩ = some (.int .i64 r.hold) := by rw [HB.out.cell (by show (ad.add (k * 3)).block < _; rw [block_add]; exact had)]; exact e1
      have c2 : wr.cell? ⟨(ad.add (k * 3)).block, (ad.add (k * 3)).off + 2, none⟩ = some (.bool r.latch) := by rw [HB.out.cell (by show (ad.add (k * 3)).block < _; rw [block_add]; exact had)]; exact e2
      have HRm := Lib.hid (List.mem_of_getElem? hr)
      have HRk := Lib.hid hr
      have hkl : (k : Int) < (rs.length : Int) := by omega
      have cD := (HPD.out.below HB.out).cells
      have lD := (HPD.out.below HB.out).lt
      clear e0 e1 e2 hr
      go_wp2_with fail
      refine calls_world (fun W => Below wr.heap.size wr W) (by go_grown) fun W hbW => ?_
      refine (new1_any _ r.hold r.latch ⟨_, _, _, rfl⟩ W).mono ?_
      rintro e W5 ⟨rfl, hn5, hk5⟩
      have hb5 : Below wr.heap.size wr W5 := Btrans hbW hk5
      have HN5 := Lib.hid hn5
      have HB5 := Lib.hid hb5
      have HW5 := Lib.hid (show wr.heap.size ≤ W.heap.size from hbW.size)
      have HG5 := Lib.hid (HG.out.below hb5)
      have hgk : W5.cell? ⟨w.heap.size, k, none⟩ = some .nilIface := by rw [HG5.out.cells]; have := rowW_at q rs.length (by rw [HQL.out]; exact hlt); rw [HQL.out] at this; exact this
      have hgf := HG5.out.froz
      clear hn5 hk5 hb5 hbW c0 c1 c2 cD lD
      go_wp2
      go_roundw
      case rel =>
        refine ⟨k + 1, by omega, by go_num, ?_, q ++ [(W.heap.size + 1, newR r)], by rw [List.length_append, HQL.out]; rfl, ?_, ?_, HQI.out.snoc ?_, ?_, ?_⟩
        · exact ((Btrans HB.out HB5.out).setCell (p := ⟨w.heap.size, k, none⟩) (Nat.le_refl _) _)
        · rw [List.map_append, HQS.out, List.take_add_one, HRk.out, List.map_append]; rfl
        · have hso : Only [w.heap.size] W5 (W5.setCell ⟨w.heap.size, k, none⟩ (.iface 69 (.pointer (some ⟨W.heap.size + 1, 0, none⟩)))) := (Only.refl _ _).setCell (p := ⟨w.heap.size, k, none⟩) (by simp) _
          refine AllW.snoc (fun j y hy => ((HQA.out j y hy).below HB5.out).only hso (by simp; have := (HQB.out _ (mem_bl hy)).1; omega)) ?_
          exact IsW.only (x := newR r) ⟨HN5.out, HTS.out r HRm.out⟩ hso (by simp; have := HB.out.size; have := HW5.out; omega)
        · intro hm
          have := (HQB.out _ hm).2
          have := HW5.out
          simp only at *
          omega
        · have h := HG5.out.set k (.iface 69 (.pointer (some ⟨W.heap.size + 1, 0, none⟩)))
          have h2 := rowW_step q rs.length (W.heap.size + 1, newR r) (by rw [HQL.out]; exact hlt)
          rw [HQL.out] at h2
          rw [← h2]
          exact h
        · intro b hb
          rw [bl_snoc] at hb
          have h1 := HB.out.size
          have h2 := HB5.out.size
          have h3 := HN5.out.lt
          have h4 := HW5.out
          have h5 : w.heap.size < wr.heap.size := HG.out.lt
          rcases List.mem_append.1 hb with hb | hb
          · have := HQB.out b hb
            simp only [World.size_setCell] at *
            omega
          · simp at hb
            subst hb
            simp only [World.size_setCell] at *
            omega
      case measure => simp [intOf]; omega
    · obtain rfl : k = rs.length := by omega
      go_wp2
      go_returns
      refine ⟨_, q, rfl, by rw [HQS.out, List.take_length], HQA.out, HQI.out, HG.out, fun b hb => ?_, Nat.le_refl _, HB.out⟩
      have := HQB.out b hb
      omega
end Go.Proofs.Ytcdmojimdiiepaa
