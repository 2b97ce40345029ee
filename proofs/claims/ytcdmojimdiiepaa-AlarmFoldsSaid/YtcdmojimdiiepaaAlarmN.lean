/- Layer 21: a new state of all alarms. -/
import Derived.Test.YtcdmojimdiiepaaAlarmG
import Derived.StillTailTactics
import Derived.Handy
namespace Go.Proofs.Ytcdmojimdiiepaa
open Go.ChangeShapes Go.WideShapes Go.ChangeAt Go.RowKit
set_option linter.unusedVariables false
set_option linter.unusedSimpArgs false

theorem own_ne {w : World} {base b : Nat} {e t : TypeId} {k n : Nat} {v : Value} {xs : List Value} {cs : Array Value} (h : w.ownsRow base e k v n xs) (hb : Blk w b t cs) (ht : t ≠ e) : some b ≠ v.ownBlock := by
  intro he
  obtain ⟨_, h2⟩ := h
  rcases h2 with ⟨rfl, _⟩ | ⟨g, cap, cur, rfl, _, hgg, _⟩
  · simp [Value.ownBlock] at he
  · simp [Value.ownBlock] at he
    subst he
    have := hgg.symm.trans hb
    injection this with this
    injection this with _ h2 _
    exact ht h2.symm
theorem IsW.own_ne {W0 w : World} {b base n : Nat} {x : Wt} {v : Value} {xs : List Value} (h : IsW W0 w b x) (ho : w.ownsRow base 68 1 v n xs) : some b ≠ v.ownBlock := by
  cases x with
  | rule => exact Go.Proofs.Ytcdmojimdiiepaa.own_ne ho h.1 (by decide)
  | chan => exact Go.Proofs.Ytcdmojimdiiepaa.own_ne ho (show Blk _ _ _ _ from h) (by decide)
theorem IsW.at_ {W0 w w' : World} {b : Nat} {x : Wt} (h : IsW W0 w b x) (hb : w'.heap[b]? = w.heap[b]?) : IsW W0 w' b x := by
  cases x with
  | rule => exact ⟨hb.trans h.1, h.2⟩
  | chan => exact hb.trans (show Blk _ _ _ _ from h)
theorem Only.then {s : List Nat} {a b c : World} {B : Nat} (h : Only s a b) (k : Below B b c) (hB : a.heap.size ≤ B) : Only s a c :=
  ⟨k.os.trans h.os, k.tape.trans h.tape, k.output.trans h.output, Nat.le_trans h.size k.size, fun i hi hn => (k.block i (by omega)).trans (h.block i hi hn)⟩
theorem Inj.append {a b : List (Nat × Wt)} (ha : Inj a) (hb : Inj b) (hx : ∀ x ∈ bl a, x ∉ bl b) : Inj (a ++ b) := by
  intro i j y z hy hz e
  rcases Nat.lt_or_ge i a.length with hi | hi
  · rw [List.getElem?_append_left hi] at hy
    rcases Nat.lt_or_ge j a.length with hj | hj
    · rw [List.getElem?_append_left hj] at hz
      exact ha i j y z hy hz e
    · rw [List.getElem?_append_right hj] at hz
      exact absurd (e ▸ mem_bl hz) (hx _ (mem_bl hy))
  · rw [List.getElem?_append_right hi] at hy
    rcases Nat.lt_or_ge j a.length with hj | hj
    · rw [List.getElem?_append_left hj] at hz
      exact absurd (e ▸ mem_bl hy) (hx _ (mem_bl hz))
    · rw [List.getElem?_append_right hj] at hz
      have := hb _ _ y z hy hz e
      omega
theorem own_blk {w : World} {base n c : Nat} {A : Option Addr} {e : TypeId} {k : Nat} {xs : List Value} (h : w.ownsRow base e k (.slice A n c) n xs) : ∀ ad, A = some ad → base ≤ ad.block ∧ ad.block < w.heap.size ∧ some ad.block = (Value.slice A n c).ownBlock := by
  intro ad hA
  obtain ⟨_, h2⟩ := h
  rcases h2 with ⟨h2, _⟩ | ⟨g, cap, cur, hv, hbg, hgg, _⟩
  · injection h2 with h2
    rw [hA] at h2
    cases h2
  · injection hv with hv
    rw [hA] at hv
    injection hv with hv
    subst hv
    refine ⟨hbg, (Array.getElem?_eq_some_iff.1 hgg).1, ?_⟩
    rw [hA]
    rfl
set_option maxRecDepth 100000 in
set_option maxHeartbeats 8000000 in
theorem new_any (W0 w : World) (v : Value) (c : Cf) (rs : List Rl) (h : ConfR W0 v c rs) (h0 : Below W0.heap.size W0 w) (hN : (chansOf c.rows).length ≤ 100000) (hlen : rs.length ≤ 100000) :
    Calls Try.prog 14 #[v] w fun e w' => ∃ pb qr qc, e = .returned (.pointer (some ⟨pb, 0, none⟩)) ∧ St W0 w' w.heap.size w'.heap.size pb qr qc ∧ qr.map Prod.snd = rs.map newR ∧ qc.map Prod.snd = (List.range (chansOf c.rows).length).map (newC c.St) ∧ Below w.heap.size w w' := by
  have HC := Lib.hid h
  have HW0 := Lib.hid h0
  obtain ⟨sv, RA, rc, rfl, hsv, hrr, hts⟩ := h
  have HRR := Lib.hid hrr
  have HTS := Lib.hid hts
  have hrcap := hrr.caps.1
  obtain ⟨sA, sn, scap, rfl⟩ : ∃ A n c, sv = .slice A n c := by obtain ⟨vs, h1, _⟩ := hsv; obtain ⟨A, c, e, _⟩ := h1; exact ⟨A, _, c, e⟩
  clear hsv hrr hts h0
  go_enter Try.func14, Try.ntmps14
  go_wp2_with fail
  refine calls_world (fun W => Below w.heap.size w W ∧ Blk W w.heap.size 25 #[.int .i64 c.P, .int .i64 c.H, .int .i64 c.C, .int .i64 c.Mn, .int .i64 c.Mx, .int .i64 c.Rho, .int .i64 c.Bd, .int .i64 c.Win, .int .i64 c.St, .slice sA sn scap, .slice RA rs.length rc]) ⟨by go_grown, Blk.new _ _ _ _ rfl⟩ fun W1 ⟨hb1, hq1⟩ => ?_
  have HB1 := Lib.hid hb1
  have HQ1 := Lib.hid hq1
  clear hb1 hq1
  refine (through0_any W1).mono ?_
  rintro e W2 ⟨rfl, hw2⟩
  have hk : Below W1.heap.size W1 W2 := by rw [← hw2]; exact (Below.refl _ _).alloc (Nat.le_refl _) _
  have HPD := Lib.hid (show Blk W2 W1.heap.size 74 #[.func (.func 36) #[] #[]] from by rw [← hw2]; exact Blk.new _ _ _ _ rfl)
  have HB2 := Lib.hid (Btrans HB1.out hk)
  have HQ2 := Lib.hid (HQ1.out.below hk)
  clear hk hw2 HB1 HQ1
  have cQ := HQ2.out.cells
  have lQ := HQ2.out.lt
  go_wp2_with fail
  refine (watch_any W0 _ rs RA rc _ ((HRR.out.below HW0.out).below HB2.out) HTS.out HPD.out hlen).mono ?_
  rintro e W3 ⟨g, qr, rfl, hq1, hq2, hq3, hq4, hq5, hq6, hk⟩
  have HB3 := Lib.hid (Btrans HB2.out hk)
  have HQ3 := Lib.hid (HQ2.out.below hk)
  have HR1 := Lib.hid hq1
  have HR2 := Lib.hid hq2
  have HR3 := Lib.hid hq3
  have HR4 := Lib.hid hq4
  have hz2 := HB2.out.size
  have HR5 := Lib.hid (show ∀ b ∈ bl qr, w.heap.size ≤ b ∧ b < W3.heap.size ∧ b ≠ g from fun b hb => by have := hq5 b hb; omega)
  have hg0 : w.heap.size ≤ g := by omega
  have HQL := Lib.hid (show qr.length = rs.length by have := congrArg List.length hq1; simpa using this)
  clear hk HB2 HQ2 cQ lQ hq1 hq2 hq3 hq4 hq5 hq6 hz2 HPD
  have cQ := HQ3.out.cells
  have lQ := HQ3.out.lt
  go_wp2_with fail
  refine calls_world (fun W => Below W3.heap.size W3 W ∧ Blk W W3.heap.size 77 #[.slice (some ⟨g, 0, none⟩) rs.length rs.length, .slice none 0 0]) ⟨by go_grown, Blk.new _ _ _ _ rfl⟩ fun W4 ⟨hk, hp4⟩ => ?_
  have hb4 := Btrans HB3.out hk
  refine (many_any _ c W4 ((HC.out.conf.below HW0.out).below hb4) (by omega)).mono ?_
  rintro e W5 ⟨rfl, hk5⟩
  have HB5 := Lib.hid (Btrans hb4 hk5)
  have HQ5 := Lib.hid (HQ3.out.below (Btrans hk hk5))
  have HK5 := Lib.hid (Btrans hk hk5)
  have HP5 := Lib.hid (hp4.below hk5)
  have hlt3 : W3.heap.size < W5.heap.size := HP5.out.lt
  have HG5 := Lib.hid (HR4.out.below (Btrans hk hk5))
  have HA5 := Lib.hid (show AllW W0 W5 qr from fun j y hy => (HR2.out j y hy).below HK5.out)
  have hw3 := HB3.out.size
  have hgl : g < W3.heap.size := HR4.out.lt
  clear cQ lQ hk hk5 hb4 hp4 HB3 HQ3 HR2 HR4
  generalize W3.heap.size = pb at *
  obtain ⟨N, HN⟩ : ∃ N, RowKit.Hid (N = (chansOf c.rows).length) := ⟨_, Lib.hid rfl⟩
  rw [← HN.out] at hN ⊢
  have hwb := HQ5.out.lt
  go_wp2_with fail
  go_loopw [15] (fun i wr => ∃ k : Nat, k ≤ N ∧ i = .int .i64 k ∧ Only [pb] W5 wr ∧ ∃ CA cc qc, Blk wr pb 77 #[.slice (some ⟨g, 0, none⟩) rs.length rs.length, .slice CA k cc] ∧ wr.ownsRow W5.heap.size 68 1 (.slice CA k cc) k (qc.map wval) ∧ AllW W0 wr qc ∧ Inj qc ∧ qc.length = k ∧ qc.map Prod.snd = (List.range k).map (newC c.St) ∧ (∀ b ∈ bl qc, W5.heap.size ≤ b)) (fun i _ => N - (intOf i).toNat)
  case atStart => exact ⟨0, Nat.zero_le _, rfl, Only.refl _ _, none, 0, [], HP5.out, own_nil _ _, fun j y h => by simp at h, fun i j x y h => by simp at h, rfl, rfl, fun b h => by simp [bl] at h⟩
  case round =>
    obtain ⟨k, hk, rfl, ho, CA, cc, qc, hp, how, hqa, hqi, hql, hqs, hqb⟩ := hrel
    have HO := Lib.hid ho
    have HP := Lib.hid hp
    have HOW := Lib.hid how
    have HQA := Lib.hid hqa
    have HQI := Lib.hid hqi
    have HQK := Lib.hid hql
    have HQS := Lib.hid hqs
    have HQB := Lib.hid hqb
    clear ho hp how hqa hqi hql hqs hqb
    by_cases hlt : k < N
    · have hkl : (k : Int) < (N : Int) := by omega
      go_wp2_with fail
      have HCB := Lib.hid (show Blk wr w.heap.size 25 _ from HQ5.out.only HO.out (by simp; omega))
      have hs0 : wr.cell? ⟨w.heap.size, 8, none⟩ = some (.int .i64 c.St) := by rw [HCB.out.cells]; rfl
      have hcb : w.heap.size < wr.heap.size := HCB.out.lt
      have hpb : pb < wr.heap.size := HP.out.lt
      refine wp_region_held_drew (S := fun w' => w'.cell? ⟨w.heap.size, 8, none⟩ = some (.int .i64 c.St)) (by kernel_rfl) (hs0) (fun hHeld => ?_)
      have hcur : Below wr.heap.size wr _ := (Below.refl wr.heap.size wr).drew
      have hsc := hHeld
      refine takeD 0 (some 18) (v := ?_) rfl rfl (by kernel_rfl) (by kernel_rfl) (by kernel_rfl) (fun _ _ _ h => h) (by rfl) ?_ (by assumption) ?_
      rotate_left
      · intro w hSw
        (try dsimp only at hSw)
        go_simp
        try with_reducible rfl
      try simp only [Act.put, List.setIfInBounds_toArray, List.set_cons_zero, List.set_cons_succ]
      refine takeD 1 (some 19) (v := ?_) rfl rfl (by kernel_rfl) (by kernel_rfl) (by kernel_rfl) (fun _ _ _ h => h) (by rfl) ?_ (by assumption) ?_
      rotate_left
      · intro w hSw
        (try dsimp only at hSw)
        go_simp
        try with_reducible rfl
      try simp only [Act.put, List.setIfInBounds_toArray, List.set_cons_zero, List.set_cons_succ]
      refine takeD 2 (some 20) (v := ?_) rfl rfl (by kernel_rfl) (by kernel_rfl) (by kernel_rfl) (fun _ _ _ h => h) (by rfl) ?_ (by assumption) ?_
      rotate_left
      · intro w hSw
        (try dsimp only at hSw)
        go_simp
        try with_reducible rfl
      try simp only [Act.put, List.setIfInBounds_toArray, List.set_cons_zero, List.set_cons_succ]
      refine takeD 3 (some 21) (v := ?_) rfl rfl (by kernel_rfl) (by kernel_rfl) (by kernel_rfl) (fun _ _ _ h => h) (by rfl) ?_ (by assumption) ?_
      rotate_left
      · intro w hSw
        (try dsimp only at hSw)
        go_simp
        try with_reducible rfl
      try simp only [Act.put, List.setIfInBounds_toArray, List.set_cons_zero, List.set_cons_succ]
      refine takeD 5 (some 23) (v := ?_) rfl rfl (by kernel_rfl) (by kernel_rfl) (by kernel_rfl) (fun _ _ _ h => h) (by rfl) ?_ (by assumption) ?_
      rotate_left
      · intro w hSw
        (try dsimp only at hSw)
        go_simp
        try with_reducible rfl
      try simp only [Act.put, List.setIfInBounds_toArray, List.set_cons_zero, List.set_cons_succ]
      refine takeD 6 (some 24) (v := ?_) rfl rfl (by kernel_rfl) (by kernel_rfl) (by kernel_rfl) (fun _ _ _ h => h) (by rfl) ?_ (by assumption) ?_
      rotate_left
      · intro w hSw
        (try dsimp only at hSw)
        go_simp
        try with_reducible rfl
      try simp only [Act.put, List.setIfInBounds_toArray, List.set_cons_zero, List.set_cons_succ]
      refine takeD 7 (some 25) (v := ?_) rfl rfl (by kernel_rfl) (by kernel_rfl) (by kernel_rfl) (fun _ _ _ h => h) (by rfl) ?_ (by assumption) ?_
      rotate_left
      · intro w hSw
        (try dsimp only at hSw)
        go_simp
        try with_reducible rfl
      try simp only [Act.put, List.setIfInBounds_toArray, List.set_cons_zero, List.set_cons_succ]
      refine takeD 8 (some 26) (v := ?_) rfl rfl (by kernel_rfl) (by kernel_rfl) (by kernel_rfl) (fun _ _ _ h => h) (by rfl) ?_ (by assumption) ?_
      rotate_left
      · intro w hSw
        (try dsimp only at hSw)
        go_simp
        try with_reducible rfl
      try simp only [Act.put, List.setIfInBounds_toArray, List.set_cons_zero, List.set_cons_succ]
      refine wpAnyH_ready (rs := [4, 9]) (by kernel_rfl) (by simp) ?_
      refine AllReadyH.cons rfl (fun K hK => ?_) (AllReadyH.cons rfl (fun K hK => ?_) AllReadyH.nil)
      · rw [if_pos (by rfl)]
        have c1 := (HP.out.below hcur).cells
        go_simp
        clear c1
        have hS := hsc
        refine hK.out _ _ ?_ (fun hHeld2 => ?_)
        · clear hK; exact hS
        clear hK K hHeld hS
        have hHeld := hHeld2
        clear hHeld2
        try simp only [Act.put, List.setIfInBounds_toArray, List.set_cons_zero, List.set_cons_succ]
        refine wpAnyH_ready (rs := [9]) (by kernel_rfl) (by simp) ?_
        refine AllReadyH.cons rfl (fun K hK => ?_) AllReadyH.nil
        rw [if_pos (by rfl)]
        go_simp
        refine nameV (fun V1 => Below wr.heap.size wr V1 ∧ Blk V1 wr.heap.size 82 #[.int .i64 c.St, .int .i64 (k : Int), .int .i64 0, .bool false, .bool false, .bool false, .bool false]) ⟨hcur.alloc hcur.size _, Blk.new _ _ _ _ rfl⟩ fun V1 ⟨hcur1, hw1⟩ => ?_
        have hsc1 : V1.cell? ⟨w.heap.size, 8, none⟩ = some (.int .i64 c.St) := by rw [(HCB.out.below hcur1).cells]; rfl
        have HW1 := Lib.hid hw1
        clear hcur hsc hw1
        have hcur := hcur1
        have hsc := hsc1
        clear hcur1 hsc1
        have hS := hsc
        refine hK.out _ _ ?_ (fun hHeld2 => ?_)
        · clear hK; exact hS
        clear hK K hHeld hS
        have hHeld := hHeld2
        clear hHeld2
        try simp only [Act.put, List.setIfInBounds_toArray, List.set_cons_zero, List.set_cons_succ]
        refine takeD 10 (some 28) (v := ?_) rfl rfl (by kernel_rfl) (by kernel_rfl) (by kernel_rfl) (fun _ _ _ h => h) (by rfl) ?_ (by assumption) ?_
        rotate_left
        · intro w hSw
          (try dsimp only at hSw)
          go_simp
          try with_reducible rfl
        try simp only [Act.put, List.setIfInBounds_toArray, List.set_cons_zero, List.set_cons_succ]
        refine wpAnyH_ready (rs := [11]) (by kernel_rfl) (by simp) ?_
        refine AllReadyH.cons rfl (fun K hK => ?_) AllReadyH.nil
        rw [if_pos (by rfl)]
        go_simp
        refine nameV (fun V2 => Below wr.heap.size wr V2 ∧ Blk V2 wr.heap.size 82 #[.int .i64 c.St, .int .i64 (k : Int), .int .i64 0, .bool false, .bool false, .bool false, .bool false] ∧ Blk V2 V1.heap.size 68 #[.iface 78 (.pointer (some ⟨wr.heap.size, 0, none⟩))]) ⟨hcur.alloc hcur.size _, HW1.out.al _, Blk.new _ _ _ _ rfl⟩ fun V2 ⟨hcur1, hw2, hn2⟩ => ?_
        have hsc1 : V2.cell? ⟨w.heap.size, 8, none⟩ = some (.int .i64 c.St) := by rw [(HCB.out.below hcur1).cells]; rfl
        have HW2 := Lib.hid hw2
        have HN2 := Lib.hid hn2
        clear hcur hsc hw2 hn2 HW1
        have hcur := hcur1
        have hsc := hsc1
        clear hcur1 hsc1
        have hS := hsc
        refine hK.out _ _ ?_ (fun hHeld2 => ?_)
        · clear hK; exact hS
        clear hK K hHeld hS
        have hHeld := hHeld2
        clear hHeld2
        try simp only [Act.put, List.setIfInBounds_toArray, List.set_cons_zero, List.set_cons_succ]
        refine wpAnyH_ready (rs := [12]) (by kernel_rfl) (by simp) ?_
        refine AllReadyH.cons rfl (fun K hK => ?_) AllReadyH.nil
        rw [if_pos (by rfl)]
        have HOV := Lib.hid (own_below HOW.out hcur)
        refine wp_app elW (.tmp 22) (.tmp 29) rfl W5.heap.size _ k (qc.map wval) rfl HOV.out _ [wval (wr.heap.size, newC c.St k)] rfl (Row.of_block HN2.out rfl rfl (Nat.le_refl _) (by decide)) (by simp; rfl) (by unfold maxLen; simp; omega) (by simp; omega) (Nat.le_trans HO.out.size hcur.size) ?_
        intro v3 V3 hO3 hg3 _
        obtain ⟨CB, cd, rfl⟩ := own_shape hO3
        have HO3 := Lib.hid (show V3.ownsRow W5.heap.size 68 1 (.slice CB (k + 1) cd) (k + 1) ((qc ++ [(wr.heap.size, newC c.St k)]).map wval) by rw [List.map_append]; exact hO3)
        have HG3 := Lib.hid hg3
        have HBe3 := Lib.hid (below_app (B := W5.heap.size) (hcur.mono HO.out.size) (Nat.le_trans HO.out.size hcur.size) HOV.out hg3 (Nat.le_refl _))
        have HP3 := Lib.hid (show Blk V3 pb 77 _ from (hg3.block _ (HP.out.below hcur).lt (own_ne HOV.out (HP.out.below hcur) (by decide))).trans (HP.out.below hcur))
        have HW3 := Lib.hid (show IsW W0 V3 wr.heap.size (newC c.St k) from (hg3.block _ HW2.out.lt (own_ne HOV.out HW2.out (by decide))).trans HW2.out)
        have HA3 := Lib.hid (show AllW W0 V3 qc from fun j y hy => ((HQA.out j y hy).below hcur).at_ (hg3.block _ ((HQA.out j y hy).below hcur).lt (((HQA.out j y hy).below hcur).own_ne HOV.out)))
        have HC3 := Lib.hid (show Blk V3 w.heap.size 25 #[.int .i64 c.P, .int .i64 c.H, .int .i64 c.C, .int .i64 c.Mn, .int .i64 c.Mx, .int .i64 c.Rho, .int .i64 c.Bd, .int .i64 c.Win, .int .i64 c.St, .slice sA sn scap, .slice RA rs.length rc] from (hg3.block _ (HCB.out.below hcur).lt (own_ne HOV.out (HCB.out.below hcur) (by decide))).trans (HCB.out.below hcur))
        have hpb3 : pb < V3.heap.size := HP3.out.lt
        have hS : V3.cell? ⟨w.heap.size, 8, none⟩ = some (.int .i64 c.St) := by rw [HC3.out.cells]; rfl
        clear hO3 hg3 HN2 HW2
        refine hK.out _ _ ?_ (fun hHeld2 => ?_)
        · clear hK; exact hS
        clear hK K hHeld hS
        have hHeld := hHeld2
        clear hHeld2
        try simp only [Act.put, List.setIfInBounds_toArray, List.set_cons_zero, List.set_cons_succ]
        refine takeD 13 (some 31) (v := ?_) rfl rfl (by kernel_rfl) (by kernel_rfl) (by kernel_rfl) (fun _ _ _ h => h) (by rfl) ?_ (by assumption) ?_
        rotate_left
        · intro w hSw
          (try dsimp only at hSw)
          go_simp
          try with_reducible rfl
        try simp only [Act.put, List.setIfInBounds_toArray, List.set_cons_zero, List.set_cons_succ]
        refine takeD 14 (some 32) (v := ?_) rfl rfl (by kernel_rfl) (by kernel_rfl) (by kernel_rfl) (fun _ _ _ h => h) (by rfl) ?_ (by assumption) ?_
        rotate_left
        · intro w hSw
          (try dsimp only at hSw)
          go_simp
          try with_reducible rfl
        try simp only [Act.put, List.setIfInBounds_toArray, List.set_cons_zero, List.set_cons_succ]
        refine wpAnyH_ready (rs := [15]) (by kernel_rfl) (by simp) ?_
        refine AllReadyH.cons rfl (fun K hK => ?_) AllReadyH.nil
        rw [if_pos (by rfl)]
        have cP := HP3.out.cells
        have fP := HP3.out.froz
        go_simp
        have HP4 := Lib.hid (HP3.out.set 1 (.slice CB (k + 1) cd))
        have HC4 := Lib.hid (HC3.out.setO (show w.heap.size ≠ pb by omega) 1 (.slice CB (k + 1) cd))
        have hS : (V3.setCell ⟨pb, 1, none⟩ (.slice CB (k + 1) cd)).cell? ⟨w.heap.size, 8, none⟩ = some (.int .i64 c.St) := by rw [HC4.out.cells]; rfl
        clear cP fP
        refine hK.out _ _ ?_ (fun hHeld2 => ?_)
        · clear hK; exact hS
        clear hK K hHeld hS
        have hHeld := hHeld2
        clear hHeld2
        try simp only [Act.put, List.setIfInBounds_toArray, List.set_cons_zero, List.set_cons_succ]
        refine wpAnyH_done (by kernel_rfl) ?_ _
        have hso : Only [pb] V3 (V3.setCell ⟨pb, 1, none⟩ (.slice CB (k + 1) cd)) := (Only.refl _ _).setCell (p := ⟨pb, 1, none⟩) (by simp) _
        have HL := Lib.hid (show Only [pb] W5 _ from (HO.out.then HBe3.out (Nat.le_refl _)).setCell (p := ⟨pb, 1, none⟩) (by simp) (.slice CB (k + 1) cd))
        have HOZ := Lib.hid (own_typed HO3.out HP3.out (by decide) 1 (.slice CB (k + 1) cd))
        have HAZ := Lib.hid (AllW.snoc (x := (wr.heap.size, newC c.St k)) (fun j y hy => (HA3.out j y hy).only hso (by simp; have := HQB.out _ (mem_bl hy); omega)) (HW3.out.only hso (by simp; omega)))
        clear hHeld hso
        go_wp2
        go_roundw
        case rel => exact ⟨k + 1, by omega, by go_num, HL.out, CB, cd, qc ++ [(wr.heap.size, newC c.St k)], HP4.out, HOZ.out, HAZ.out, HQI.out.snoc (fun hm => by have := bl_lt HQA.out _ hm; simp only at this; omega), by rw [List.length_append, HQK.out]; rfl, by rw [List.map_append, HQS.out, List.range_succ, List.map_append]; rfl, fun b hb => by
          rw [bl_snoc] at hb
          rcases List.mem_append.1 hb with hb | hb
          · exact HQB.out b hb
          · simp at hb
            subst hb
            exact HO.out.size⟩
        case measure => simp [intOf]; omega
      · rw [if_pos (by rfl)]
        go_simp
        refine nameV (fun V1 => Below wr.heap.size wr V1 ∧ Blk V1 wr.heap.size 82 #[.int .i64 c.St, .int .i64 (k : Int), .int .i64 0, .bool false, .bool false, .bool false, .bool false]) ⟨hcur.alloc hcur.size _, Blk.new _ _ _ _ rfl⟩ fun V1 ⟨hcur1, hw1⟩ => ?_
        have hsc1 : V1.cell? ⟨w.heap.size, 8, none⟩ = some (.int .i64 c.St) := by rw [(HCB.out.below hcur1).cells]; rfl
        have HW1 := Lib.hid hw1
        clear hcur hsc hw1
        have hcur := hcur1
        have hsc := hsc1
        clear hcur1 hsc1
        have hS := hsc
        refine hK.out _ _ ?_ (fun hHeld2 => ?_)
        · clear hK; exact hS
        clear hK K hHeld hS
        have hHeld := hHeld2
        clear hHeld2
        try simp only [Act.put, List.setIfInBounds_toArray, List.set_cons_zero, List.set_cons_succ]
        refine takeD 10 (some 28) (v := ?_) rfl rfl (by kernel_rfl) (by kernel_rfl) (by kernel_rfl) (fun _ _ _ h => h) (by rfl) ?_ (by assumption) ?_
        rotate_left
        · intro w hSw
          (try dsimp only at hSw)
          go_simp
          try with_reducible rfl
        try simp only [Act.put, List.setIfInBounds_toArray, List.set_cons_zero, List.set_cons_succ]
        refine wpAnyH_ready (rs := [4, 11]) (by kernel_rfl) (by simp) ?_
        refine AllReadyH.cons rfl (fun K hK => ?_) (AllReadyH.cons rfl (fun K hK => ?_) AllReadyH.nil)
        · rw [if_pos (by rfl)]
          have c1 := (HP.out.below hcur).cells
          go_simp
          clear c1
          have hS := hsc
          refine hK.out _ _ ?_ (fun hHeld2 => ?_)
          · clear hK; exact hS
          clear hK K hHeld hS
          have hHeld := hHeld2
          clear hHeld2
          try simp only [Act.put, List.setIfInBounds_toArray, List.set_cons_zero, List.set_cons_succ]
          refine wpAnyH_ready (rs := [11]) (by kernel_rfl) (by simp) ?_
          refine AllReadyH.cons rfl (fun K hK => ?_) AllReadyH.nil
          rw [if_pos (by rfl)]
          go_simp
          refine nameV (fun V2 => Below wr.heap.size wr V2 ∧ Blk V2 wr.heap.size 82 #[.int .i64 c.St, .int .i64 (k : Int), .int .i64 0, .bool false, .bool false, .bool false, .bool false] ∧ Blk V2 V1.heap.size 68 #[.iface 78 (.pointer (some ⟨wr.heap.size, 0, none⟩))]) ⟨hcur.alloc hcur.size _, HW1.out.al _, Blk.new _ _ _ _ rfl⟩ fun V2 ⟨hcur1, hw2, hn2⟩ => ?_
          have hsc1 : V2.cell? ⟨w.heap.size, 8, none⟩ = some (.int .i64 c.St) := by rw [(HCB.out.below hcur1).cells]; rfl
          have HW2 := Lib.hid hw2
          have HN2 := Lib.hid hn2
          clear hcur hsc hw2 hn2 HW1
          have hcur := hcur1
          have hsc := hsc1
          clear hcur1 hsc1
          have hS := hsc
          refine hK.out _ _ ?_ (fun hHeld2 => ?_)
          · clear hK; exact hS
          clear hK K hHeld hS
          have hHeld := hHeld2
          clear hHeld2
          try simp only [Act.put, List.setIfInBounds_toArray, List.set_cons_zero, List.set_cons_succ]
          refine wpAnyH_ready (rs := [12]) (by kernel_rfl) (by simp) ?_
          refine AllReadyH.cons rfl (fun K hK => ?_) AllReadyH.nil
          rw [if_pos (by rfl)]
          have HOV := Lib.hid (own_below HOW.out hcur)
          refine wp_app elW (.tmp 22) (.tmp 29) rfl W5.heap.size _ k (qc.map wval) rfl HOV.out _ [wval (wr.heap.size, newC c.St k)] rfl (Row.of_block HN2.out rfl rfl (Nat.le_refl _) (by decide)) (by simp; rfl) (by unfold maxLen; simp; omega) (by simp; omega) (Nat.le_trans HO.out.size hcur.size) ?_
          intro v3 V3 hO3 hg3 _
          obtain ⟨CB, cd, rfl⟩ := own_shape hO3
          have HO3 := Lib.hid (show V3.ownsRow W5.heap.size 68 1 (.slice CB (k + 1) cd) (k + 1) ((qc ++ [(wr.heap.size, newC c.St k)]).map wval) by rw [List.map_append]; exact hO3)
          have HG3 := Lib.hid hg3
          have HBe3 := Lib.hid (below_app (B := W5.heap.size) (hcur.mono HO.out.size) (Nat.le_trans HO.out.size hcur.size) HOV.out hg3 (Nat.le_refl _))
          have HP3 := Lib.hid (show Blk V3 pb 77 _ from (hg3.block _ (HP.out.below hcur).lt (own_ne HOV.out (HP.out.below hcur) (by decide))).trans (HP.out.below hcur))
          have HW3 := Lib.hid (show IsW W0 V3 wr.heap.size (newC c.St k) from (hg3.block _ HW2.out.lt (own_ne HOV.out HW2.out (by decide))).trans HW2.out)
          have HA3 := Lib.hid (show AllW W0 V3 qc from fun j y hy => ((HQA.out j y hy).below hcur).at_ (hg3.block _ ((HQA.out j y hy).below hcur).lt (((HQA.out j y hy).below hcur).own_ne HOV.out)))
          have HC3 := Lib.hid (show Blk V3 w.heap.size 25 #[.int .i64 c.P, .int .i64 c.H, .int .i64 c.C, .int .i64 c.Mn, .int .i64 c.Mx, .int .i64 c.Rho, .int .i64 c.Bd, .int .i64 c.Win, .int .i64 c.St, .slice sA sn scap, .slice RA rs.length rc] from (hg3.block _ (HCB.out.below hcur).lt (own_ne HOV.out (HCB.out.below hcur) (by decide))).trans (HCB.out.below hcur))
          have hpb3 : pb < V3.heap.size := HP3.out.lt
          have hS : V3.cell? ⟨w.heap.size, 8, none⟩ = some (.int .i64 c.St) := by rw [HC3.out.cells]; rfl
          clear hO3 hg3 HN2 HW2
          refine hK.out _ _ ?_ (fun hHeld2 => ?_)
          · clear hK; exact hS
          clear hK K hHeld hS
          have hHeld := hHeld2
          clear hHeld2
          try simp only [Act.put, List.setIfInBounds_toArray, List.set_cons_zero, List.set_cons_succ]
          refine takeD 13 (some 31) (v := ?_) rfl rfl (by kernel_rfl) (by kernel_rfl) (by kernel_rfl) (fun _ _ _ h => h) (by rfl) ?_ (by assumption) ?_
          rotate_left
          · intro w hSw
            (try dsimp only at hSw)
            go_simp
            try with_reducible rfl
          try simp only [Act.put, List.setIfInBounds_toArray, List.set_cons_zero, List.set_cons_succ]
          refine takeD 14 (some 32) (v := ?_) rfl rfl (by kernel_rfl) (by kernel_rfl) (by kernel_rfl) (fun _ _ _ h => h) (by rfl) ?_ (by assumption) ?_
          rotate_left
          · intro w hSw
            (try dsimp only at hSw)
            go_simp
            try with_reducible rfl
          try simp only [Act.put, List.setIfInBounds_toArray, List.set_cons_zero, List.set_cons_succ]
          refine wpAnyH_ready (rs := [15]) (by kernel_rfl) (by simp) ?_
          refine AllReadyH.cons rfl (fun K hK => ?_) AllReadyH.nil
          rw [if_pos (by rfl)]
          have cP := HP3.out.cells
          have fP := HP3.out.froz
          go_simp
          have HP4 := Lib.hid (HP3.out.set 1 (.slice CB (k + 1) cd))
          have HC4 := Lib.hid (HC3.out.setO (show w.heap.size ≠ pb by omega) 1 (.slice CB (k + 1) cd))
          have hS : (V3.setCell ⟨pb, 1, none⟩ (.slice CB (k + 1) cd)).cell? ⟨w.heap.size, 8, none⟩ = some (.int .i64 c.St) := by rw [HC4.out.cells]; rfl
          clear cP fP
          refine hK.out _ _ ?_ (fun hHeld2 => ?_)
          · clear hK; exact hS
          clear hK K hHeld hS
          have hHeld := hHeld2
          clear hHeld2
          try simp only [Act.put, List.setIfInBounds_toArray, List.set_cons_zero, List.set_cons_succ]
          refine wpAnyH_done (by kernel_rfl) ?_ _
          have hso : Only [pb] V3 (V3.setCell ⟨pb, 1, none⟩ (.slice CB (k + 1) cd)) := (Only.refl _ _).setCell (p := ⟨pb, 1, none⟩) (by simp) _
          have HL := Lib.hid (show Only [pb] W5 _ from (HO.out.then HBe3.out (Nat.le_refl _)).setCell (p := ⟨pb, 1, none⟩) (by simp) (.slice CB (k + 1) cd))
          have HOZ := Lib.hid (own_typed HO3.out HP3.out (by decide) 1 (.slice CB (k + 1) cd))
          have HAZ := Lib.hid (AllW.snoc (x := (wr.heap.size, newC c.St k)) (fun j y hy => (HA3.out j y hy).only hso (by simp; have := HQB.out _ (mem_bl hy); omega)) (HW3.out.only hso (by simp; omega)))
          clear hHeld hso
          go_wp2
          go_roundw
          case rel => exact ⟨k + 1, by omega, by go_num, HL.out, CB, cd, qc ++ [(wr.heap.size, newC c.St k)], HP4.out, HOZ.out, HAZ.out, HQI.out.snoc (fun hm => by have := bl_lt HQA.out _ hm; simp only at this; omega), by rw [List.length_append, HQK.out]; rfl, by rw [List.map_append, HQS.out, List.range_succ, List.map_append]; rfl, fun b hb => by
            rw [bl_snoc] at hb
            rcases List.mem_append.1 hb with hb | hb
            · exact HQB.out b hb
            · simp at hb
              subst hb
              exact HO.out.size⟩
          case measure => simp [intOf]; omega
        · rw [if_pos (by rfl)]
          go_simp
          refine nameV (fun V2 => Below wr.heap.size wr V2 ∧ Blk V2 wr.heap.size 82 #[.int .i64 c.St, .int .i64 (k : Int), .int .i64 0, .bool false, .bool false, .bool false, .bool false] ∧ Blk V2 V1.heap.size 68 #[.iface 78 (.pointer (some ⟨wr.heap.size, 0, none⟩))]) ⟨hcur.alloc hcur.size _, HW1.out.al _, Blk.new _ _ _ _ rfl⟩ fun V2 ⟨hcur1, hw2, hn2⟩ => ?_
          have hsc1 : V2.cell? ⟨w.heap.size, 8, none⟩ = some (.int .i64 c.St) := by rw [(HCB.out.below hcur1).cells]; rfl
          have HW2 := Lib.hid hw2
          have HN2 := Lib.hid hn2
          clear hcur hsc hw2 hn2 HW1
          have hcur := hcur1
          have hsc := hsc1
          clear hcur1 hsc1
          have hS := hsc
          refine hK.out _ _ ?_ (fun hHeld2 => ?_)
          · clear hK; exact hS
          clear hK K hHeld hS
          have hHeld := hHeld2
          clear hHeld2
          try simp only [Act.put, List.setIfInBounds_toArray, List.set_cons_zero, List.set_cons_succ]
          refine wpAnyH_ready (rs := [4]) (by kernel_rfl) (by simp) ?_
          refine AllReadyH.cons rfl (fun K hK => ?_) AllReadyH.nil
          rw [if_pos (by rfl)]
          have c1 := (HP.out.below hcur).cells
          go_simp
          clear c1
          have hS := hsc
          refine hK.out _ _ ?_ (fun hHeld2 => ?_)
          · clear hK; exact hS
          clear hK K hHeld hS
          have hHeld := hHeld2
          clear hHeld2
          try simp only [Act.put, List.setIfInBounds_toArray, List.set_cons_zero, List.set_cons_succ]
          refine wpAnyH_ready (rs := [12]) (by kernel_rfl) (by simp) ?_
          refine AllReadyH.cons rfl (fun K hK => ?_) AllReadyH.nil
          rw [if_pos (by rfl)]
          have HOV := Lib.hid (own_below HOW.out hcur)
          refine wp_app elW (.tmp 22) (.tmp 29) rfl W5.heap.size _ k (qc.map wval) rfl HOV.out _ [wval (wr.heap.size, newC c.St k)] rfl (Row.of_block HN2.out rfl rfl (Nat.le_refl _) (by decide)) (by simp; rfl) (by unfold maxLen; simp; omega) (by simp; omega) (Nat.le_trans HO.out.size hcur.size) ?_
          intro v3 V3 hO3 hg3 _
          obtain ⟨CB, cd, rfl⟩ := own_shape hO3
          have HO3 := Lib.hid (show V3.ownsRow W5.heap.size 68 1 (.slice CB (k + 1) cd) (k + 1) ((qc ++ [(wr.heap.size, newC c.St k)]).map wval) by rw [List.map_append]; exact hO3)
          have HG3 := Lib.hid hg3
          have HBe3 := Lib.hid (below_app (B := W5.heap.size) (hcur.mono HO.out.size) (Nat.le_trans HO.out.size hcur.size) HOV.out hg3 (Nat.le_refl _))
          have HP3 := Lib.hid (show Blk V3 pb 77 _ from (hg3.block _ (HP.out.below hcur).lt (own_ne HOV.out (HP.out.below hcur) (by decide))).trans (HP.out.below hcur))
          have HW3 := Lib.hid (show IsW W0 V3 wr.heap.size (newC c.St k) from (hg3.block _ HW2.out.lt (own_ne HOV.out HW2.out (by decide))).trans HW2.out)
          have HA3 := Lib.hid (show AllW W0 V3 qc from fun j y hy => ((HQA.out j y hy).below hcur).at_ (hg3.block _ ((HQA.out j y hy).below hcur).lt (((HQA.out j y hy).below hcur).own_ne HOV.out)))
          have HC3 := Lib.hid (show Blk V3 w.heap.size 25 #[.int .i64 c.P, .int .i64 c.H, .int .i64 c.C, .int .i64 c.Mn, .int .i64 c.Mx, .int .i64 c.Rho, .int .i64 c.Bd, .int .i64 c.Win, .int .i64 c.St, .slice sA sn scap, .slice RA rs.length rc] from (hg3.block _ (HCB.out.below hcur).lt (own_ne HOV.out (HCB.out.below hcur) (by decide))).trans (HCB.out.below hcur))
          have hpb3 : pb < V3.heap.size := HP3.out.lt
          have hS : V3.cell? ⟨w.heap.size, 8, none⟩ = some (.int .i64 c.St) := by rw [HC3.out.cells]; rfl
          clear hO3 hg3 HN2 HW2
          refine hK.out _ _ ?_ (fun hHeld2 => ?_)
          · clear hK; exact hS
          clear hK K hHeld hS
          have hHeld := hHeld2
          clear hHeld2
          try simp only [Act.put, List.setIfInBounds_toArray, List.set_cons_zero, List.set_cons_succ]
          refine takeD 13 (some 31) (v := ?_) rfl rfl (by kernel_rfl) (by kernel_rfl) (by kernel_rfl) (fun _ _ _ h => h) (by rfl) ?_ (by assumption) ?_
          rotate_left
          · intro w hSw
            (try dsimp only at hSw)
            go_simp
            try with_reducible rfl
          try simp only [Act.put, List.setIfInBounds_toArray, List.set_cons_zero, List.set_cons_succ]
          refine takeD 14 (some 32) (v := ?_) rfl rfl (by kernel_rfl) (by kernel_rfl) (by kernel_rfl) (fun _ _ _ h => h) (by rfl) ?_ (by assumption) ?_
          rotate_left
          · intro w hSw
            (try dsimp only at hSw)
            go_simp
            try with_reducible rfl
          try simp only [Act.put, List.setIfInBounds_toArray, List.set_cons_zero, List.set_cons_succ]
          refine wpAnyH_ready (rs := [15]) (by kernel_rfl) (by simp) ?_
          refine AllReadyH.cons rfl (fun K hK => ?_) AllReadyH.nil
          rw [if_pos (by rfl)]
          have cP := HP3.out.cells
          have fP := HP3.out.froz
          go_simp
          have HP4 := Lib.hid (HP3.out.set 1 (.slice CB (k + 1) cd))
          have HC4 := Lib.hid (HC3.out.setO (show w.heap.size ≠ pb by omega) 1 (.slice CB (k + 1) cd))
          have hS : (V3.setCell ⟨pb, 1, none⟩ (.slice CB (k + 1) cd)).cell? ⟨w.heap.size, 8, none⟩ = some (.int .i64 c.St) := by rw [HC4.out.cells]; rfl
          clear cP fP
          refine hK.out _ _ ?_ (fun hHeld2 => ?_)
          · clear hK; exact hS
          clear hK K hHeld hS
          have hHeld := hHeld2
          clear hHeld2
          try simp only [Act.put, List.setIfInBounds_toArray, List.set_cons_zero, List.set_cons_succ]
          refine wpAnyH_done (by kernel_rfl) ?_ _
          have hso : Only [pb] V3 (V3.setCell ⟨pb, 1, none⟩ (.slice CB (k + 1) cd)) := (Only.refl _ _).setCell (p := ⟨pb, 1, none⟩) (by simp) _
          have HL := Lib.hid (show Only [pb] W5 _ from (HO.out.then HBe3.out (Nat.le_refl _)).setCell (p := ⟨pb, 1, none⟩) (by simp) (.slice CB (k + 1) cd))
          have HOZ := Lib.hid (own_typed HO3.out HP3.out (by decide) 1 (.slice CB (k + 1) cd))
          have HAZ := Lib.hid (AllW.snoc (x := (wr.heap.size, newC c.St k)) (fun j y hy => (HA3.out j y hy).only hso (by simp; have := HQB.out _ (mem_bl hy); omega)) (HW3.out.only hso (by simp; omega)))
          clear hHeld hso
          go_wp2
          go_roundw
          case rel => exact ⟨k + 1, by omega, by go_num, HL.out, CB, cd, qc ++ [(wr.heap.size, newC c.St k)], HP4.out, HOZ.out, HAZ.out, HQI.out.snoc (fun hm => by have := bl_lt HQA.out _ hm; simp only at this; omega), by rw [List.length_append, HQK.out]; rfl, by rw [List.map_append, HQS.out, List.range_succ, List.map_append]; rfl, fun b hb => by
            rw [bl_snoc] at hb
            rcases List.mem_append.1 hb with hb | hb
            · exact HQB.out b hb
            · simp at hb
              subst hb
              exact HO.out.size⟩
          case measure => simp [intOf]; omega
    · obtain rfl : k = N := by omega
      have HS := Lib.hid (show St W0 wr w.heap.size wr.heap.size pb qr qc from ?st)
      case st =>
        have hsz := HO.out.size
        have hbase : W0.heap.size ≤ w.heap.size := HW0.out.size
        have hbnd : ∀ b ∈ bl (qr ++ qc), w.heap.size ≤ b ∧ b < wr.heap.size := by
          intro b hb
          rw [bl_app] at hb
          rcases List.mem_append.1 hb with hb | hb
          · have := HR5.out b hb; omega
          · have h1 := HQB.out b hb
            have h2 := bl_lt HQA.out b hb
            omega
        have hrow := HOW.out
        have hob := own_blk hrow
        refine ⟨⟨some ⟨g, 0, none⟩, rs.length, CA, cc, by rw [HQL.out, HQK.out]; exact HP.out, ?_, by rw [HQK.out]; exact Row.of_own hrow, ?_, ?_⟩, HA5.out.only HO.out ?_, HQA.out, ?_, hbnd, ⟨by omega, by omega, ?_⟩, hbase, Nat.le_refl _⟩
        · rw [HQL.out]
          have hg := HG5.out.only HO.out (by simp; omega)
          unfold rowW at hg
          rw [HQL.out, Nat.sub_self] at hg
          refine Row.of_block (cur := (qr.map wval ++ List.replicate 0 Value.nilIface).toArray) hg ?_ (by rw [List.length_map, HQL.out]) (Nat.le_refl _) (by unfold maxLen; omega)
          show ((qr.map wval ++ List.replicate 0 Value.nilIface).drop 0).take rs.length = _
          rw [List.drop_zero, List.replicate_zero, List.append_nil, List.take_of_length_le (by rw [List.length_map, HQL.out]; exact Nat.le_refl _)]
        · intro ad e
          injection e with e
          subst e
          refine ⟨hg0, by show g < wr.heap.size; omega, fun hm => ?_⟩
          rw [bl_app] at hm
          rcases List.mem_append.1 hm with hm | hm
          · exact (HR5.out _ hm).2.2 rfl
          · have := HQB.out _ hm; simp only at this; omega
        · intro ad e
          obtain ⟨h1, h2, h3⟩ := hob ad e
          refine ⟨by omega, h2, fun hm => ?_⟩
          rw [bl_app] at hm
          rcases List.mem_append.1 hm with hm | hm
          · have := HR5.out _ hm; omega
          · obtain ⟨y, hy, e2⟩ := List.mem_map.1 hm
            obtain ⟨j, hj⟩ := List.getElem?_of_mem hy
            have := (HQA.out j y hj).own_ne hrow
            rw [e2] at this
            exact this h3
        · intro b hb
          have := HR5.out b hb
          simp
          omega
        · exact HR3.out.append HQI.out (fun b hb hb2 => by have := HR5.out _ hb; have := HQB.out _ hb2; omega)
        · intro hm
          rw [bl_app] at hm
          rcases List.mem_append.1 hm with hm | hm
          · have := HR5.out _ hm; omega
          · have := HQB.out _ hm; omega
      have hfin := Only.below HB5.out HB5.out.size HO.out (by simp; omega)
      go_wp2
      go_returns
      exact ⟨pb, qr, qc, by first | rfl | simp, HS.out, HR1.out, by rw [← HN.out]; exact HQS.out, hfin⟩
end Go.Proofs.Ytcdmojimdiiepaa
