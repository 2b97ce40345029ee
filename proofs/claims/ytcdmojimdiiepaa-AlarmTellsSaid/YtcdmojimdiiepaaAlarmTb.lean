/- AlarmI, AlarmL, AlarmJ, AlarmO in one text. -/
import Derived.Test.YtcdmojimdiiepaaAlarmTa
import Derived.StillTailTactics
import Derived.Handy
import Derived.Test.YtcdmojimdiiepaaAlarmF
import Derived.Test.YtcdmojimdiiepaaAlarmH
import Derived.Test.YtcdmojimdiiepaaConfK
import Derived.Test.YtcdmojimdiiepaaAlarmZ
/- Layer 21: the document's new state. -/
namespace Go.Proofs.Ytcdmojimdiiepaa
open Go.ChangeShapes Go.WideShapes Go.ChangeAt Go.RowKit
set_option linter.unusedVariables false
set_option linter.unusedSimpArgs false

def zP : Ph := ⟨0, false, false⟩
def zT : Te := ⟨0, false, false, false⟩
def core (r : Rl) : Int × Bool × List T := (r.hold, r.latch, r.l)
theorem made_flat {α : Type} (z : Array Value) (f : α → List Value) (a : α) (hz : z = (f a).toArray) (n : Nat) : madeCells z (n * z.size) = ((List.replicate n a).flatMap f).toArray := by
  have hsz : (f a).length = z.size := by rw [hz]; simp
  have hlen : ∀ n : Nat, ((List.replicate n a).flatMap f).length = n * z.size := by
    intro n
    induction n with
    | zero => simp
    | succ n ih => rw [List.replicate_succ, List.flatMap_cons, List.length_append, ih, hsz, Nat.succ_mul]; omega
  have key : ∀ n : Nat, ∀ i, i < n * z.size → ((List.replicate n a).flatMap f)[i]? = some (z[i % z.size]!) := by
    intro n
    induction n with
    | zero => intro i hi; omega
    | succ n ih =>
      intro i hi
      rw [List.replicate_succ, List.flatMap_cons]
      rcases Nat.lt_or_ge i z.size with h | h
      · rw [List.getElem?_append_left (by omega), Nat.mod_eq_of_lt h, List.getElem?_eq_getElem (by omega)]
        subst hz
        simp only [List.size_toArray] at h
        simp [h]
      · rw [List.getElem?_append_right (by omega), hsz, ih _ (by rw [Nat.succ_mul] at hi; omega), Nat.mod_eq_sub_mod h]
  apply Array.ext
  · simp only [List.size_toArray, hlen]
    simp [madeCells]
  · intro i h1 h2
    have hi : i < n * z.size := by simpa [madeCells] using h1
    have := key n i hi
    rw [List.getElem?_eq_getElem (by rw [hlen]; exact hi)] at this
    have h3 := Option.some.inj this
    have hp : 0 < z.size := by
      rcases Nat.eq_zero_or_pos z.size with h | h
      · rw [h] at hi; omega
      · exact h
    have hm : i % z.size < z.size := Nat.mod_lt _ hp
    simp only [List.getElem_toArray]
    rw [h3]
    simp [madeCells]
def aP (n : Nat) : Array Value := (p3 (List.replicate n zP)).toArray
def aT (n : Nat) : Array Value := (t4 (List.replicate n zT)).toArray
def aB (n : Nat) : Array Value := ((List.replicate n false).map Value.bool).toArray
theorem infPh : (Try.prog.info? 71).map (fun i => (i.zero, i.size, i.bytes)) = some (some (.agg #[.int .i64 0, .bool false, .bool false]), 3, 16) := by kernel_rfl
theorem infTe : (Try.prog.info? 80).map (fun i => (i.zero, i.size, i.bytes)) = some (some (.agg #[.int .i64 0, .bool false, .bool false, .bool false]), 4, 16) := by kernel_rfl
theorem infBo : (Try.prog.info? 4).map (fun i => (i.zero, i.size, i.bytes)) = some (some (.bool false), 1, 1) := by kernel_rfl
theorem mkPh (n : Nat) (hn : n ≤ 100000) (w : World) : (Instr.makeSlice 83 (.int .i64 (n : Int)) (.int .i64 (n : Int))).run Try.prog w = .ok (.slice (some ⟨w.heap.size, 0, none⟩) n n) (w.alloc (.cells (aP n) 71)) := by
  have h := run_make_rowN (P := Try.prog) 83 71 _ _ Try.underlying83 infPh .i64 .i64 n (by omega) (by omega) w
  rw [show madeCells (Value.agg #[.int .i64 0, .bool false, .bool false]).cells (n * 3) = aP n from made_flat _ (fun s : Ph => [.int .i64 s.run, .bool s.on, .bool s.now]) zP rfl n] at h
  exact h
theorem mkTe (n : Nat) (hn : n ≤ 100000) (w : World) : (Instr.makeSlice 84 (.int .i64 (n : Int)) (.int .i64 (n : Int))).run Try.prog w = .ok (.slice (some ⟨w.heap.size, 0, none⟩) n n) (w.alloc (.cells (aT n) 80)) := by
  have h := run_make_rowN (P := Try.prog) 84 80 _ _ Try.underlying84 infTe .i64 .i64 n (by omega) (by omega) w
  rw [show madeCells (Value.agg #[.int .i64 0, .bool false, .bool false, .bool false]).cells (n * 4) = aT n from made_flat _ (fun s : Te => [.int .i64 s.run, .bool s.on, .bool s.now, .bool s.ok]) zT rfl n] at h
  exact h
theorem mkBo (n : Nat) (hn : n ≤ 100000) (w : World) : (Instr.makeSlice 51 (.int .i64 (n : Int)) (.int .i64 (n : Int))).run Try.prog w = .ok (.slice (some ⟨w.heap.size, 0, none⟩) n n) (w.alloc (.cells (aB n) 4)) := by
  have h := run_make_rowN (P := Try.prog) 51 4 _ _ Try.underlying51 infBo .i64 .i64 n (by omega) (by omega) w
  rw [madeCells_rep _ (.bool false) _ (fun i hi => by simp [Value.cells] at hi; subst hi; rfl) (by decide), Nat.mul_one] at h
  rw [h]
  unfold aB
  rw [List.map_replicate]
theorem p3_len (l : List Ph) : (p3 l).length = l.length * 3 := by rw [p3_t3, t3_len]
theorem rowZP {w : World} {g n : Nat} (h : Blk w g 71 (aP n)) (hn : n ≤ 100000) : RowN 3 w (.slice (some ⟨g, 0, none⟩) n n) n (p3 (List.replicate n zP)) :=
  RowN.of_blk h (by unfold aP; rw [List.take_of_length_le (by simp [p3_len])]) (by rw [p3_len, List.length_replicate]) (Nat.le_refl _) (by unfold maxLen; omega)
theorem rowZT {w : World} {g n : Nat} (h : Blk w g 80 (aT n)) (hn : n ≤ 100000) : RowN 4 w (.slice (some ⟨g, 0, none⟩) n n) n (t4 (List.replicate n zT)) :=
  RowN.of_blk h (by unfold aT; rw [List.take_of_length_le (by simp [t4_len])]) (by rw [t4_len, List.length_replicate]) (Nat.le_refl _) (by unfold maxLen; omega)
theorem rowZB {w : World} {g n : Nat} (h : Blk w g 4 (aB n)) (hn : n ≤ 100000) : Row w (.slice (some ⟨g, 0, none⟩) n n) ((List.replicate n false).map .bool) := by
  have hb : Blk w g 4 (Array.replicate n (Value.bool false)) := by
    have e : aB n = Array.replicate n (Value.bool false) := by unfold aB; simp
    rw [← e]
    exact h
  exact Row.of_block (cur := Array.replicate n (Value.bool false)) (t := 4) hb (by simp) (by simp) (Nat.le_refl _) (by unfold maxLen; omega)
theorem cut6 {A P : Nat → Nat → Nat → Nat → Nat → World → Prop} {G : Prop} (t : (∀ a b c d e W, A a b c d e W → P a b c d e W) → G) (r : ∀ a b c d e W, A a b c d e W → P a b c d e W) : G := t r
theorem own_lower2 {w : World} {base b2 : Nat} {e : TypeId} {k n : Nat} {v : Value} {xs : List Value} (h : w.ownsRow base e k v n xs) (hl : b2 ≤ base) : w.ownsRow b2 e k v n xs := by
  obtain ⟨h1, h2⟩ := h
  rcases h2 with h2 | ⟨g, cap, cur, hv, hbg, hrest⟩
  · exact ⟨h1, .inl h2⟩
  · exact ⟨h1, .inr ⟨g, cap, cur, hv, by omega, hrest⟩⟩
theorem own_set {w : World} {base b : Nat} {e t : TypeId} {k n i : Nat} {v u : Value} {xs : List Value} {cs : Array Value} (h : w.ownsRow base e k v n xs) (hb : Blk w b t cs) (ht : t ≠ e) : (w.setCell ⟨b, i, none⟩ u).ownsRow base e k v n xs := by
  obtain ⟨h1, h2⟩ := h
  rcases h2 with h2 | ⟨g, cap, cur, hv, hbg, hgg, hrest⟩
  · exact ⟨h1, .inl h2⟩
  · have hne : g ≠ b := by
      rintro rfl
      have := hgg.symm.trans hb
      injection this with this
      injection this with _ h2 _
      exact ht h2.symm
    exact ⟨h1, .inr ⟨g, cap, cur, hv, hbg, (Below.heap_setCell _ _ _ _ (show g ≠ b from hne)).trans hgg, hrest⟩⟩
theorem elRu : Elem Try.prog 23 50 3 40 := Elem.mk' (z := .agg #[.slice none 0 0, .int .i64 0, .bool false]) (by kernel_rfl) (by kernel_rfl) rfl (by decide)
theorem r3_one (l : List Rl) : ∀ u ∈ r3 l, u.oneCell' = true := by
  intro u hu
  obtain ⟨a, _, h⟩ := List.mem_flatMap.1 hu
  simp only [List.mem_cons, List.not_mem_nil, or_false] at h
  rcases h with rfl | rfl | rfl <;> rfl
theorem r3_app (l m : List Rl) : r3 (l ++ m) = r3 l ++ r3 m := by simp [r3]
set_option maxRecDepth 100000 in
set_option maxHeartbeats 16000000 in
theorem rnew21_any (w : World) (v : Value) (c : Cf) (rs : List Rl) (h : ConfR w v c rs) (N : Nat) (hNe : N = (chansOf c.rows).length) (hN : N ≤ 2500) (hlen : rs.length ≤ 100) (hl : ∀ r ∈ rs, r.l.length ≤ 100) :
    Calls Try.prog 15 #[v] w fun e w' => ∃ pb rs', e = .returned (.pointer (some ⟨pb, 0, none⟩)) ∧ RSt w' w.heap.size pb rs' c.St (List.replicate rs.length zP) (List.replicate N zT) (List.replicate rs.length false) (List.replicate N false) ∧ rs'.map core = rs.map core ∧ Below w.heap.size w w' := by
  have HC := Lib.hid h
  have HNE := Lib.hid hNe
  have HLT := Lib.hid hl
  obtain ⟨sv, RA, rc, rfl, hsv, hrr, hts⟩ := h
  have HRR := Lib.hid hrr
  have HTS := Lib.hid hts
  have hrcap := hrr.caps.1
  obtain ⟨sA, sn, scap, rfl⟩ : ∃ A n c, sv = .slice A n c := by obtain ⟨vs, h1, _⟩ := hsv; obtain ⟨A, c, e, _⟩ := h1; exact ⟨A, _, c, e⟩
  clear hsv hrr hts hNe hl
  have m1 := mkPh rs.length (by omega)
  have m2 := mkTe N (by omega)
  have m3 := mkBo rs.length (by omega)
  have m4 := mkBo N (by omega)
  go_enter Try.func15, Try.ntmps15
  go_wp2_with fail
  refine calls_world (fun W => Below w.heap.size w W ∧ Blk W w.heap.size 25 #[.int .i64 c.P, .int .i64 c.H, .int .i64 c.C, .int .i64 c.Mn, .int .i64 c.Mx, .int .i64 c.Rho, .int .i64 c.Bd, .int .i64 c.Win, .int .i64 c.St, .slice sA sn scap, .slice RA rs.length rc]) ⟨by go_grown, Blk.new _ _ _ _ rfl⟩ fun W1 ⟨hb1, hq1⟩ => ?_
  refine (rmany_any _ c _ (HC.out.conf.below hb1) (by rw [← HNE.out]; omega)).mono ?_
  rintro e Wm ⟨rfl, hk⟩
  rw [← HNE.out]
  have HBm := Lib.hid (Btrans hb1 hk)
  have HQm := Lib.hid (hq1.below hk)
  have lQ := HQm.out.lt
  clear hb1 hq1 hk
  go_wp2_with fail
  apply cut6 (A := fun aP_ aT_ aA_ aC_ pb W => Below Wm.heap.size Wm W ∧ Blk W aP_ 71 (aP rs.length) ∧ Blk W aT_ 80 (aT N) ∧ Blk W aA_ 4 (aB rs.length) ∧ Blk W aC_ 4 (aB N) ∧ Blk W pb 86 #[.slice none 0 0, .int .i64 c.St, .slice (some ⟨aP_, 0, none⟩) rs.length rs.length, .slice (some ⟨aT_, 0, none⟩) N N, .slice (some ⟨aA_, 0, none⟩) rs.length rs.length, .slice (some ⟨aC_, 0, none⟩) N N] ∧ (Wm.heap.size ≤ aP_ ∧ Wm.heap.size ≤ aT_ ∧ Wm.heap.size ≤ aA_ ∧ Wm.heap.size ≤ aC_) ∧ (aP_ < pb ∧ aT_ < pb ∧ aA_ < pb ∧ aC_ < pb))
  case t =>
    intro REST
    have hbW := Below.refl Wm.heap.size Wm
    have dB : ∀ w', Blk w' w.heap.size 25 #[.int .i64 c.P, .int .i64 c.H, .int .i64 c.C, .int .i64 c.Mn, .int .i64 c.Mx, .int .i64 c.Rho, .int .i64 c.Bd, .int .i64 c.Win, .int .i64 c.St, .slice sA sn scap, .slice RA rs.length rc] → ∀ i, w'.cell? ⟨w.heap.size, i, none⟩ = (#[.int .i64 c.P, .int .i64 c.H, .int .i64 c.C, .int .i64 c.Mn, .int .i64 c.Mx, .int .i64 c.Rho, .int .i64 c.Bd, .int .i64 c.Win, .int .i64 c.St, .slice sA sn scap, .slice RA rs.length rc] : Array Value)[i]? := fun w' hb => hb.cells
    refine wp_region_held_drew (S := fun w' => Blk w' w.heap.size 25 #[.int .i64 c.P, .int .i64 c.H, .int .i64 c.C, .int .i64 c.Mn, .int .i64 c.Mx, .int .i64 c.Rho, .int .i64 c.Bd, .int .i64 c.Win, .int .i64 c.St, .slice sA sn scap, .slice RA rs.length rc]) (by kernel_rfl) (HQm.out.drwN 1) (fun hHeld => ?_)
    refine takeD 0 (some 9) (v := ?_) rfl rfl (by kernel_rfl) (by kernel_rfl) (by kernel_rfl) (fun _ _ _ h => h) (by rfl) ?_ (by assumption) ?_
    rotate_left
    · intro w hSw
      (try dsimp only at hSw)
      go_simp
      try with_reducible rfl
    try simp only [Act.put, List.setIfInBounds_toArray, List.set_cons_zero, List.set_cons_succ]
    refine takeD 1 (some 10) (v := ?_) rfl rfl (by kernel_rfl) (by kernel_rfl) (by kernel_rfl) (fun _ _ _ h => h) (by rfl) ?_ (by assumption) ?_
    rotate_left
    · intro w hSw
      (try dsimp only at hSw)
      go_simp
      try with_reducible rfl
    try simp only [Act.put, List.setIfInBounds_toArray, List.set_cons_zero, List.set_cons_succ]
    refine takeD 2 (some 11) (v := ?_) rfl rfl (by kernel_rfl) (by kernel_rfl) (by kernel_rfl) (fun _ _ _ h => h) (by rfl) ?_ (by assumption) ?_
    rotate_left
    · intro w hSw
      (try dsimp only at hSw)
      go_simp
      try with_reducible rfl
    try simp only [Act.put, List.setIfInBounds_toArray, List.set_cons_zero, List.set_cons_succ]
    refine takeD 3 (some 12) (v := ?_) rfl rfl (by kernel_rfl) (by kernel_rfl) (by kernel_rfl) (fun _ _ _ h => h) (by rfl) ?_ (by assumption) ?_
    rotate_left
    · intro w hSw
      (try dsimp only at hSw)
      go_simp
      try with_reducible rfl
    try simp only [Act.put, List.setIfInBounds_toArray, List.set_cons_zero, List.set_cons_succ]
    refine takeD 4 (some 13) (v := ?_) rfl rfl (by kernel_rfl) (by kernel_rfl) (by kernel_rfl) (fun _ _ _ h => h) (by rfl) ?_ (by assumption) ?_
    rotate_left
    · intro w hSw
      (try dsimp only at hSw)
      go_simp
      try with_reducible rfl
    try simp only [Act.put, List.setIfInBounds_toArray, List.set_cons_zero, List.set_cons_succ]
    refine takeD 6 (some 15) (v := ?_) rfl rfl (by kernel_rfl) (by kernel_rfl) (by kernel_rfl) (fun _ _ _ h => h) (by rfl) ?_ (by assumption) ?_
    rotate_left
    · intro w hSw
      (try dsimp only at hSw)
      go_simp
      try with_reducible rfl
    try simp only [Act.put, List.setIfInBounds_toArray, List.set_cons_zero, List.set_cons_succ]
    refine takeD 8 (some 17) (v := ?_) rfl rfl (by kernel_rfl) (by kernel_rfl) (by kernel_rfl) (fun _ _ _ h => h) (by rfl) ?_ (by assumption) ?_
    rotate_left
    · intro w hSw
      (try dsimp only at hSw)
      go_simp
      try with_reducible rfl
    try simp only [Act.put, List.setIfInBounds_toArray, List.set_cons_zero, List.set_cons_succ]
    refine takeD 9 (some 18) (v := ?_) rfl rfl (by kernel_rfl) (by kernel_rfl) (by kernel_rfl) (fun _ _ _ h => h) (by rfl) ?_ (by assumption) ?_
    rotate_left
    · intro w hSw
      (try dsimp only at hSw)
      go_simp
      try with_reducible rfl
    try simp only [Act.put, List.setIfInBounds_toArray, List.set_cons_zero, List.set_cons_succ]
    refine takeD 10 (some 19) (v := ?_) rfl rfl (by kernel_rfl) (by kernel_rfl) (by kernel_rfl) (fun _ _ _ h => h) (by rfl) ?_ (by assumption) ?_
    rotate_left
    · intro w hSw
      (try dsimp only at hSw)
      go_simp
      try with_reducible rfl
    try simp only [Act.put, List.setIfInBounds_toArray, List.set_cons_zero, List.set_cons_succ]
    refine takeD 12 (some 21) (v := ?_) rfl rfl (by kernel_rfl) (by kernel_rfl) (by kernel_rfl) (fun _ _ _ h => h) (by rfl) ?_ (by assumption) ?_
    rotate_left
    · intro w hSw
      (try dsimp only at hSw)
      go_simp
      try with_reducible rfl
    try simp only [Act.put, List.setIfInBounds_toArray, List.set_cons_zero, List.set_cons_succ]
    refine wpAnyH_ready (rs := [5, 7, 11, 13]) (by kernel_rfl) (by simp) ?_
    refine AllReadyH.cons rfl (fun K hK => ?_) (AllReadyH.cons rfl (fun K hK => ?_) (AllReadyH.cons rfl (fun K hK => ?_) (AllReadyH.cons rfl (fun K hK => ?_) AllReadyH.nil)))
    · rw [if_pos (by rfl)]
      go_simp
      refine nameV (fun V1 => Below Wm.heap.size Wm V1 ∧ Blk V1 Wm.heap.size 71 (aP rs.length)) ⟨(hbW.alloc hbW.size _).drew, (Blk.drw (Blk.new _ _ _ _ rfl))⟩ fun V1 ⟨hbW2, qKP⟩ => ?_
      have hzP : Wm.heap.size ≤ Wm.heap.size := Nat.le_refl _
      clear hbW
      have hbW := hbW2
      clear hbW2
      have KP := Lib.hid qKP
      clear qKP
      have hS := HQm.out.below hbW
      refine hK.out _ _ ?_ (fun hHeld2 => ?_)
      · clear hK; exact hS
      clear hK K hHeld hS
      have hHeld := hHeld2
      clear hHeld2
      try simp only [Act.put, List.setIfInBounds_toArray, List.set_cons_zero, List.set_cons_succ]
      refine wpAnyH_ready (rs := [7, 11, 13]) (by kernel_rfl) (by simp) ?_
      refine AllReadyH.cons rfl (fun K hK => ?_) (AllReadyH.cons rfl (fun K hK => ?_) (AllReadyH.cons rfl (fun K hK => ?_) AllReadyH.nil))
      · rw [if_pos (by rfl)]
        go_simp
        refine nameV (fun V2 => Below Wm.heap.size Wm V2 ∧ Blk V2 Wm.heap.size 71 (aP rs.length) ∧ Blk V2 V1.heap.size 80 (aT N)) ⟨hbW.alloc hbW.size _, (KP.out.al _), (Blk.new _ _ _ _ rfl)⟩ fun V2 ⟨hbW2, qKP, qKT⟩ => ?_
        clear KP
        have hzT : Wm.heap.size ≤ V1.heap.size := hbW.size
        clear hbW
        have hbW := hbW2
        clear hbW2
        have KP := Lib.hid qKP
        clear qKP
        have KT := Lib.hid qKT
        clear qKT
        have hS := HQm.out.below hbW
        refine hK.out _ _ ?_ (fun hHeld2 => ?_)
        · clear hK; exact hS
        clear hK K hHeld hS
        have hHeld := hHeld2
        clear hHeld2
        try simp only [Act.put, List.setIfInBounds_toArray, List.set_cons_zero, List.set_cons_succ]
        refine wpAnyH_ready (rs := [11, 13]) (by kernel_rfl) (by simp) ?_
        refine AllReadyH.cons rfl (fun K hK => ?_) (AllReadyH.cons rfl (fun K hK => ?_) AllReadyH.nil)
        · rw [if_pos (by rfl)]
          go_simp
          refine nameV (fun V3 => Below Wm.heap.size Wm V3 ∧ Blk V3 Wm.heap.size 71 (aP rs.length) ∧ Blk V3 V1.heap.size 80 (aT N) ∧ Blk V3 V2.heap.size 4 (aB rs.length)) ⟨hbW.alloc hbW.size _, (KP.out.al _), (KT.out.al _), (Blk.new _ _ _ _ rfl)⟩ fun V3 ⟨hbW2, qKP, qKT, qKA⟩ => ?_
          clear KP KT
          have hzA : Wm.heap.size ≤ V2.heap.size := hbW.size
          clear hbW
          have hbW := hbW2
          clear hbW2
          have KP := Lib.hid qKP
          clear qKP
          have KT := Lib.hid qKT
          clear qKT
          have KA := Lib.hid qKA
          clear qKA
          have hS := HQm.out.below hbW
          refine hK.out _ _ ?_ (fun hHeld2 => ?_)
          · clear hK; exact hS
          clear hK K hHeld hS
          have hHeld := hHeld2
          clear hHeld2
          try simp only [Act.put, List.setIfInBounds_toArray, List.set_cons_zero, List.set_cons_succ]
          refine wpAnyH_ready (rs := [13]) (by kernel_rfl) (by simp) ?_
          refine AllReadyH.cons rfl (fun K hK => ?_) AllReadyH.nil
          rw [if_pos (by rfl)]
          go_simp
          refine nameV (fun V4 => Below Wm.heap.size Wm V4 ∧ Blk V4 Wm.heap.size 71 (aP rs.length) ∧ Blk V4 V1.heap.size 80 (aT N) ∧ Blk V4 V2.heap.size 4 (aB rs.length) ∧ Blk V4 V3.heap.size 4 (aB N)) ⟨hbW.alloc hbW.size _, (KP.out.al _), (KT.out.al _), (KA.out.al _), (Blk.new _ _ _ _ rfl)⟩ fun V4 ⟨hbW2, qKP, qKT, qKA, qKC⟩ => ?_
          clear KP KT KA
          have hzC : Wm.heap.size ≤ V3.heap.size := hbW.size
          clear hbW
          have hbW := hbW2
          clear hbW2
          have KP := Lib.hid qKP
          clear qKP
          have KT := Lib.hid qKT
          clear qKT
          have KA := Lib.hid qKA
          clear qKA
          have KC := Lib.hid qKC
          clear qKC
          have hS := HQm.out.below hbW
          refine hK.out _ _ ?_ (fun hHeld2 => ?_)
          · clear hK; exact hS
          clear hK K hHeld hS
          have hHeld := hHeld2
          clear hHeld2
          try simp only [Act.put, List.setIfInBounds_toArray, List.set_cons_zero, List.set_cons_succ]
          refine takeD 14 (some 23) (v := ?_) rfl rfl (by kernel_rfl) (by kernel_rfl) (by kernel_rfl) (fun _ _ _ h => h) (by rfl) ?_ (by assumption) ?_
          rotate_left
          · intro w hSw
            (try dsimp only at hSw)
            go_simp
            try with_reducible rfl
          try simp only [Act.put, List.setIfInBounds_toArray, List.set_cons_zero, List.set_cons_succ]
          refine wpAnyH_ready (rs := [15]) (by kernel_rfl) (by simp) ?_
          refine AllReadyH.cons rfl (fun K hK => ?_) AllReadyH.nil
          rw [if_pos (by rfl)]
          go_simp
          refine nameV (fun V5 => Below Wm.heap.size Wm V5 ∧ Blk V5 Wm.heap.size 71 (aP rs.length) ∧ Blk V5 V1.heap.size 80 (aT N) ∧ Blk V5 V2.heap.size 4 (aB rs.length) ∧ Blk V5 V3.heap.size 4 (aB N) ∧ Blk V5 V4.heap.size 86 #[.slice none 0 0, .int .i64 c.St, .slice (some ⟨Wm.heap.size, 0, none⟩) rs.length rs.length, .slice (some ⟨V1.heap.size, 0, none⟩) N N, .slice (some ⟨V2.heap.size, 0, none⟩) rs.length rs.length, .slice (some ⟨V3.heap.size, 0, none⟩) N N]) ⟨hbW.alloc hbW.size _, KP.out.al _, KT.out.al _, KA.out.al _, KC.out.al _, Blk.new _ _ _ _ rfl⟩ fun V5 ⟨hbW2, qKP, qKT, qKA, qKC, qB⟩ => ?_
          have hlP := KP.out.lt
          have hlT := KT.out.lt
          have hlA := KA.out.lt
          have hlC := KC.out.lt
          clear KP KT KA KC hbW
          have hbW := hbW2
          clear hbW2
          have KP := Lib.hid qKP
          clear qKP
          have KT := Lib.hid qKT
          clear qKT
          have KA := Lib.hid qKA
          clear qKA
          have KC := Lib.hid qKC
          clear qKC
          have KB := Lib.hid qB
          clear qB
          have hS := HQm.out.below hbW
          refine hK.out _ _ ?_ (fun hHeld2 => ?_)
          · clear hK; exact hS
          clear hK K hHeld hS
          have hHeld := hHeld2
          clear hHeld2
          try simp only [Act.put, List.setIfInBounds_toArray, List.set_cons_zero, List.set_cons_succ]
          refine takeD 16 (some 4) (v := ?_) rfl rfl (by kernel_rfl) (by kernel_rfl) (by kernel_rfl) (fun _ _ _ h => h) (by rfl) ?_ (by assumption) ?_
          rotate_left
          · intro w hSw
            (try dsimp only at hSw)
            go_simp
            try with_reducible rfl
          try simp only [Act.put, List.setIfInBounds_toArray, List.set_cons_zero, List.set_cons_succ]
          refine wpAnyH_done (by kernel_rfl) ?_ _
          clear hHeld dB
          obtain ⟨aP_, haP_⟩ : ∃ x, x = Wm.heap.size := ⟨_, rfl⟩
          obtain ⟨aT_, haT_⟩ : ∃ x, x = V1.heap.size := ⟨_, rfl⟩
          obtain ⟨aA_, haA_⟩ : ∃ x, x = V2.heap.size := ⟨_, rfl⟩
          obtain ⟨aC_, haC_⟩ : ∃ x, x = V3.heap.size := ⟨_, rfl⟩
          obtain ⟨pb, hpb⟩ : ∃ x, x = V4.heap.size := ⟨_, rfl⟩
          rw [← haP_, ← haT_, ← haA_, ← haC_, ← hpb]
          exact REST aP_ aT_ aA_ aC_ pb V5 (by subst haP_ haT_ haA_ haC_ hpb; exact ⟨hbW, KP.out, KT.out, KA.out, KC.out, KB.out, ⟨hzP, hzT, hzA, hzC⟩, ⟨hlP, hlT, hlA, hlC⟩⟩)
        · rw [if_pos (by rfl)]
          go_simp
          refine nameV (fun V3 => Below Wm.heap.size Wm V3 ∧ Blk V3 Wm.heap.size 71 (aP rs.length) ∧ Blk V3 V1.heap.size 80 (aT N) ∧ Blk V3 V2.heap.size 4 (aB N)) ⟨hbW.alloc hbW.size _, (KP.out.al _), (KT.out.al _), (Blk.new _ _ _ _ rfl)⟩ fun V3 ⟨hbW2, qKP, qKT, qKC⟩ => ?_
          clear KP KT
          have hzC : Wm.heap.size ≤ V2.heap.size := hbW.size
          clear hbW
          have hbW := hbW2
          clear hbW2
          have KP := Lib.hid qKP
          clear qKP
          have KT := Lib.hid qKT
          clear qKT
          have KC := Lib.hid qKC
          clear qKC
          have hS := HQm.out.below hbW
          refine hK.out _ _ ?_ (fun hHeld2 => ?_)
          · clear hK; exact hS
          clear hK K hHeld hS
          have hHeld := hHeld2
          clear hHeld2
          try simp only [Act.put, List.setIfInBounds_toArray, List.set_cons_zero, List.set_cons_succ]
          refine wpAnyH_ready (rs := [11]) (by kernel_rfl) (by simp) ?_
          refine AllReadyH.cons rfl (fun K hK => ?_) AllReadyH.nil
          rw [if_pos (by rfl)]
          go_simp
          refine nameV (fun V4 => Below Wm.heap.size Wm V4 ∧ Blk V4 Wm.heap.size 71 (aP rs.length) ∧ Blk V4 V1.heap.size 80 (aT N) ∧ Blk V4 V3.heap.size 4 (aB rs.length) ∧ Blk V4 V2.heap.size 4 (aB N)) ⟨hbW.alloc hbW.size _, (KP.out.al _), (KT.out.al _), (Blk.new _ _ _ _ rfl), (KC.out.al _)⟩ fun V4 ⟨hbW2, qKP, qKT, qKA, qKC⟩ => ?_
          clear KP KT KC
          have hzA : Wm.heap.size ≤ V3.heap.size := hbW.size
          clear hbW
          have hbW := hbW2
          clear hbW2
          have KP := Lib.hid qKP
          clear qKP
          have KT := Lib.hid qKT
          clear qKT
          have KA := Lib.hid qKA
          clear qKA
          have KC := Lib.hid qKC
          clear qKC
          have hS := HQm.out.below hbW
          refine hK.out _ _ ?_ (fun hHeld2 => ?_)
          · clear hK; exact hS
          clear hK K hHeld hS
          have hHeld := hHeld2
          clear hHeld2
          try simp only [Act.put, List.setIfInBounds_toArray, List.set_cons_zero, List.set_cons_succ]
          refine takeD 14 (some 23) (v := ?_) rfl rfl (by kernel_rfl) (by kernel_rfl) (by kernel_rfl) (fun _ _ _ h => h) (by rfl) ?_ (by assumption) ?_
          rotate_left
          · intro w hSw
            (try dsimp only at hSw)
            go_simp
            try with_reducible rfl
          try simp only [Act.put, List.setIfInBounds_toArray, List.set_cons_zero, List.set_cons_succ]
          refine wpAnyH_ready (rs := [15]) (by kernel_rfl) (by simp) ?_
          refine AllReadyH.cons rfl (fun K hK => ?_) AllReadyH.nil
          rw [if_pos (by rfl)]
          go_simp
          refine nameV (fun V5 => Below Wm.heap.size Wm V5 ∧ Blk V5 Wm.heap.size 71 (aP rs.length) ∧ Blk V5 V1.heap.size 80 (aT N) ∧ Blk V5 V3.heap.size 4 (aB rs.length) ∧ Blk V5 V2.heap.size 4 (aB N) ∧ Blk V5 V4.heap.size 86 #[.slice none 0 0, .int .i64 c.St, .slice (some ⟨Wm.heap.size, 0, none⟩) rs.length rs.length, .slice (some ⟨V1.heap.size, 0, none⟩) N N, .slice (some ⟨V3.heap.size, 0, none⟩) rs.length rs.length, .slice (some ⟨V2.heap.size, 0, none⟩) N N]) ⟨hbW.alloc hbW.size _, KP.out.al _, KT.out.al _, KA.out.al _, KC.out.al _, Blk.new _ _ _ _ rfl⟩ fun V5 ⟨hbW2, qKP, qKT, qKA, qKC, qB⟩ => ?_
          have hlP := KP.out.lt
          have hlT := KT.out.lt
          have hlA := KA.out.lt
          have hlC := KC.out.lt
          clear KP KT KA KC hbW
          have hbW := hbW2
          clear hbW2
          have KP := Lib.hid qKP
          clear qKP
          have KT := Lib.hid qKT
          clear qKT
          have KA := Lib.hid qKA
          clear qKA
          have KC := Lib.hid qKC
          clear qKC
          have KB := Lib.hid qB
          clear qB
          have hS := HQm.out.below hbW
          refine hK.out _ _ ?_ (fun hHeld2 => ?_)
          · clear hK; exact hS
          clear hK K hHeld hS
          have hHeld := hHeld2
          clear hHeld2
          try simp only [Act.put, List.setIfInBounds_toArray, List.set_cons_zero, List.set_cons_succ]
          refine takeD 16 (some 4) (v := ?_) rfl rfl (by kernel_rfl) (by kernel_rfl) (by kernel_rfl) (fun _ _ _ h => h) (by rfl) ?_ (by assumption) ?_
          rotate_left
          · intro w hSw
            (try dsimp only at hSw)
            go_simp
            try with_reducible rfl
          try simp only [Act.put, List.setIfInBounds_toArray, List.set_cons_zero, List.set_cons_succ]
          refine wpAnyH_done (by kernel_rfl) ?_ _
          clear hHeld dB
          obtain ⟨aP_, haP_⟩ : ∃ x, x = Wm.heap.size := ⟨_, rfl⟩
          obtain ⟨aT_, haT_⟩ : ∃ x, x = V1.heap.size := ⟨_, rfl⟩
          obtain ⟨aA_, haA_⟩ : ∃ x, x = V3.heap.size := ⟨_, rfl⟩
          obtain ⟨aC_, haC_⟩ : ∃ x, x = V2.heap.size := ⟨_, rfl⟩
          obtain ⟨pb, hpb⟩ : ∃ x, x = V4.heap.size := ⟨_, rfl⟩
          rw [← haP_, ← haT_, ← haA_, ← haC_, ← hpb]
          exact REST aP_ aT_ aA_ aC_ pb V5 (by subst haP_ haT_ haA_ haC_ hpb; exact ⟨hbW, KP.out, KT.out, KA.out, KC.out, KB.out, ⟨hzP, hzT, hzA, hzC⟩, ⟨hlP, hlT, hlA, hlC⟩⟩)
      · rw [if_pos (by rfl)]
        go_simp
        refine nameV (fun V2 => Below Wm.heap.size Wm V2 ∧ Blk V2 Wm.heap.size 71 (aP rs.length) ∧ Blk V2 V1.heap.size 4 (aB rs.length)) ⟨hbW.alloc hbW.size _, (KP.out.al _), (Blk.new _ _ _ _ rfl)⟩ fun V2 ⟨hbW2, qKP, qKA⟩ => ?_
        clear KP
        have hzA : Wm.heap.size ≤ V1.heap.size := hbW.size
        clear hbW
        have hbW := hbW2
        clear hbW2
        have KP := Lib.hid qKP
        clear qKP
        have KA := Lib.hid qKA
        clear qKA
        have hS := HQm.out.below hbW
        refine hK.out _ _ ?_ (fun hHeld2 => ?_)
        · clear hK; exact hS
        clear hK K hHeld hS
        have hHeld := hHeld2
        clear hHeld2
        try simp only [Act.put, List.setIfInBounds_toArray, List.set_cons_zero, List.set_cons_succ]
        refine wpAnyH_ready (rs := [7, 13]) (by kernel_rfl) (by simp) ?_
        refine AllReadyH.cons rfl (fun K hK => ?_) (AllReadyH.cons rfl (fun K hK => ?_) AllReadyH.nil)
        · rw [if_pos (by rfl)]
          go_simp
          refine nameV (fun V3 => Below Wm.heap.size Wm V3 ∧ Blk V3 Wm.heap.size 71 (aP rs.length) ∧ Blk V3 V2.heap.size 80 (aT N) ∧ Blk V3 V1.heap.size 4 (aB rs.length)) ⟨hbW.alloc hbW.size _, (KP.out.al _), (Blk.new _ _ _ _ rfl), (KA.out.al _)⟩ fun V3 ⟨hbW2, qKP, qKT, qKA⟩ => ?_
          clear KP KA
          have hzT : Wm.heap.size ≤ V2.heap.size := hbW.size
          clear hbW
          have hbW := hbW2
          clear hbW2
          have KP := Lib.hid qKP
          clear qKP
          have KT := Lib.hid qKT
          clear qKT
          have KA := Lib.hid qKA
          clear qKA
          have hS := HQm.out.below hbW
          refine hK.out _ _ ?_ (fun hHeld2 => ?_)
          · clear hK; exact hS
          clear hK K hHeld hS
          have hHeld := hHeld2
          clear hHeld2
          try simp only [Act.put, List.setIfInBounds_toArray, List.set_cons_zero, List.set_cons_succ]
          refine wpAnyH_ready (rs := [13]) (by kernel_rfl) (by simp) ?_
          refine AllReadyH.cons rfl (fun K hK => ?_) AllReadyH.nil
          rw [if_pos (by rfl)]
          go_simp
          refine nameV (fun V4 => Below Wm.heap.size Wm V4 ∧ Blk V4 Wm.heap.size 71 (aP rs.length) ∧ Blk V4 V2.heap.size 80 (aT N) ∧ Blk V4 V1.heap.size 4 (aB rs.length) ∧ Blk V4 V3.heap.size 4 (aB N)) ⟨hbW.alloc hbW.size _, (KP.out.al _), (KT.out.al _), (KA.out.al _), (Blk.new _ _ _ _ rfl)⟩ fun V4 ⟨hbW2, qKP, qKT, qKA, qKC⟩ => ?_
          clear KP KT KA
          have hzC : Wm.heap.size ≤ V3.heap.size := hbW.size
          clear hbW
          have hbW := hbW2
          clear hbW2
          have KP := Lib.hid qKP
          clear qKP
          have KT := Lib.hid qKT
          clear qKT
          have KA := Lib.hid qKA
          clear qKA
          have KC := Lib.hid qKC
          clear qKC
          have hS := HQm.out.below hbW
          refine hK.out _ _ ?_ (fun hHeld2 => ?_)
          · clear hK; exact hS
          clear hK K hHeld hS
          have hHeld := hHeld2
          clear hHeld2
          try simp only [Act.put, List.setIfInBounds_toArray, List.set_cons_zero, List.set_cons_succ]
          refine takeD 14 (some 23) (v := ?_) rfl rfl (by kernel_rfl) (by kernel_rfl) (by kernel_rfl) (fun _ _ _ h => h) (by rfl) ?_ (by assumption) ?_
          rotate_left
          · intro w hSw
            (try dsimp only at hSw)
            go_simp
            try with_reducible rfl
          try simp only [Act.put, List.setIfInBounds_toArray, List.set_cons_zero, List.set_cons_succ]
          refine wpAnyH_ready (rs := [15]) (by kernel_rfl) (by simp) ?_
          refine AllReadyH.cons rfl (fun K hK => ?_) AllReadyH.nil
          rw [if_pos (by rfl)]
          go_simp
          refine nameV (fun V5 => Below Wm.heap.size Wm V5 ∧ Blk V5 Wm.heap.size 71 (aP rs.length) ∧ Blk V5 V2.heap.size 80 (aT N) ∧ Blk V5 V1.heap.size 4 (aB rs.length) ∧ Blk V5 V3.heap.size 4 (aB N) ∧ Blk V5 V4.heap.size 86 #[.slice none 0 0, .int .i64 c.St, .slice (some ⟨Wm.heap.size, 0, none⟩) rs.length rs.length, .slice (some ⟨V2.heap.size, 0, none⟩) N N, .slice (some ⟨V1.heap.size, 0, none⟩) rs.length rs.length, .slice (some ⟨V3.heap.size, 0, none⟩) N N]) ⟨hbW.alloc hbW.size _, KP.out.al _, KT.out.al _, KA.out.al _, KC.out.al _, Blk.new _ _ _ _ rfl⟩ fun V5 ⟨hbW2, qKP, qKT, qKA, qKC, qB⟩ => ?_
          have hlP := KP.out.lt
          have hlT := KT.out.lt
          have hlA := KA.out.lt
          have hlC := KC.out.lt
          clear KP KT KA KC hbW
          have hbW := hbW2
          clear hbW2
          have KP := Lib.hid qKP
          clear qKP
          have KT := Lib.hid qKT
          clear qKT
          have KA := Lib.hid qKA
          clear qKA
          have KC := Lib.hid qKC
          clear qKC
          have KB := Lib.hid qB
          clear qB
          have hS := HQm.out.below hbW
          refine hK.out _ _ ?_ (fun hHeld2 => ?_)
          · clear hK; exact hS
          clear hK K hHeld hS
          have hHeld := hHeld2
          clear hHeld2
          try simp only [Act.put, List.setIfInBounds_toArray, List.set_cons_zero, List.set_cons_succ]
          refine takeD 16 (some 4) (v := ?_) rfl rfl (by kernel_rfl) (by kernel_rfl) (by kernel_rfl) (fun _ _ _ h => h) (by rfl) ?_ (by assumption) ?_
          rotate_left
          · intro w hSw
            (try dsimp only at hSw)
            go_simp
            try with_reducible rfl
          try simp only [Act.put, List.setIfInBounds_toArray, List.set_cons_zero, List.set_cons_succ]
          refine wpAnyH_done (by kernel_rfl) ?_ _
          clear hHeld dB
          obtain ⟨aP_, haP_⟩ : ∃ x, x = Wm.heap.size := ⟨_, rfl⟩
          obtain ⟨aT_, haT_⟩ : ∃ x, x = V2.heap.size := ⟨_, rfl⟩
          obtain ⟨aA_, haA_⟩ : ∃ x, x = V1.heap.size := ⟨_, rfl⟩
          obtain ⟨aC_, haC_⟩ : ∃ x, x = V3.heap.size := ⟨_, rfl⟩
          obtain ⟨pb, hpb⟩ : ∃ x, x = V4.heap.size := ⟨_, rfl⟩
          rw [← haP_, ← haT_, ← haA_, ← haC_, ← hpb]
          exact REST aP_ aT_ aA_ aC_ pb V5 (by subst haP_ haT_ haA_ haC_ hpb; exact ⟨hbW, KP.out, KT.out, KA.out, KC.out, KB.out, ⟨hzP, hzT, hzA, hzC⟩, ⟨hlP, hlT, hlA, hlC⟩⟩)
        · rw [if_pos (by rfl)]
          go_simp
          refine nameV (fun V3 => Below Wm.heap.size Wm V3 ∧ Blk V3 Wm.heap.size 71 (aP rs.length) ∧ Blk V3 V1.heap.size 4 (aB rs.length) ∧ Blk V3 V2.heap.size 4 (aB N)) ⟨hbW.alloc hbW.size _, (KP.out.al _), (KA.out.al _), (Blk.new _ _ _ _ rfl)⟩ fun V3 ⟨hbW2, qKP, qKA, qKC⟩ => ?_
          clear KP KA
          have hzC : Wm.heap.size ≤ V2.heap.size := hbW.size
          clear hbW
          have hbW := hbW2
          clear hbW2
          have KP := Lib.hid qKP
          clear qKP
          have KA := Lib.hid qKA
          clear qKA
          have KC := Lib.hid qKC
          clear qKC
          have hS := HQm.out.below hbW
          refine hK.out _ _ ?_ (fun hHeld2 => ?_)
          · clear hK; exact hS
          clear hK K hHeld hS
          have hHeld := hHeld2
          clear hHeld2
          try simp only [Act.put, List.setIfInBounds_toArray, List.set_cons_zero, List.set_cons_succ]
          refine wpAnyH_ready (rs := [7]) (by kernel_rfl) (by simp) ?_
          refine AllReadyH.cons rfl (fun K hK => ?_) AllReadyH.nil
          rw [if_pos (by rfl)]
          go_simp
          refine nameV (fun V4 => Below Wm.heap.size Wm V4 ∧ Blk V4 Wm.heap.size 71 (aP rs.length) ∧ Blk V4 V3.heap.size 80 (aT N) ∧ Blk V4 V1.heap.size 4 (aB rs.length) ∧ Blk V4 V2.heap.size 4 (aB N)) ⟨hbW.alloc hbW.size _, (KP.out.al _), (Blk.new _ _ _ _ rfl), (KA.out.al _), (KC.out.al _)⟩ fun V4 ⟨hbW2, qKP, qKT, qKA, qKC⟩ => ?_
          clear KP KA KC
          have hzT : Wm.heap.size ≤ V3.heap.size := hbW.size
          clear hbW
          have hbW := hbW2
          clear hbW2
          have KP := Lib.hid qKP
          clear qKP
          have KT := Lib.hid qKT
          clear qKT
          have KA := Lib.hid qKA
          clear qKA
          have KC := Lib.hid qKC
          clear qKC
          have hS := HQm.out.below hbW
          refine hK.out _ _ ?_ (fun hHeld2 => ?_)
          · clear hK; exact hS
          clear hK K hHeld hS
          have hHeld := hHeld2
          clear hHeld2
          try simp only [Act.put, List.setIfInBounds_toArray, List.set_cons_zero, List.set_cons_succ]
          refine takeD 14 (some 23) (v := ?_) rfl rfl (by kernel_rfl) (by kernel_rfl) (by kernel_rfl) (fun _ _ _ h => h) (by rfl) ?_ (by assumption) ?_
          rotate_left
          · intro w hSw
            (try dsimp only at hSw)
            go_simp
            try with_reducible rfl
          try simp only [Act.put, List.setIfInBounds_toArray, List.set_cons_zero, List.set_cons_succ]
          refine wpAnyH_ready (rs := [15]) (by kernel_rfl) (by simp) ?_
          refine AllReadyH.cons rfl (fun K hK => ?_) AllReadyH.nil
          rw [if_pos (by rfl)]
          go_simp
          refine nameV (fun V5 => Below Wm.heap.size Wm V5 ∧ Blk V5 Wm.heap.size 71 (aP rs.length) ∧ Blk V5 V3.heap.size 80 (aT N) ∧ Blk V5 V1.heap.size 4 (aB rs.length) ∧ Blk V5 V2.heap.size 4 (aB N) ∧ Blk V5 V4.heap.size 86 #[.slice none 0 0, .int .i64 c.St, .slice (some ⟨Wm.heap.size, 0, none⟩) rs.length rs.length, .slice (some ⟨V3.heap.size, 0, none⟩) N N, .slice (some ⟨V1.heap.size, 0, none⟩) rs.length rs.length, .slice (some ⟨V2.heap.size, 0, none⟩) N N]) ⟨hbW.alloc hbW.size _, KP.out.al _, KT.out.al _, KA.out.al _, KC.out.al _, Blk.new _ _ _ _ rfl⟩ fun V5 ⟨hbW2, qKP, qKT, qKA, qKC, qB⟩ => ?_
          have hlP := KP.out.lt
          have hlT := KT.out.lt
          have hlA := KA.out.lt
          have hlC := KC.out.lt
          clear KP KT KA KC hbW
          have hbW := hbW2
          clear hbW2
          have KP := Lib.hid qKP
          clear qKP
          have KT := Lib.hid qKT
          clear qKT
          have KA := Lib.hid qKA
          clear qKA
          have KC := Lib.hid qKC
          clear qKC
          have KB := Lib.hid qB
          clear qB
          have hS := HQm.out.below hbW
          refine hK.out _ _ ?_ (fun hHeld2 => ?_)
          · clear hK; exact hS
          clear hK K hHeld hS
          have hHeld := hHeld2
          clear hHeld2
          try simp only [Act.put, List.setIfInBounds_toArray, List.set_cons_zero, List.set_cons_succ]
          refine takeD 16 (some 4) (v := ?_) rfl rfl (by kernel_rfl) (by kernel_rfl) (by kernel_rfl) (fun _ _ _ h => h) (by rfl) ?_ (by assumption) ?_
          rotate_left
          · intro w hSw
            (try dsimp only at hSw)
            go_simp
            try with_reducible rfl
          try simp only [Act.put, List.setIfInBounds_toArray, List.set_cons_zero, List.set_cons_succ]
          refine wpAnyH_done (by kernel_rfl) ?_ _
          clear hHeld dB
          obtain ⟨aP_, haP_⟩ : ∃ x, x = Wm.heap.size := ⟨_, rfl⟩
          obtain ⟨aT_, haT_⟩ : ∃ x, x = V3.heap.size := ⟨_, rfl⟩
          obtain ⟨aA_, haA_⟩ : ∃ x, x = V1.heap.size := ⟨_, rfl⟩
          obtain ⟨aC_, haC_⟩ : ∃ x, x = V2.heap.size := ⟨_, rfl⟩
          obtain ⟨pb, hpb⟩ : ∃ x, x = V4.heap.size := ⟨_, rfl⟩
          rw [← haP_, ← haT_, ← haA_, ← haC_, ← hpb]
          exact REST aP_ aT_ aA_ aC_ pb V5 (by subst haP_ haT_ haA_ haC_ hpb; exact ⟨hbW, KP.out, KT.out, KA.out, KC.out, KB.out, ⟨hzP, hzT, hzA, hzC⟩, ⟨hlP, hlT, hlA, hlC⟩⟩)
      · rw [if_pos (by rfl)]
        go_simp
        refine nameV (fun V2 => Below Wm.heap.size Wm V2 ∧ Blk V2 Wm.heap.size 71 (aP rs.length) ∧ Blk V2 V1.heap.size 4 (aB N)) ⟨hbW.alloc hbW.size _, (KP.out.al _), (Blk.new _ _ _ _ rfl)⟩ fun V2 ⟨hbW2, qKP, qKC⟩ => ?_
        clear KP
        have hzC : Wm.heap.size ≤ V1.heap.size := hbW.size
        clear hbW
        have hbW := hbW2
        clear hbW2
        have KP := Lib.hid qKP
        clear qKP
        have KC := Lib.hid qKC
        clear qKC
        have hS := HQm.out.below hbW
        refine hK.out _ _ ?_ (fun hHeld2 => ?_)
        · clear hK; exact hS
        clear hK K hHeld hS
        have hHeld := hHeld2
        clear hHeld2
        try simp only [Act.put, List.setIfInBounds_toArray, List.set_cons_zero, List.set_cons_succ]
        refine wpAnyH_ready (rs := [7, 11]) (by kernel_rfl) (by simp) ?_
        refine AllReadyH.cons rfl (fun K hK => ?_) (AllReadyH.cons rfl (fun K hK => ?_) AllReadyH.nil)
        · rw [if_pos (by rfl)]
          go_simp
          refine nameV (fun V3 => Below Wm.heap.size Wm V3 ∧ Blk V3 Wm.heap.size 71 (aP rs.length) ∧ Blk V3 V2.heap.size 80 (aT N) ∧ Blk V3 V1.heap.size 4 (aB N)) ⟨hbW.alloc hbW.size _, (KP.out.al _), (Blk.new _ _ _ _ rfl), (KC.out.al _)⟩ fun V3 ⟨hbW2, qKP, qKT, qKC⟩ => ?_
          clear KP KC
          have hzT : Wm.heap.size ≤ V2.heap.size := hbW.size
          clear hbW
          have hbW := hbW2
          clear hbW2
          have KP := Lib.hid qKP
          clear qKP
          have KT := Lib.hid qKT
          clear qKT
          have KC := Lib.hid qKC
          clear qKC
          have hS := HQm.out.below hbW
          refine hK.out _ _ ?_ (fun hHeld2 => ?_)
          · clear hK; exact hS
          clear hK K hHeld hS
          have hHeld := hHeld2
          clear hHeld2
          try simp only [Act.put, List.setIfInBounds_toArray, List.set_cons_zero, List.set_cons_succ]
          refine wpAnyH_ready (rs := [11]) (by kernel_rfl) (by simp) ?_
          refine AllReadyH.cons rfl (fun K hK => ?_) AllReadyH.nil
          rw [if_pos (by rfl)]
          go_simp
          refine nameV (fun V4 => Below Wm.heap.size Wm V4 ∧ Blk V4 Wm.heap.size 71 (aP rs.length) ∧ Blk V4 V2.heap.size 80 (aT N) ∧ Blk V4 V3.heap.size 4 (aB rs.length) ∧ Blk V4 V1.heap.size 4 (aB N)) ⟨hbW.alloc hbW.size _, (KP.out.al _), (KT.out.al _), (Blk.new _ _ _ _ rfl), (KC.out.al _)⟩ fun V4 ⟨hbW2, qKP, qKT, qKA, qKC⟩ => ?_
          clear KP KT KC
          have hzA : Wm.heap.size ≤ V3.heap.size := hbW.size
          clear hbW
          have hbW := hbW2
          clear hbW2
          have KP := Lib.hid qKP
          clear qKP
          have KT := Lib.hid qKT
          clear qKT
          have KA := Lib.hid qKA
          clear qKA
          have KC := Lib.hid qKC
          clear qKC
          have hS := HQm.out.below hbW
          refine hK.out _ _ ?_ (fun hHeld2 => ?_)
          · clear hK; exact hS
          clear hK K hHeld hS
          have hHeld := hHeld2
          clear hHeld2
          try simp only [Act.put, List.setIfInBounds_toArray, List.set_cons_zero, List.set_cons_succ]
          refine takeD 14 (some 23) (v := ?_) rfl rfl (by kernel_rfl) (by kernel_rfl) (by kernel_rfl) (fun _ _ _ h => h) (by rfl) ?_ (by assumption) ?_
          rotate_left
          · intro w hSw
            (try dsimp only at hSw)
            go_simp
            try with_reducible rfl
          try simp only [Act.put, List.setIfInBounds_toArray, List.set_cons_zero, List.set_cons_succ]
          refine wpAnyH_ready (rs := [15]) (by kernel_rfl) (by simp) ?_
          refine AllReadyH.cons rfl (fun K hK => ?_) AllReadyH.nil
          rw [if_pos (by rfl)]
          go_simp
          refine nameV (fun V5 => Below Wm.heap.size Wm V5 ∧ Blk V5 Wm.heap.size 71 (aP rs.length) ∧ Blk V5 V2.heap.size 80 (aT N) ∧ Blk V5 V3.heap.size 4 (aB rs.length) ∧ Blk V5 V1.heap.size 4 (aB N) ∧ Blk V5 V4.heap.size 86 #[.slice none 0 0, .int .i64 c.St, .slice (some ⟨Wm.heap.size, 0, none⟩) rs.length rs.length, .slice (some ⟨V2.heap.size, 0, none⟩) N N, .slice (some ⟨V3.heap.size, 0, none⟩) rs.length rs.length, .slice (some ⟨V1.heap.size, 0, none⟩) N N]) ⟨hbW.alloc hbW.size _, KP.out.al _, KT.out.al _, KA.out.al _, KC.out.al _, Blk.new _ _ _ _ rfl⟩ fun V5 ⟨hbW2, qKP, qKT, qKA, qKC, qB⟩ => ?_
          have hlP := KP.out.lt
          have hlT := KT.out.lt
          have hlA := KA.out.lt
          have hlC := KC.out.lt
          clear KP KT KA KC hbW
          have hbW := hbW2
          clear hbW2
          have KP := Lib.hid qKP
          clear qKP
          have KT := Lib.hid qKT
          clear qKT
          have KA := Lib.hid qKA
          clear qKA
          have KC := Lib.hid qKC
          clear qKC
          have KB := Lib.hid qB
          clear qB
          have hS := HQm.out.below hbW
          refine hK.out _ _ ?_ (fun hHeld2 => ?_)
          · clear hK; exact hS
          clear hK K hHeld hS
          have hHeld := hHeld2
          clear hHeld2
          try simp only [Act.put, List.setIfInBounds_toArray, List.set_cons_zero, List.set_cons_succ]
          refine takeD 16 (some 4) (v := ?_) rfl rfl (by kernel_rfl) (by kernel_rfl) (by kernel_rfl) (fun _ _ _ h => h) (by rfl) ?_ (by assumption) ?_
          rotate_left
          · intro w hSw
            (try dsimp only at hSw)
            go_simp
            try with_reducible rfl
          try simp only [Act.put, List.setIfInBounds_toArray, List.set_cons_zero, List.set_cons_succ]
          refine wpAnyH_done (by kernel_rfl) ?_ _
          clear hHeld dB
          obtain ⟨aP_, haP_⟩ : ∃ x, x = Wm.heap.size := ⟨_, rfl⟩
          obtain ⟨aT_, haT_⟩ : ∃ x, x = V2.heap.size := ⟨_, rfl⟩
          obtain ⟨aA_, haA_⟩ : ∃ x, x = V3.heap.size := ⟨_, rfl⟩
          obtain ⟨aC_, haC_⟩ : ∃ x, x = V1.heap.size := ⟨_, rfl⟩
          obtain ⟨pb, hpb⟩ : ∃ x, x = V4.heap.size := ⟨_, rfl⟩
          rw [← haP_, ← haT_, ← haA_, ← haC_, ← hpb]
          exact REST aP_ aT_ aA_ aC_ pb V5 (by subst haP_ haT_ haA_ haC_ hpb; exact ⟨hbW, KP.out, KT.out, KA.out, KC.out, KB.out, ⟨hzP, hzT, hzA, hzC⟩, ⟨hlP, hlT, hlA, hlC⟩⟩)
        · rw [if_pos (by rfl)]
          go_simp
          refine nameV (fun V3 => Below Wm.heap.size Wm V3 ∧ Blk V3 Wm.heap.size 71 (aP rs.length) ∧ Blk V3 V2.heap.size 4 (aB rs.length) ∧ Blk V3 V1.heap.size 4 (aB N)) ⟨hbW.alloc hbW.size _, (KP.out.al _), (Blk.new _ _ _ _ rfl), (KC.out.al _)⟩ fun V3 ⟨hbW2, qKP, qKA, qKC⟩ => ?_
          clear KP KC
          have hzA : Wm.heap.size ≤ V2.heap.size := hbW.size
          clear hbW
          have hbW := hbW2
          clear hbW2
          have KP := Lib.hid qKP
          clear qKP
          have KA := Lib.hid qKA
          clear qKA
          have KC := Lib.hid qKC
          clear qKC
          have hS := HQm.out.below hbW
          refine hK.out _ _ ?_ (fun hHeld2 => ?_)
          · clear hK; exact hS
          clear hK K hHeld hS
          have hHeld := hHeld2
          clear hHeld2
          try simp only [Act.put, List.setIfInBounds_toArray, List.set_cons_zero, List.set_cons_succ]
          refine wpAnyH_ready (rs := [7]) (by kernel_rfl) (by simp) ?_
          refine AllReadyH.cons rfl (fun K hK => ?_) AllReadyH.nil
          rw [if_pos (by rfl)]
          go_simp
          refine nameV (fun V4 => Below Wm.heap.size Wm V4 ∧ Blk V4 Wm.heap.size 71 (aP rs.length) ∧ Blk V4 V3.heap.size 80 (aT N) ∧ Blk V4 V2.heap.size 4 (aB rs.length) ∧ Blk V4 V1.heap.size 4 (aB N)) ⟨hbW.alloc hbW.size _, (KP.out.al _), (Blk.new _ _ _ _ rfl), (KA.out.al _), (KC.out.al _)⟩ fun V4 ⟨hbW2, qKP, qKT, qKA, qKC⟩ => ?_
          clear KP KA KC
          have hzT : Wm.heap.size ≤ V3.heap.size := hbW.size
          clear hbW
          have hbW := hbW2
          clear hbW2
          have KP := Lib.hid qKP
          clear qKP
          have KT := Lib.hid qKT
          clear qKT
          have KA := Lib.hid qKA
          clear qKA
          have KC := Lib.hid qKC
          clear qKC
          have hS := HQm.out.below hbW
          refine hK.out _ _ ?_ (fun hHeld2 => ?_)
          · clear hK; exact hS
          clear hK K hHeld hS
          have hHeld := hHeld2
          clear hHeld2
          try simp only [Act.put, List.setIfInBounds_toArray, List.set_cons_zero, List.set_cons_succ]
          refine takeD 14 (some 23) (v := ?_) rfl rfl (by kernel_rfl) (by kernel_rfl) (by kernel_rfl) (fun _ _ _ h => h) (by rfl) ?_ (by assumption) ?_
          rotate_left
          · intro w hSw
            (try dsimp only at hSw)
            go_simp
            try with_reducible rfl
          try simp only [Act.put, List.setIfInBounds_toArray, List.set_cons_zero, List.set_cons_succ]
          refine wpAnyH_ready (rs := [15]) (by kernel_rfl) (by simp) ?_
          refine AllReadyH.cons rfl (fun K hK => ?_) AllReadyH.nil
          rw [if_pos (by rfl)]
          go_simp
          refine nameV (fun V5 => Below Wm.heap.size Wm V5 ∧ Blk V5 Wm.heap.size 71 (aP rs.length) ∧ Blk V5 V3.heap.size 80 (aT N) ∧ Blk V5 V2.heap.size 4 (aB rs.length) ∧ Blk V5 V1.heap.size 4 (aB N) ∧ Blk V5 V4.heap.size 86 #[.slice none 0 0, .int .i64 c.St, .slice (some ⟨Wm.heap.size, 0, none⟩) rs.length rs.length, .slice (some ⟨V3.heap.size, 0, none⟩) N N, .slice (some ⟨V2.heap.size, 0, none⟩) rs.length rs.length, .slice (some ⟨V1.heap.size, 0, none⟩) N N]) ⟨hbW.alloc hbW.size _, KP.out.al _, KT.out.al _, KA.out.al _, KC.out.al _, Blk.new _ _ _ _ rfl⟩ fun V5 ⟨hbW2, qKP, qKT, qKA, qKC, qB⟩ => ?_
          have hlP := KP.out.lt
          have hlT := KT.out.lt
          have hlA := KA.out.lt
          have hlC := KC.out.lt
          clear KP KT KA KC hbW
          have hbW := hbW2
          clear hbW2
          have KP := Lib.hid qKP
          clear qKP
          have KT := Lib.hid qKT
          clear qKT
          have KA := Lib.hid qKA
          clear qKA
          have KC := Lib.hid qKC
          clear qKC
          have KB := Lib.hid qB
          clear qB
          have hS := HQm.out.below hbW
          refine hK.out _ _ ?_ (fun hHeld2 => ?_)
          · clear hK; exact hS
          clear hK K hHeld hS
          have hHeld := hHeld2
          clear hHeld2
          try simp only [Act.put, List.setIfInBounds_toArray, List.set_cons_zero, List.set_cons_succ]
          refine takeD 16 (some 4) (v := ?_) rfl rfl (by kernel_rfl) (by kernel_rfl) (by kernel_rfl) (fun _ _ _ h => h) (by rfl) ?_ (by assumption) ?_
          rotate_left
          · intro w hSw
            (try dsimp only at hSw)
            go_simp
            try with_reducible rfl
          try simp only [Act.put, List.setIfInBounds_toArray, List.set_cons_zero, List.set_cons_succ]
          refine wpAnyH_done (by kernel_rfl) ?_ _
          clear hHeld dB
          obtain ⟨aP_, haP_⟩ : ∃ x, x = Wm.heap.size := ⟨_, rfl⟩
          obtain ⟨aT_, haT_⟩ : ∃ x, x = V3.heap.size := ⟨_, rfl⟩
          obtain ⟨aA_, haA_⟩ : ∃ x, x = V2.heap.size := ⟨_, rfl⟩
          obtain ⟨aC_, haC_⟩ : ∃ x, x = V1.heap.size := ⟨_, rfl⟩
          obtain ⟨pb, hpb⟩ : ∃ x, x = V4.heap.size := ⟨_, rfl⟩
          rw [← haP_, ← haT_, ← haA_, ← haC_, ← hpb]
          exact REST aP_ aT_ aA_ aC_ pb V5 (by subst haP_ haT_ haA_ haC_ hpb; exact ⟨hbW, KP.out, KT.out, KA.out, KC.out, KB.out, ⟨hzP, hzT, hzA, hzC⟩, ⟨hlP, hlT, hlA, hlC⟩⟩)
    · rw [if_pos (by rfl)]
      go_simp
      refine nameV (fun V1 => Below Wm.heap.size Wm V1 ∧ Blk V1 Wm.heap.size 80 (aT N)) ⟨(hbW.alloc hbW.size _).drew, (Blk.drw (Blk.new _ _ _ _ rfl))⟩ fun V1 ⟨hbW2, qKT⟩ => ?_
      have hzT : Wm.heap.size ≤ Wm.heap.size := Nat.le_refl _
      clear hbW
      have hbW := hbW2
      clear hbW2
      have KT := Lib.hid qKT
      clear qKT
      have hS := HQm.out.below hbW
      refine hK.out _ _ ?_ (fun hHeld2 => ?_)
      · clear hK; exact hS
      clear hK K hHeld hS
      have hHeld := hHeld2
      clear hHeld2
      try simp only [Act.put, List.setIfInBounds_toArray, List.set_cons_zero, List.set_cons_succ]
      refine wpAnyH_ready (rs := [5, 11, 13]) (by kernel_rfl) (by simp) ?_
      refine AllReadyH.cons rfl (fun K hK => ?_) (AllReadyH.cons rfl (fun K hK => ?_) (AllReadyH.cons rfl (fun K hK => ?_) AllReadyH.nil))
      · rw [if_pos (by rfl)]
        go_simp
        refine nameV (fun V2 => Below Wm.heap.size Wm V2 ∧ Blk V2 V1.heap.size 71 (aP rs.length) ∧ Blk V2 Wm.heap.size 80 (aT N)) ⟨hbW.alloc hbW.size _, (Blk.new _ _ _ _ rfl), (KT.out.al _)⟩ fun V2 ⟨hbW2, qKP, qKT⟩ => ?_
        clear KT
        have hzP : Wm.heap.size ≤ V1.heap.size := hbW.size
        clear hbW
        have hbW := hbW2
        clear hbW2
        have KP := Lib.hid qKP
        clear qKP
        have KT := Lib.hid qKT
        clear qKT
        have hS := HQm.out.below hbW
        refine hK.out _ _ ?_ (fun hHeld2 => ?_)
        · clear hK; exact hS
        clear hK K hHeld hS
        have hHeld := hHeld2
        clear hHeld2
        try simp only [Act.put, List.setIfInBounds_toArray, List.set_cons_zero, List.set_cons_succ]
        refine wpAnyH_ready (rs := [11, 13]) (by kernel_rfl) (by simp) ?_
        refine AllReadyH.cons rfl (fun K hK => ?_) (AllReadyH.cons rfl (fun K hK => ?_) AllReadyH.nil)
        · rw [if_pos (by rfl)]
          go_simp
          refine nameV (fun V3 => Below Wm.heap.size Wm V3 ∧ Blk V3 V1.heap.size 71 (aP rs.length) ∧ Blk V3 Wm.heap.size 80 (aT N) ∧ Blk V3 V2.heap.size 4 (aB rs.length)) ⟨hbW.alloc hbW.size _, (KP.out.al _), (KT.out.al _), (Blk.new _ _ _ _ rfl)⟩ fun V3 ⟨hbW2, qKP, qKT, qKA⟩ => ?_
          clear KP KT
          have hzA : Wm.heap.size ≤ V2.heap.size := hbW.size
          clear hbW
          have hbW := hbW2
          clear hbW2
          have KP := Lib.hid qKP
          clear qKP
          have KT := Lib.hid qKT
          clear qKT
          have KA := Lib.hid qKA
          clear qKA
          have hS := HQm.out.below hbW
          refine hK.out _ _ ?_ (fun hHeld2 => ?_)
          · clear hK; exact hS
          clear hK K hHeld hS
          have hHeld := hHeld2
          clear hHeld2
          try simp only [Act.put, List.setIfInBounds_toArray, List.set_cons_zero, List.set_cons_succ]
          refine wpAnyH_ready (rs := [13]) (by kernel_rfl) (by simp) ?_
          refine AllReadyH.cons rfl (fun K hK => ?_) AllReadyH.nil
          rw [if_pos (by rfl)]
          go_simp
          refine nameV (fun V4 => Below Wm.heap.size Wm V4 ∧ Blk V4 V1.heap.size 71 (aP rs.length) ∧ Blk V4 Wm.heap.size 80 (aT N) ∧ Blk V4 V2.heap.size 4 (aB rs.length) ∧ Blk V4 V3.heap.size 4 (aB N)) ⟨hbW.alloc hbW.size _, (KP.out.al _), (KT.out.al _), (KA.out.al _), (Blk.new _ _ _ _ rfl)⟩ fun V4 ⟨hbW2, qKP, qKT, qKA, qKC⟩ => ?_
          clear KP KT KA
          have hzC : Wm.heap.size ≤ V3.heap.size := hbW.size
          clear hbW
          have hbW := hbW2
          clear hbW2
          have KP := Lib.hid qKP
          clear qKP
          have KT := Lib.hid qKT
          clear qKT
          have KA := Lib.hid qKA
          clear qKA
          have KC := Lib.hid qKC
          clear qKC
          have hS := HQm.out.below hbW
          refine hK.out _ _ ?_ (fun hHeld2 => ?_)
          · clear hK; exact hS
          clear hK K hHeld hS
          have hHeld := hHeld2
          clear hHeld2
          try simp only [Act.put, List.setIfInBounds_toArray, List.set_cons_zero, List.set_cons_succ]
          refine takeD 14 (some 23) (v := ?_) rfl rfl (by kernel_rfl) (by kernel_rfl) (by kernel_rfl) (fun _ _ _ h => h) (by rfl) ?_ (by assumption) ?_
          rotate_left
          · intro w hSw
            (try dsimp only at hSw)
            go_simp
            try with_reducible rfl
          try simp only [Act.put, List.setIfInBounds_toArray, List.set_cons_zero, List.set_cons_succ]
          refine wpAnyH_ready (rs := [15]) (by kernel_rfl) (by simp) ?_
          refine AllReadyH.cons rfl (fun K hK => ?_) AllReadyH.nil
          rw [if_pos (by rfl)]
          go_simp
          refine nameV (fun V5 => Below Wm.heap.size Wm V5 ∧ Blk V5 V1.heap.size 71 (aP rs.length) ∧ Blk V5 Wm.heap.size 80 (aT N) ∧ Blk V5 V2.heap.size 4 (aB rs.length) ∧ Blk V5 V3.heap.size 4 (aB N) ∧ Blk V5 V4.heap.size 86 #[.slice none 0 0, .int .i64 c.St, .slice (some ⟨V1.heap.size, 0, none⟩) rs.length rs.length, .slice (some ⟨Wm.heap.size, 0, none⟩) N N, .slice (some ⟨V2.heap.size, 0, none⟩) rs.length rs.length, .slice (some ⟨V3.heap.size, 0, none⟩) N N]) ⟨hbW.alloc hbW.size _, KP.out.al _, KT.out.al _, KA.out.al _, KC.out.al _, Blk.new _ _ _ _ rfl⟩ fun V5 ⟨hbW2, qKP, qKT, qKA, qKC, qB⟩ => ?_
          have hlP := KP.out.lt
          have hlT := KT.out.lt
          have hlA := KA.out.lt
          have hlC := KC.out.lt
          clear KP KT KA KC hbW
          have hbW := hbW2
          clear hbW2
          have KP := Lib.hid qKP
          clear qKP
          have KT := Lib.hid qKT
          clear qKT
          have KA := Lib.hid qKA
          clear qKA
          have KC := Lib.hid qKC
          clear qKC
          have KB := Lib.hid qB
          clear qB
          have hS := HQm.out.below hbW
          refine hK.out _ _ ?_ (fun hHeld2 => ?_)
          · clear hK; exact hS
          clear hK K hHeld hS
          have hHeld := hHeld2
          clear hHeld2
          try simp only [Act.put, List.setIfInBounds_toArray, List.set_cons_zero, List.set_cons_succ]
          refine takeD 16 (some 4) (v := ?_) rfl rfl (by kernel_rfl) (by kernel_rfl) (by kernel_rfl) (fun _ _ _ h => h) (by rfl) ?_ (by assumption) ?_
          rotate_left
          · intro w hSw
            (try dsimp only at hSw)
            go_simp
            try with_reducible rfl
          try simp only [Act.put, List.setIfInBounds_toArray, List.set_cons_zero, List.set_cons_succ]
          refine wpAnyH_done (by kernel_rfl) ?_ _
          clear hHeld dB
          obtain ⟨aP_, haP_⟩ : ∃ x, x = V1.heap.size := ⟨_, rfl⟩
          obtain ⟨aT_, haT_⟩ : ∃ x, x = Wm.heap.size := ⟨_, rfl⟩
          obtain ⟨aA_, haA_⟩ : ∃ x, x = V2.heap.size := ⟨_, rfl⟩
          obtain ⟨aC_, haC_⟩ : ∃ x, x = V3.heap.size := ⟨_, rfl⟩
          obtain ⟨pb, hpb⟩ : ∃ x, x = V4.heap.size := ⟨_, rfl⟩
          rw [← haP_, ← haT_, ← haA_, ← haC_, ← hpb]
          exact REST aP_ aT_ aA_ aC_ pb V5 (by subst haP_ haT_ haA_ haC_ hpb; exact ⟨hbW, KP.out, KT.out, KA.out, KC.out, KB.out, ⟨hzP, hzT, hzA, hzC⟩, ⟨hlP, hlT, hlA, hlC⟩⟩)
        · rw [if_pos (by rfl)]
          go_simp
          refine nameV (fun V3 => Below Wm.heap.size Wm V3 ∧ Blk V3 V1.heap.size 71 (aP rs.length) ∧ Blk V3 Wm.heap.size 80 (aT N) ∧ Blk V3 V2.heap.size 4 (aB N)) ⟨hbW.alloc hbW.size _, (KP.out.al _), (KT.out.al _), (Blk.new _ _ _ _ rfl)⟩ fun V3 ⟨hbW2, qKP, qKT, qKC⟩ => ?_
          clear KP KT
          have hzC : Wm.heap.size ≤ V2.heap.size := hbW.size
          clear hbW
          have hbW := hbW2
          clear hbW2
          have KP := Lib.hid qKP
          clear qKP
          have KT := Lib.hid qKT
          clear qKT
          have KC := Lib.hid qKC
          clear qKC
          have hS := HQm.out.below hbW
          refine hK.out _ _ ?_ (fun hHeld2 => ?_)
          · clear hK; exact hS
          clear hK K hHeld hS
          have hHeld := hHeld2
          clear hHeld2
          try simp only [Act.put, List.setIfInBounds_toArray, List.set_cons_zero, List.set_cons_succ]
          refine wpAnyH_ready (rs := [11]) (by kernel_rfl) (by simp) ?_
          refine AllReadyH.cons rfl (fun K hK => ?_) AllReadyH.nil
          rw [if_pos (by rfl)]
          go_simp
          refine nameV (fun V4 => Below Wm.heap.size Wm V4 ∧ Blk V4 V1.heap.size 71 (aP rs.length) ∧ Blk V4 Wm.heap.size 80 (aT N) ∧ Blk V4 V3.heap.size 4 (aB rs.length) ∧ Blk V4 V2.heap.size 4 (aB N)) ⟨hbW.alloc hbW.size _, (KP.out.al _), (KT.out.al _), (Blk.new _ _ _ _ rfl), (KC.out.al _)⟩ fun V4 ⟨hbW2, qKP, qKT, qKA, qKC⟩ => ?_
          clear KP KT KC
          have hzA : Wm.heap.size ≤ V3.heap.size := hbW.size
          clear hbW
          have hbW := hbW2
          clear hbW2
          have KP := Lib.hid qKP
          clear qKP
          have KT := Lib.hid qKT
          clear qKT
          have KA := Lib.hid qKA
          clear qKA
          have KC := Lib.hid qKC
          clear qKC
          have hS := HQm.out.below hbW
          refine hK.out _ _ ?_ (fun hHeld2 => ?_)
          · clear hK; exact hS
          clear hK K hHeld hS
          have hHeld := hHeld2
          clear hHeld2
          try simp only [Act.put, List.setIfInBounds_toArray, List.set_cons_zero, List.set_cons_succ]
          refine takeD 14 (some 23) (v := ?_) rfl rfl (by kernel_rfl) (by kernel_rfl) (by kernel_rfl) (fun _ _ _ h => h) (by rfl) ?_ (by assumption) ?_
          rotate_left
          · intro w hSw
            (try dsimp only at hSw)
            go_simp
            try with_reducible rfl
          try simp only [Act.put, List.setIfInBounds_toArray, List.set_cons_zero, List.set_cons_succ]
          refine wpAnyH_ready (rs := [15]) (by kernel_rfl) (by simp) ?_
          refine AllReadyH.cons rfl (fun K hK => ?_) AllReadyH.nil
          rw [if_pos (by rfl)]
          go_simp
          refine nameV (fun V5 => Below Wm.heap.size Wm V5 ∧ Blk V5 V1.heap.size 71 (aP rs.length) ∧ Blk V5 Wm.heap.size 80 (aT N) ∧ Blk V5 V3.heap.size 4 (aB rs.length) ∧ Blk V5 V2.heap.size 4 (aB N) ∧ Blk V5 V4.heap.size 86 #[.slice none 0 0, .int .i64 c.St, .slice (some ⟨V1.heap.size, 0, none⟩) rs.length rs.length, .slice (some ⟨Wm.heap.size, 0, none⟩) N N, .slice (some ⟨V3.heap.size, 0, none⟩) rs.length rs.length, .slice (some ⟨V2.heap.size, 0, none⟩) N N]) ⟨hbW.alloc hbW.size _, KP.out.al _, KT.out.al _, KA.out.al _, KC.out.al _, Blk.new _ _ _ _ rfl⟩ fun V5 ⟨hbW2, qKP, qKT, qKA, qKC, qB⟩ => ?_
          have hlP := KP.out.lt
          have hlT := KT.out.lt
          have hlA := KA.out.lt
          have hlC := KC.out.lt
          clear KP KT KA KC hbW
          have hbW := hbW2
          clear hbW2
          have KP := Lib.hid qKP
          clear qKP
          have KT := Lib.hid qKT
          clear qKT
          have KA := Lib.hid qKA
          clear qKA
          have KC := Lib.hid qKC
          clear qKC
          have KB := Lib.hid qB
          clear qB
          have hS := HQm.out.below hbW
          refine hK.out _ _ ?_ (fun hHeld2 => ?_)
          · clear hK; exact hS
          clear hK K hHeld hS
          have hHeld := hHeld2
          clear hHeld2
          try simp only [Act.put, List.setIfInBounds_toArray, List.set_cons_zero, List.set_cons_succ]
          refine takeD 16 (some 4) (v := ?_) rfl rfl (by kernel_rfl) (by kernel_rfl) (by kernel_rfl) (fun _ _ _ h => h) (by rfl) ?_ (by assumption) ?_
          rotate_left
          · intro w hSw
            (try dsimp only at hSw)
            go_simp
            try with_reducible rfl
          try simp only [Act.put, List.setIfInBounds_toArray, List.set_cons_zero, List.set_cons_succ]
          refine wpAnyH_done (by kernel_rfl) ?_ _
          clear hHeld dB
          obtain ⟨aP_, haP_⟩ : ∃ x, x = V1.heap.size := ⟨_, rfl⟩
          obtain ⟨aT_, haT_⟩ : ∃ x, x = Wm.heap.size := ⟨_, rfl⟩
          obtain ⟨aA_, haA_⟩ : ∃ x, x = V3.heap.size := ⟨_, rfl⟩
          obtain ⟨aC_, haC_⟩ : ∃ x, x = V2.heap.size := ⟨_, rfl⟩
          obtain ⟨pb, hpb⟩ : ∃ x, x = V4.heap.size := ⟨_, rfl⟩
          rw [← haP_, ← haT_, ← haA_, ← haC_, ← hpb]
          exact REST aP_ aT_ aA_ aC_ pb V5 (by subst haP_ haT_ haA_ haC_ hpb; exact ⟨hbW, KP.out, KT.out, KA.out, KC.out, KB.out, ⟨hzP, hzT, hzA, hzC⟩, ⟨hlP, hlT, hlA, hlC⟩⟩)
      · rw [if_pos (by rfl)]
        go_simp
        refine nameV (fun V2 => Below Wm.heap.size Wm V2 ∧ Blk V2 Wm.heap.size 80 (aT N) ∧ Blk V2 V1.heap.size 4 (aB rs.length)) ⟨hbW.alloc hbW.size _, (KT.out.al _), (Blk.new _ _ _ _ rfl)⟩ fun V2 ⟨hbW2, qKT, qKA⟩ => ?_
        clear KT
        have hzA : Wm.heap.size ≤ V1.heap.size := hbW.size
        clear hbW
        have hbW := hbW2
        clear hbW2
        have KT := Lib.hid qKT
        clear qKT
        have KA := Lib.hid qKA
        clear qKA
        have hS := HQm.out.below hbW
        refine hK.out _ _ ?_ (fun hHeld2 => ?_)
        · clear hK; exact hS
        clear hK K hHeld hS
        have hHeld := hHeld2
        clear hHeld2
        try simp only [Act.put, List.setIfInBounds_toArray, List.set_cons_zero, List.set_cons_succ]
        refine wpAnyH_ready (rs := [5, 13]) (by kernel_rfl) (by simp) ?_
        refine AllReadyH.cons rfl (fun K hK => ?_) (AllReadyH.cons rfl (fun K hK => ?_) AllReadyH.nil)
        · rw [if_pos (by rfl)]
          go_simp
          refine nameV (fun V3 => Below Wm.heap.size Wm V3 ∧ Blk V3 V2.heap.size 71 (aP rs.length) ∧ Blk V3 Wm.heap.size 80 (aT N) ∧ Blk V3 V1.heap.size 4 (aB rs.length)) ⟨hbW.alloc hbW.size _, (Blk.new _ _ _ _ rfl), (KT.out.al _), (KA.out.al _)⟩ fun V3 ⟨hbW2, qKP, qKT, qKA⟩ => ?_
          clear KT KA
          have hzP : Wm.heap.size ≤ V2.heap.size := hbW.size
          clear hbW
          have hbW := hbW2
          clear hbW2
          have KP := Lib.hid qKP
          clear qKP
          have KT := Lib.hid qKT
          clear qKT
          have KA := Lib.hid qKA
          clear qKA
          have hS := HQm.out.below hbW
          refine hK.out _ _ ?_ (fun hHeld2 => ?_)
          · clear hK; exact hS
          clear hK K hHeld hS
          have hHeld := hHeld2
          clear hHeld2
          try simp only [Act.put, List.setIfInBounds_toArray, List.set_cons_zero, List.set_cons_succ]
          refine wpAnyH_ready (rs := [13]) (by kernel_rfl) (by simp) ?_
          refine AllReadyH.cons rfl (fun K hK => ?_) AllReadyH.nil
          rw [if_pos (by rfl)]
          go_simp
          refine nameV (fun V4 => Below Wm.heap.size Wm V4 ∧ Blk V4 V2.heap.size 71 (aP rs.length) ∧ Blk V4 Wm.heap.size 80 (aT N) ∧ Blk V4 V1.heap.size 4 (aB rs.length) ∧ Blk V4 V3.heap.size 4 (aB N)) ⟨hbW.alloc hbW.size _, (KP.out.al _), (KT.out.al _), (KA.out.al _), (Blk.new _ _ _ _ rfl)⟩ fun V4 ⟨hbW2, qKP, qKT, qKA, qKC⟩ => ?_
          clear KP KT KA
          have hzC : Wm.heap.size ≤ V3.heap.size := hbW.size
          clear hbW
          have hbW := hbW2
          clear hbW2
          have KP := Lib.hid qKP
          clear qKP
          have KT := Lib.hid qKT
          clear qKT
          have KA := Lib.hid qKA
          clear qKA
          have KC := Lib.hid qKC
          clear qKC
          have hS := HQm.out.below hbW
          refine hK.out _ _ ?_ (fun hHeld2 => ?_)
          · clear hK; exact hS
          clear hK K hHeld hS
          have hHeld := hHeld2
          clear hHeld2
          try simp only [Act.put, List.setIfInBounds_toArray, List.set_cons_zero, List.set_cons_succ]
          refine takeD 14 (some 23) (v := ?_) rfl rfl (by kernel_rfl) (by kernel_rfl) (by kernel_rfl) (fun _ _ _ h => h) (by rfl) ?_ (by assumption) ?_
          rotate_left
          · intro w hSw
            (try dsimp only at hSw)
            go_simp
            try with_reducible rfl
          try simp only [Act.put, List.setIfInBounds_toArray, List.set_cons_zero, List.set_cons_succ]
          refine wpAnyH_ready (rs := [15]) (by kernel_rfl) (by simp) ?_
          refine AllReadyH.cons rfl (fun K hK => ?_) AllReadyH.nil
          rw [if_pos (by rfl)]
          go_simp
          refine nameV (fun V5 => Below Wm.heap.size Wm V5 ∧ Blk V5 V2.heap.size 71 (aP rs.length) ∧ Blk V5 Wm.heap.size 80 (aT N) ∧ Blk V5 V1.heap.size 4 (aB rs.length) ∧ Blk V5 V3.heap.size 4 (aB N) ∧ Blk V5 V4.heap.size 86 #[.slice none 0 0, .int .i64 c.St, .slice (some ⟨V2.heap.size, 0, none⟩) rs.length rs.length, .slice (some ⟨Wm.heap.size, 0, none⟩) N N, .slice (some ⟨V1.heap.size, 0, none⟩) rs.length rs.length, .slice (some ⟨V3.heap.size, 0, none⟩) N N]) ⟨hbW.alloc hbW.size _, KP.out.al _, KT.out.al _, KA.out.al _, KC.out.al _, Blk.new _ _ _ _ rfl⟩ fun V5 ⟨hbW2, qKP, qKT, qKA, qKC, qB⟩ => ?_
          have hlP := KP.out.lt
          have hlT := KT.out.lt
          have hlA := KA.out.lt
          have hlC := KC.out.lt
          clear KP KT KA KC hbW
          have hbW := hbW2
          clear hbW2
          have KP := Lib.hid qKP
          clear qKP
          have KT := Lib.hid qKT
          clear qKT
          have KA := Lib.hid qKA
          clear qKA
          have KC := Lib.hid qKC
          clear qKC
          have KB := Lib.hid qB
          clear qB
          have hS := HQm.out.below hbW
          refine hK.out _ _ ?_ (fun hHeld2 => ?_)
          · clear hK; exact hS
          clear hK K hHeld hS
          have hHeld := hHeld2
          clear hHeld2
          try simp only [Act.put, List.setIfInBounds_toArray, List.set_cons_zero, List.set_cons_succ]
          refine takeD 16 (some 4) (v := ?_) rfl rfl (by kernel_rfl) (by kernel_rfl) (by kernel_rfl) (fun _ _ _ h => h) (by rfl) ?_ (by assumption) ?_
          rotate_left
          · intro w hSw
            (try dsimp only at hSw)
            go_simp
            try with_reducible rfl
          try simp only [Act.put, List.setIfInBounds_toArray, List.set_cons_zero, List.set_cons_succ]
          refine wpAnyH_done (by kernel_rfl) ?_ _
          clear hHeld dB
          obtain ⟨aP_, haP_⟩ : ∃ x, x = V2.heap.size := ⟨_, rfl⟩
          obtain ⟨aT_, haT_⟩ : ∃ x, x = Wm.heap.size := ⟨_, rfl⟩
          obtain ⟨aA_, haA_⟩ : ∃ x, x = V1.heap.size := ⟨_, rfl⟩
          obtain ⟨aC_, haC_⟩ : ∃ x, x = V3.heap.size := ⟨_, rfl⟩
          obtain ⟨pb, hpb⟩ : ∃ x, x = V4.heap.size := ⟨_, rfl⟩
          rw [← haP_, ← haT_, ← haA_, ← haC_, ← hpb]
          exact REST aP_ aT_ aA_ aC_ pb V5 (by subst haP_ haT_ haA_ haC_ hpb; exact ⟨hbW, KP.out, KT.out, KA.out, KC.out, KB.out, ⟨hzP, hzT, hzA, hzC⟩, ⟨hlP, hlT, hlA, hlC⟩⟩)
        · rw [if_pos (by rfl)]
          go_simp
          refine nameV (fun V3 => Below Wm.heap.size Wm V3 ∧ Blk V3 Wm.heap.size 80 (aT N) ∧ Blk V3 V1.heap.size 4 (aB rs.length) ∧ Blk V3 V2.heap.size 4 (aB N)) ⟨hbW.alloc hbW.size _, (KT.out.al _), (KA.out.al _), (Blk.new _ _ _ _ rfl)⟩ fun V3 ⟨hbW2, qKT, qKA, qKC⟩ => ?_
          clear KT KA
          have hzC : Wm.heap.size ≤ V2.heap.size := hbW.size
          clear hbW
          have hbW := hbW2
          clear hbW2
          have KT := Lib.hid qKT
          clear qKT
          have KA := Lib.hid qKA
          clear qKA
          have KC := Lib.hid qKC
          clear qKC
          have hS := HQm.out.below hbW
          refine hK.out _ _ ?_ (fun hHeld2 => ?_)
          · clear hK; exact hS
          clear hK K hHeld hS
          have hHeld := hHeld2
          clear hHeld2
          try simp only [Act.put, List.setIfInBounds_toArray, List.set_cons_zero, List.set_cons_succ]
          refine wpAnyH_ready (rs := [5]) (by kernel_rfl) (by simp) ?_
          refine AllReadyH.cons rfl (fun K hK => ?_) AllReadyH.nil
          rw [if_pos (by rfl)]
          go_simp
          refine nameV (fun V4 => Below Wm.heap.size Wm V4 ∧ Blk V4 V3.heap.size 71 (aP rs.length) ∧ Blk V4 Wm.heap.size 80 (aT N) ∧ Blk V4 V1.heap.size 4 (aB rs.length) ∧ Blk V4 V2.heap.size 4 (aB N)) ⟨hbW.alloc hbW.size _, (Blk.new _ _ _ _ rfl), (KT.out.al _), (KA.out.al _), (KC.out.al _)⟩ fun V4 ⟨hbW2, qKP, qKT, qKA, qKC⟩ => ?_
          clear KT KA KC
          have hzP : Wm.heap.size ≤ V3.heap.size := hbW.size
          clear hbW
          have hbW := hbW2
          clear hbW2
          have KP := Lib.hid qKP
          clear qKP
          have KT := Lib.hid qKT
          clear qKT
          have KA := Lib.hid qKA
          clear qKA
          have KC := Lib.hid qKC
          clear qKC
          have hS := HQm.out.below hbW
          refine hK.out _ _ ?_ (fun hHeld2 => ?_)
          · clear hK; exact hS
          clear hK K hHeld hS
          have hHeld := hHeld2
          clear hHeld2
          try simp only [Act.put, List.setIfInBounds_toArray, List.set_cons_zero, List.set_cons_succ]
          refine takeD 14 (some 23) (v := ?_) rfl rfl (by kernel_rfl) (by kernel_rfl) (by kernel_rfl) (fun _ _ _ h => h) (by rfl) ?_ (by assumption) ?_
          rotate_left
          · intro w hSw
            (try dsimp only at hSw)
            go_simp
            try with_reducible rfl
          try simp only [Act.put, List.setIfInBounds_toArray, List.set_cons_zero, List.set_cons_succ]
          refine wpAnyH_ready (rs := [15]) (by kernel_rfl) (by simp) ?_
          refine AllReadyH.cons rfl (fun K hK => ?_) AllReadyH.nil
          rw [if_pos (by rfl)]
          go_simp
          refine nameV (fun V5 => Below Wm.heap.size Wm V5 ∧ Blk V5 V3.heap.size 71 (aP rs.length) ∧ Blk V5 Wm.heap.size 80 (aT N) ∧ Blk V5 V1.heap.size 4 (aB rs.length) ∧ Blk V5 V2.heap.size 4 (aB N) ∧ Blk V5 V4.heap.size 86 #[.slice none 0 0, .int .i64 c.St, .slice (some ⟨V3.heap.size, 0, none⟩) rs.length rs.length, .slice (some ⟨Wm.heap.size, 0, none⟩) N N, .slice (some ⟨V1.heap.size, 0, none⟩) rs.length rs.length, .slice (some ⟨V2.heap.size, 0, none⟩) N N]) ⟨hbW.alloc hbW.size _, KP.out.al _, KT.out.al _, KA.out.al _, KC.out.al _, Blk.new _ _ _ _ rfl⟩ fun V5 ⟨hbW2, qKP, qKT, qKA, qKC, qB⟩ => ?_
          have hlP := KP.out.lt
          have hlT := KT.out.lt
          have hlA := KA.out.lt
          have hlC := KC.out.lt
          clear KP KT KA KC hbW
          have hbW := hbW2
          clear hbW2
          have KP := Lib.hid qKP
          clear qKP
          have KT := Lib.hid qKT
          clear qKT
          have KA := Lib.hid qKA
          clear qKA
          have KC := Lib.hid qKC
          clear qKC
          have KB := Lib.hid qB
          clear qB
          have hS := HQm.out.below hbW
          refine hK.out _ _ ?_ (fun hHeld2 => ?_)
          · clear hK; exact hS
          clear hK K hHeld hS
          have hHeld := hHeld2
          clear hHeld2
          try simp only [Act.put, List.setIfInBounds_toArray, List.set_cons_zero, List.set_cons_succ]
          refine takeD 16 (some 4) (v := ?_) rfl rfl (by kernel_rfl) (by kernel_rfl) (by kernel_rfl) (fun _ _ _ h => h) (by rfl) ?_ (by assumption) ?_
          rotate_left
          · intro w hSw
            (try dsimp only at hSw)
            go_simp
            try with_reducible rfl
          try simp only [Act.put, List.setIfInBounds_toArray, List.set_cons_zero, List.set_cons_succ]
          refine wpAnyH_done (by kernel_rfl) ?_ _
          clear hHeld dB
          obtain ⟨aP_, haP_⟩ : ∃ x, x = V3.heap.size := ⟨_, rfl⟩
          obtain ⟨aT_, haT_⟩ : ∃ x, x = Wm.heap.size := ⟨_, rfl⟩
          obtain ⟨aA_, haA_⟩ : ∃ x, x = V1.heap.size := ⟨_, rfl⟩
          obtain ⟨aC_, haC_⟩ : ∃ x, x = V2.heap.size := ⟨_, rfl⟩
          obtain ⟨pb, hpb⟩ : ∃ x, x = V4.heap.size := ⟨_, rfl⟩
          rw [← haP_, ← haT_, ← haA_, ← haC_, ← hpb]
          exact REST aP_ aT_ aA_ aC_ pb V5 (by subst haP_ haT_ haA_ haC_ hpb; exact ⟨hbW, KP.out, KT.out, KA.out, KC.out, KB.out, ⟨hzP, hzT, hzA, hzC⟩, ⟨hlP, hlT, hlA, hlC⟩⟩)
      · rw [if_pos (by rfl)]
        go_simp
        refine nameV (fun V2 => Below Wm.heap.size Wm V2 ∧ Blk V2 Wm.heap.size 80 (aT N) ∧ Blk V2 V1.heap.size 4 (aB N)) ⟨hbW.alloc hbW.size _, (KT.out.al _), (Blk.new _ _ _ _ rfl)⟩ fun V2 ⟨hbW2, qKT, qKC⟩ => ?_
        clear KT
        have hzC : Wm.heap.size ≤ V1.heap.size := hbW.size
        clear hbW
        have hbW := hbW2
        clear hbW2
        have KT := Lib.hid qKT
        clear qKT
        have KC := Lib.hid qKC
        clear qKC
        have hS := HQm.out.below hbW
        refine hK.out _ _ ?_ (fun hHeld2 => ?_)
        · clear hK; exact hS
        clear hK K hHeld hS
        have hHeld := hHeld2
        clear hHeld2
        try simp only [Act.put, List.setIfInBounds_toArray, List.set_cons_zero, List.set_cons_succ]
        refine wpAnyH_ready (rs := [5, 11]) (by kernel_rfl) (by simp) ?_
        refine AllReadyH.cons rfl (fun K hK => ?_) (AllReadyH.cons rfl (fun K hK => ?_) AllReadyH.nil)
        · rw [if_pos (by rfl)]
          go_simp
          refine nameV (fun V3 => Below Wm.heap.size Wm V3 ∧ Blk V3 V2.heap.size 71 (aP rs.length) ∧ Blk V3 Wm.heap.size 80 (aT N) ∧ Blk V3 V1.heap.size 4 (aB N)) ⟨hbW.alloc hbW.size _, (Blk.new _ _ _ _ rfl), (KT.out.al _), (KC.out.al _)⟩ fun V3 ⟨hbW2, qKP, qKT, qKC⟩ => ?_
          clear KT KC
          have hzP : Wm.heap.size ≤ V2.heap.size := hbW.size
          clear hbW
          have hbW := hbW2
          clear hbW2
          have KP := Lib.hid qKP
          clear qKP
          have KT := Lib.hid qKT
          clear qKT
          have KC := Lib.hid qKC
          clear qKC
          have hS := HQm.out.below hbW
          refine hK.out _ _ ?_ (fun hHeld2 => ?_)
          · clear hK; exact hS
          clear hK K hHeld hS
          have hHeld := hHeld2
          clear hHeld2
          try simp only [Act.put, List.setIfInBounds_toArray, List.set_cons_zero, List.set_cons_succ]
          refine wpAnyH_ready (rs := [11]) (by kernel_rfl) (by simp) ?_
          refine AllReadyH.cons rfl (fun K hK => ?_) AllReadyH.nil
          rw [if_pos (by rfl)]
          go_simp
          refine nameV (fun V4 => Below Wm.heap.size Wm V4 ∧ Blk V4 V2.heap.size 71 (aP rs.length) ∧ Blk V4 Wm.heap.size 80 (aT N) ∧ Blk V4 V3.heap.size 4 (aB rs.length) ∧ Blk V4 V1.heap.size 4 (aB N)) ⟨hbW.alloc hbW.size _, (KP.out.al _), (KT.out.al _), (Blk.new _ _ _ _ rfl), (KC.out.al _)⟩ fun V4 ⟨hbW2, qKP, qKT, qKA, qKC⟩ => ?_
          clear KP KT KC
          have hzA : Wm.heap.size ≤ V3.heap.size := hbW.size
          clear hbW
          have hbW := hbW2
          clear hbW2
          have KP := Lib.hid qKP
          clear qKP
          have KT := Lib.hid qKT
          clear qKT
          have KA := Lib.hid qKA
          clear qKA
          have KC := Lib.hid qKC
          clear qKC
          have hS := HQm.out.below hbW
          refine hK.out _ _ ?_ (fun hHeld2 => ?_)
          · clear hK; exact hS
          clear hK K hHeld hS
          have hHeld := hHeld2
          clear hHeld2
          try simp only [Act.put, List.setIfInBounds_toArray, List.set_cons_zero, List.set_cons_succ]
          refine takeD 14 (some 23) (v := ?_) rfl rfl (by kernel_rfl) (by kernel_rfl) (by kernel_rfl) (fun _ _ _ h => h) (by rfl) ?_ (by assumption) ?_
          rotate_left
          · intro w hSw
            (try dsimp only at hSw)
            go_simp
            try with_reducible rfl
          try simp only [Act.put, List.setIfInBounds_toArray, List.set_cons_zero, List.set_cons_succ]
          refine wpAnyH_ready (rs := [15]) (by kernel_rfl) (by simp) ?_
          refine AllReadyH.cons rfl (fun K hK => ?_) AllReadyH.nil
          rw [if_pos (by rfl)]
          go_simp
          refine nameV (fun V5 => Below Wm.heap.size Wm V5 ∧ Blk V5 V2.heap.size 71 (aP rs.length) ∧ Blk V5 Wm.heap.size 80 (aT N) ∧ Blk V5 V3.heap.size 4 (aB rs.length) ∧ Blk V5 V1.heap.size 4 (aB N) ∧ Blk V5 V4.heap.size 86 #[.slice none 0 0, .int .i64 c.St, .slice (some ⟨V2.heap.size, 0, none⟩) rs.length rs.length, .slice (some ⟨Wm.heap.size, 0, none⟩) N N, .slice (some ⟨V3.heap.size, 0, none⟩) rs.length rs.length, .slice (some ⟨V1.heap.size, 0, none⟩) N N]) ⟨hbW.alloc hbW.size _, KP.out.al _, KT.out.al _, KA.out.al _, KC.out.al _, Blk.new _ _ _ _ rfl⟩ fun V5 ⟨hbW2, qKP, qKT, qKA, qKC, qB⟩ => ?_
          have hlP := KP.out.lt
          have hlT := KT.out.lt
          have hlA := KA.out.lt
          have hlC := KC.out.lt
          clear KP KT KA KC hbW
          have hbW := hbW2
          clear hbW2
          have KP := Lib.hid qKP
          clear qKP
          have KT := Lib.hid qKT
          clear qKT
          have KA := Lib.hid qKA
          clear qKA
          have KC := Lib.hid qKC
          clear qKC
          have KB := Lib.hid qB
          clear qB
          have hS := HQm.out.below hbW
          refine hK.out _ _ ?_ (fun hHeld2 => ?_)
          · clear hK; exact hS
          clear hK K hHeld hS
          have hHeld := hHeld2
          clear hHeld2
          try simp only [Act.put, List.setIfInBounds_toArray, List.set_cons_zero, List.set_cons_succ]
          refine takeD 16 (some 4) (v := ?_) rfl rfl (by kernel_rfl) (by kernel_rfl) (by kernel_rfl) (fun _ _ _ h => h) (by rfl) ?_ (by assumption) ?_
          rotate_left
          · intro w hSw
            (try dsimp only at hSw)
            go_simp
            try with_reducible rfl
          try simp only [Act.put, List.setIfInBounds_toArray, List.set_cons_zero, List.set_cons_succ]
          refine wpAnyH_done (by kernel_rfl) ?_ _
          clear hHeld dB
          obtain ⟨aP_, haP_⟩ : ∃ x, x = V2.heap.size := ⟨_, rfl⟩
          obtain ⟨aT_, haT_⟩ : ∃ x, x = Wm.heap.size := ⟨_, rfl⟩
          obtain ⟨aA_, haA_⟩ : ∃ x, x = V3.heap.size := ⟨_, rfl⟩
          obtain ⟨aC_, haC_⟩ : ∃ x, x = V1.heap.size := ⟨_, rfl⟩
          obtain ⟨pb, hpb⟩ : ∃ x, x = V4.heap.size := ⟨_, rfl⟩
          rw [← haP_, ← haT_, ← haA_, ← haC_, ← hpb]
          exact REST aP_ aT_ aA_ aC_ pb V5 (by subst haP_ haT_ haA_ haC_ hpb; exact ⟨hbW, KP.out, KT.out, KA.out, KC.out, KB.out, ⟨hzP, hzT, hzA, hzC⟩, ⟨hlP, hlT, hlA, hlC⟩⟩)
        · rw [if_pos (by rfl)]
          go_simp
          refine nameV (fun V3 => Below Wm.heap.size Wm V3 ∧ Blk V3 Wm.heap.size 80 (aT N) ∧ Blk V3 V2.heap.size 4 (aB rs.length) ∧ Blk V3 V1.heap.size 4 (aB N)) ⟨hbW.alloc hbW.size _, (KT.out.al _), (Blk.new _ _ _ _ rfl), (KC.out.al _)⟩ fun V3 ⟨hbW2, qKT, qKA, qKC⟩ => ?_
          clear KT KC
          have hzA : Wm.heap.size ≤ V2.heap.size := hbW.size
          clear hbW
          have hbW := hbW2
          clear hbW2
          have KT := Lib.hid qKT
          clear qKT
          have KA := Lib.hid qKA
          clear qKA
          have KC := Lib.hid qKC
          clear qKC
          have hS := HQm.out.below hbW
          refine hK.out _ _ ?_ (fun hHeld2 => ?_)
          · clear hK; exact hS
          clear hK K hHeld hS
          have hHeld := hHeld2
          clear hHeld2
          try simp only [Act.put, List.setIfInBounds_toArray, List.set_cons_zero, List.set_cons_succ]
          refine wpAnyH_ready (rs := [5]) (by kernel_rfl) (by simp) ?_
          refine AllReadyH.cons rfl (fun K hK => ?_) AllReadyH.nil
          rw [if_pos (by rfl)]
          go_simp
          refine nameV (fun V4 => Below Wm.heap.size Wm V4 ∧ Blk V4 V3.heap.size 71 (aP rs.length) ∧ Blk V4 Wm.heap.size 80 (aT N) ∧ Blk V4 V2.heap.size 4 (aB rs.length) ∧ Blk V4 V1.heap.size 4 (aB N)) ⟨hbW.alloc hbW.size _, (Blk.new _ _ _ _ rfl), (KT.out.al _), (KA.out.al _), (KC.out.al _)⟩ fun V4 ⟨hbW2, qKP, qKT, qKA, qKC⟩ => ?_
          clear KT KA KC
          have hzP : Wm.heap.size ≤ V3.heap.size := hbW.size
          clear hbW
          have hbW := hbW2
          clear hbW2
          have KP := Lib.hid qKP
          clear qKP
          have KT := Lib.hid qKT
          clear qKT
          have KA := Lib.hid qKA
          clear qKA
          have KC := Lib.hid qKC
          clear qKC
          have hS := HQm.out.below hbW
          refine hK.out _ _ ?_ (fun hHeld2 => ?_)
          · clear hK; exact hS
          clear hK K hHeld hS
          have hHeld := hHeld2
          clear hHeld2
          try simp only [Act.put, List.setIfInBounds_toArray, List.set_cons_zero, List.set_cons_succ]
          refine takeD 14 (some 23) (v := ?_) rfl rfl (by kernel_rfl) (by kernel_rfl) (by kernel_rfl) (fun _ _ _ h => h) (by rfl) ?_ (by assumption) ?_
          rotate_left
          · intro w hSw
            (try dsimp only at hSw)
            go_simp
            try with_reducible rfl
          try simp only [Act.put, List.setIfInBounds_toArray, List.set_cons_zero, List.set_cons_succ]
          refine wpAnyH_ready (rs := [15]) (by kernel_rfl) (by simp) ?_
          refine AllReadyH.cons rfl (fun K hK => ?_) AllReadyH.nil
          rw [if_pos (by rfl)]
          go_simp
          refine nameV (fun V5 => Below Wm.heap.size Wm V5 ∧ Blk V5 V3.heap.size 71 (aP rs.length) ∧ Blk V5 Wm.heap.size 80 (aT N) ∧ Blk V5 V2.heap.size 4 (aB rs.length) ∧ Blk V5 V1.heap.size 4 (aB N) ∧ Blk V5 V4.heap.size 86 #[.slice none 0 0, .int .i64 c.St, .slice (some ⟨V3.heap.size, 0, none⟩) rs.length rs.length, .slice (some ⟨Wm.heap.size, 0, none⟩) N N, .slice (some ⟨V2.heap.size, 0, none⟩) rs.length rs.length, .slice (some ⟨V1.heap.size, 0, none⟩) N N]) ⟨hbW.alloc hbW.size _, KP.out.al _, KT.out.al _, KA.out.al _, KC.out.al _, Blk.new _ _ _ _ rfl⟩ fun V5 ⟨hbW2, qKP, qKT, qKA, qKC, qB⟩ => ?_
          have hlP := KP.out.lt
          have hlT := KT.out.lt
          have hlA := KA.out.lt
          have hlC := KC.out.lt
          clear KP KT KA KC hbW
          have hbW := hbW2
          clear hbW2
          have KP := Lib.hid qKP
          clear qKP
          have KT := Lib.hid qKT
          clear qKT
          have KA := Lib.hid qKA
          clear qKA
          have KC := Lib.hid qKC
          clear qKC
          have KB := Lib.hid qB
          clear qB
          have hS := HQm.out.below hbW
          refine hK.out _ _ ?_ (fun hHeld2 => ?_)
          · clear hK; exact hS
          clear hK K hHeld hS
          have hHeld := hHeld2
          clear hHeld2
          try simp only [Act.put, List.setIfInBounds_toArray, List.set_cons_zero, List.set_cons_succ]
          refine takeD 16 (some 4) (v := ?_) rfl rfl (by kernel_rfl) (by kernel_rfl) (by kernel_rfl) (fun _ _ _ h => h) (by rfl) ?_ (by assumption) ?_
          rotate_left
          · intro w hSw
            (try dsimp only at hSw)
            go_simp
            try with_reducible rfl
          try simp only [Act.put, List.setIfInBounds_toArray, List.set_cons_zero, List.set_cons_succ]
          refine wpAnyH_done (by kernel_rfl) ?_ _
          clear hHeld dB
          obtain ⟨aP_, haP_⟩ : ∃ x, x = V3.heap.size := ⟨_, rfl⟩
          obtain ⟨aT_, haT_⟩ : ∃ x, x = Wm.heap.size := ⟨_, rfl⟩
          obtain ⟨aA_, haA_⟩ : ∃ x, x = V2.heap.size := ⟨_, rfl⟩
          obtain ⟨aC_, haC_⟩ : ∃ x, x = V1.heap.size := ⟨_, rfl⟩
          obtain ⟨pb, hpb⟩ : ∃ x, x = V4.heap.size := ⟨_, rfl⟩
          rw [← haP_, ← haT_, ← haA_, ← haC_, ← hpb]
          exact REST aP_ aT_ aA_ aC_ pb V5 (by subst haP_ haT_ haA_ haC_ hpb; exact ⟨hbW, KP.out, KT.out, KA.out, KC.out, KB.out, ⟨hzP, hzT, hzA, hzC⟩, ⟨hlP, hlT, hlA, hlC⟩⟩)
    · rw [if_pos (by rfl)]
      go_simp
      refine nameV (fun V1 => Below Wm.heap.size Wm V1 ∧ Blk V1 Wm.heap.size 4 (aB rs.length)) ⟨(hbW.alloc hbW.size _).drew, (Blk.drw (Blk.new _ _ _ _ rfl))⟩ fun V1 ⟨hbW2, qKA⟩ => ?_
      have hzA : Wm.heap.size ≤ Wm.heap.size := Nat.le_refl _
      clear hbW
      have hbW := hbW2
      clear hbW2
      have KA := Lib.hid qKA
      clear qKA
      have hS := HQm.out.below hbW
      refine hK.out _ _ ?_ (fun hHeld2 => ?_)
      · clear hK; exact hS
      clear hK K hHeld hS
      have hHeld := hHeld2
      clear hHeld2
      try simp only [Act.put, List.setIfInBounds_toArray, List.set_cons_zero, List.set_cons_succ]
      refine wpAnyH_ready (rs := [5, 7, 13]) (by kernel_rfl) (by simp) ?_
      refine AllReadyH.cons rfl (fun K hK => ?_) (AllReadyH.cons rfl (fun K hK => ?_) (AllReadyH.cons rfl (fun K hK => ?_) AllReadyH.nil))
      · rw [if_pos (by rfl)]
        go_simp
        refine nameV (fun V2 => Below Wm.heap.size Wm V2 ∧ Blk V2 V1.heap.size 71 (aP rs.length) ∧ Blk V2 Wm.heap.size 4 (aB rs.length)) ⟨hbW.alloc hbW.size _, (Blk.new _ _ _ _ rfl), (KA.out.al _)⟩ fun V2 ⟨hbW2, qKP, qKA⟩ => ?_
        clear KA
        have hzP : Wm.heap.size ≤ V1.heap.size := hbW.size
        clear hbW
        have hbW := hbW2
        clear hbW2
        have KP := Lib.hid qKP
        clear qKP
        have KA := Lib.hid qKA
        clear qKA
        have hS := HQm.out.below hbW
        refine hK.out _ _ ?_ (fun hHeld2 => ?_)
        · clear hK; exact hS
        clear hK K hHeld hS
        have hHeld := hHeld2
        clear hHeld2
        try simp only [Act.put, List.setIfInBounds_toArray, List.set_cons_zero, List.set_cons_succ]
        refine wpAnyH_ready (rs := [7, 13]) (by kernel_rfl) (by simp) ?_
        refine AllReadyH.cons rfl (fun K hK => ?_) (AllReadyH.cons rfl (fun K hK => ?_) AllReadyH.nil)
        · rw [if_pos (by rfl)]
          go_simp
          refine nameV (fun V3 => Below Wm.heap.size Wm V3 ∧ Blk V3 V1.heap.size 71 (aP rs.length) ∧ Blk V3 V2.heap.size 80 (aT N) ∧ Blk V3 Wm.heap.size 4 (aB rs.length)) ⟨hbW.alloc hbW.size _, (KP.out.al _), (Blk.new _ _ _ _ rfl), (KA.out.al _)⟩ fun V3 ⟨hbW2, qKP, qKT, qKA⟩ => ?_
          clear KP KA
          have hzT : Wm.heap.size ≤ V2.heap.size := hbW.size
          clear hbW
          have hbW := hbW2
          clear hbW2
          have KP := Lib.hid qKP
          clear qKP
          have KT := Lib.hid qKT
          clear qKT
          have KA := Lib.hid qKA
          clear qKA
          have hS := HQm.out.below hbW
          refine hK.out _ _ ?_ (fun hHeld2 => ?_)
          · clear hK; exact hS
          clear hK K hHeld hS
          have hHeld := hHeld2
          clear hHeld2
          try simp only [Act.put, List.setIfInBounds_toArray, List.set_cons_zero, List.set_cons_succ]
          refine wpAnyH_ready (rs := [13]) (by kernel_rfl) (by simp) ?_
          refine AllReadyH.cons rfl (fun K hK => ?_) AllReadyH.nil
          rw [if_pos (by rfl)]
          go_simp
          refine nameV (fun V4 => Below Wm.heap.size Wm V4 ∧ Blk V4 V1.heap.size 71 (aP rs.length) ∧ Blk V4 V2.heap.size 80 (aT N) ∧ Blk V4 Wm.heap.size 4 (aB rs.length) ∧ Blk V4 V3.heap.size 4 (aB N)) ⟨hbW.alloc hbW.size _, (KP.out.al _), (KT.out.al _), (KA.out.al _), (Blk.new _ _ _ _ rfl)⟩ fun V4 ⟨hbW2, qKP, qKT, qKA, qKC⟩ => ?_
          clear KP KT KA
          have hzC : Wm.heap.size ≤ V3.heap.size := hbW.size
          clear hbW
          have hbW := hbW2
          clear hbW2
          have KP := Lib.hid qKP
          clear qKP
          have KT := Lib.hid qKT
          clear qKT
          have KA := Lib.hid qKA
          clear qKA
          have KC := Lib.hid qKC
          clear qKC
          have hS := HQm.out.below hbW
          refine hK.out _ _ ?_ (fun hHeld2 => ?_)
          · clear hK; exact hS
          clear hK K hHeld hS
          have hHeld := hHeld2
          clear hHeld2
          try simp only [Act.put, List.setIfInBounds_toArray, List.set_cons_zero, List.set_cons_succ]
          refine takeD 14 (some 23) (v := ?_) rfl rfl (by kernel_rfl) (by kernel_rfl) (by kernel_rfl) (fun _ _ _ h => h) (by rfl) ?_ (by assumption) ?_
          rotate_left
          · intro w hSw
            (try dsimp only at hSw)
            go_simp
            try with_reducible rfl
          try simp only [Act.put, List.setIfInBounds_toArray, List.set_cons_zero, List.set_cons_succ]
          refine wpAnyH_ready (rs := [15]) (by kernel_rfl) (by simp) ?_
          refine AllReadyH.cons rfl (fun K hK => ?_) AllReadyH.nil
          rw [if_pos (by rfl)]
          go_simp
          refine nameV (fun V5 => Below Wm.heap.size Wm V5 ∧ Blk V5 V1.heap.size 71 (aP rs.length) ∧ Blk V5 V2.heap.size 80 (aT N) ∧ Blk V5 Wm.heap.size 4 (aB rs.length) ∧ Blk V5 V3.heap.size 4 (aB N) ∧ Blk V5 V4.heap.size 86 #[.slice none 0 0, .int .i64 c.St, .slice (some ⟨V1.heap.size, 0, none⟩) rs.length rs.length, .slice (some ⟨V2.heap.size, 0, none⟩) N N, .slice (some ⟨Wm.heap.size, 0, none⟩) rs.length rs.length, .slice (some ⟨V3.heap.size, 0, none⟩) N N]) ⟨hbW.alloc hbW.size _, KP.out.al _, KT.out.al _, KA.out.al _, KC.out.al _, Blk.new _ _ _ _ rfl⟩ fun V5 ⟨hbW2, qKP, qKT, qKA, qKC, qB⟩ => ?_
          have hlP := KP.out.lt
          have hlT := KT.out.lt
          have hlA := KA.out.lt
          have hlC := KC.out.lt
          clear KP KT KA KC hbW
          have hbW := hbW2
          clear hbW2
          have KP := Lib.hid qKP
          clear qKP
          have KT := Lib.hid qKT
          clear qKT
          have KA := Lib.hid qKA
          clear qKA
          have KC := Lib.hid qKC
          clear qKC
          have KB := Lib.hid qB
          clear qB
          have hS := HQm.out.below hbW
          refine hK.out _ _ ?_ (fun hHeld2 => ?_)
          · clear hK; exact hS
          clear hK K hHeld hS
          have hHeld := hHeld2
          clear hHeld2
          try simp only [Act.put, List.setIfInBounds_toArray, List.set_cons_zero, List.set_cons_succ]
          refine takeD 16 (some 4) (v := ?_) rfl rfl (by kernel_rfl) (by kernel_rfl) (by kernel_rfl) (fun _ _ _ h => h) (by rfl) ?_ (by assumption) ?_
          rotate_left
          · intro w hSw
            (try dsimp only at hSw)
            go_simp
            try with_reducible rfl
          try simp only [Act.put, List.setIfInBounds_toArray, List.set_cons_zero, List.set_cons_succ]
          refine wpAnyH_done (by kernel_rfl) ?_ _
          clear hHeld dB
          obtain ⟨aP_, haP_⟩ : ∃ x, x = V1.heap.size := ⟨_, rfl⟩
          obtain ⟨aT_, haT_⟩ : ∃ x, x = V2.heap.size := ⟨_, rfl⟩
          obtain ⟨aA_, haA_⟩ : ∃ x, x = Wm.heap.size := ⟨_, rfl⟩
          obtain ⟨aC_, haC_⟩ : ∃ x, x = V3.heap.size := ⟨_, rfl⟩
          obtain ⟨pb, hpb⟩ : ∃ x, x = V4.heap.size := ⟨_, rfl⟩
          rw [← haP_, ← haT_, ← haA_, ← haC_, ← hpb]
          exact REST aP_ aT_ aA_ aC_ pb V5 (by subst haP_ haT_ haA_ haC_ hpb; exact ⟨hbW, KP.out, KT.out, KA.out, KC.out, KB.out, ⟨hzP, hzT, hzA, hzC⟩, ⟨hlP, hlT, hlA, hlC⟩⟩)
        · rw [if_pos (by rfl)]
          go_simp
          refine nameV (fun V3 => Below Wm.heap.size Wm V3 ∧ Blk V3 V1.heap.size 71 (aP rs.length) ∧ Blk V3 Wm.heap.size 4 (aB rs.length) ∧ Blk V3 V2.heap.size 4 (aB N)) ⟨hbW.alloc hbW.size _, (KP.out.al _), (KA.out.al _), (Blk.new _ _ _ _ rfl)⟩ fun V3 ⟨hbW2, qKP, qKA, qKC⟩ => ?_
          clear KP KA
          have hzC : Wm.heap.size ≤ V2.heap.size := hbW.size
          clear hbW
          have hbW := hbW2
          clear hbW2
          have KP := Lib.hid qKP
          clear qKP
          have KA := Lib.hid qKA
          clear qKA
          have KC := Lib.hid qKC
          clear qKC
          have hS := HQm.out.below hbW
          refine hK.out _ _ ?_ (fun hHeld2 => ?_)
          · clear hK; exact hS
          clear hK K hHeld hS
          have hHeld := hHeld2
          clear hHeld2
          try simp only [Act.put, List.setIfInBounds_toArray, List.set_cons_zero, List.set_cons_succ]
          refine wpAnyH_ready (rs := [7]) (by kernel_rfl) (by simp) ?_
          refine AllReadyH.cons rfl (fun K hK => ?_) AllReadyH.nil
          rw [if_pos (by rfl)]
          go_simp
          refine nameV (fun V4 => Below Wm.heap.size Wm V4 ∧ Blk V4 V1.heap.size 71 (aP rs.length) ∧ Blk V4 V3.heap.size 80 (aT N) ∧ Blk V4 Wm.heap.size 4 (aB rs.length) ∧ Blk V4 V2.heap.size 4 (aB N)) ⟨hbW.alloc hbW.size _, (KP.out.al _), (Blk.new _ _ _ _ rfl), (KA.out.al _), (KC.out.al _)⟩ fun V4 ⟨hbW2, qKP, qKT, qKA, qKC⟩ => ?_
          clear KP KA KC
          have hzT : Wm.heap.size ≤ V3.heap.size := hbW.size
          clear hbW
          have hbW := hbW2
          clear hbW2
          have KP := Lib.hid qKP
          clear qKP
          have KT := Lib.hid qKT
          clear qKT
          have KA := Lib.hid qKA
          clear qKA
          have KC := Lib.hid qKC
          clear qKC
          have hS := HQm.out.below hbW
          refine hK.out _ _ ?_ (fun hHeld2 => ?_)
          · clear hK; exact hS
          clear hK K hHeld hS
          have hHeld := hHeld2
          clear hHeld2
          try simp only [Act.put, List.setIfInBounds_toArray, List.set_cons_zero, List.set_cons_succ]
          refine takeD 14 (some 23) (v := ?_) rfl rfl (by kernel_rfl) (by kernel_rfl) (by kernel_rfl) (fun _ _ _ h => h) (by rfl) ?_ (by assumption) ?_
          rotate_left
          · intro w hSw
            (try dsimp only at hSw)
            go_simp
            try with_reducible rfl
          try simp only [Act.put, List.setIfInBounds_toArray, List.set_cons_zero, List.set_cons_succ]
          refine wpAnyH_ready (rs := [15]) (by kernel_rfl) (by simp) ?_
          refine AllReadyH.cons rfl (fun K hK => ?_) AllReadyH.nil
          rw [if_pos (by rfl)]
          go_simp
          refine nameV (fun V5 => Below Wm.heap.size Wm V5 ∧ Blk V5 V1.heap.size 71 (aP rs.length) ∧ Blk V5 V3.heap.size 80 (aT N) ∧ Blk V5 Wm.heap.size 4 (aB rs.length) ∧ Blk V5 V2.heap.size 4 (aB N) ∧ Blk V5 V4.heap.size 86 #[.slice none 0 0, .int .i64 c.St, .slice (some ⟨V1.heap.size, 0, none⟩) rs.length rs.length, .slice (some ⟨V3.heap.size, 0, none⟩) N N, .slice (some ⟨Wm.heap.size, 0, none⟩) rs.length rs.length, .slice (some ⟨V2.heap.size, 0, none⟩) N N]) ⟨hbW.alloc hbW.size _, KP.out.al _, KT.out.al _, KA.out.al _, KC.out.al _, Blk.new _ _ _ _ rfl⟩ fun V5 ⟨hbW2, qKP, qKT, qKA, qKC, qB⟩ => ?_
          have hlP := KP.out.lt
          have hlT := KT.out.lt
          have hlA := KA.out.lt
          have hlC := KC.out.lt
          clear KP KT KA KC hbW
          have hbW := hbW2
          clear hbW2
          have KP := Lib.hid qKP
          clear qKP
          have KT := Lib.hid qKT
          clear qKT
          have KA := Lib.hid qKA
          clear qKA
          have KC := Lib.hid qKC
          clear qKC
          have KB := Lib.hid qB
          clear qB
          have hS := HQm.out.below hbW
          refine hK.out _ _ ?_ (fun hHeld2 => ?_)
          · clear hK; exact hS
          clear hK K hHeld hS
          have hHeld := hHeld2
          clear hHeld2
          try simp only [Act.put, List.setIfInBounds_toArray, List.set_cons_zero, List.set_cons_succ]
          refine takeD 16 (some 4) (v := ?_) rfl rfl (by kernel_rfl) (by kernel_rfl) (by kernel_rfl) (fun _ _ _ h => h) (by rfl) ?_ (by assumption) ?_
          rotate_left
          · intro w hSw
            (try dsimp only at hSw)
            go_simp
            try with_reducible rfl
          try simp only [Act.put, List.setIfInBounds_toArray, List.set_cons_zero, List.set_cons_succ]
          refine wpAnyH_done (by kernel_rfl) ?_ _
          clear hHeld dB
          obtain ⟨aP_, haP_⟩ : ∃ x, x = V1.heap.size := ⟨_, rfl⟩
          obtain ⟨aT_, haT_⟩ : ∃ x, x = V3.heap.size := ⟨_, rfl⟩
          obtain ⟨aA_, haA_⟩ : ∃ x, x = Wm.heap.size := ⟨_, rfl⟩
          obtain ⟨aC_, haC_⟩ : ∃ x, x = V2.heap.size := ⟨_, rfl⟩
          obtain ⟨pb, hpb⟩ : ∃ x, x = V4.heap.size := ⟨_, rfl⟩
          rw [← haP_, ← haT_, ← haA_, ← haC_, ← hpb]
          exact REST aP_ aT_ aA_ aC_ pb V5 (by subst haP_ haT_ haA_ haC_ hpb; exact ⟨hbW, KP.out, KT.out, KA.out, KC.out, KB.out, ⟨hzP, hzT, hzA, hzC⟩, ⟨hlP, hlT, hlA, hlC⟩⟩)
      · rw [if_pos (by rfl)]
        go_simp
        refine nameV (fun V2 => Below Wm.heap.size Wm V2 ∧ Blk V2 V1.heap.size 80 (aT N) ∧ Blk V2 Wm.heap.size 4 (aB rs.length)) ⟨hbW.alloc hbW.size _, (Blk.new _ _ _ _ rfl), (KA.out.al _)⟩ fun V2 ⟨hbW2, qKT, qKA⟩ => ?_
        clear KA
        have hzT : Wm.heap.size ≤ V1.heap.size := hbW.size
        clear hbW
        have hbW := hbW2
        clear hbW2
        have KT := Lib.hid qKT
        clear qKT
        have KA := Lib.hid qKA
        clear qKA
        have hS := HQm.out.below hbW
        refine hK.out _ _ ?_ (fun hHeld2 => ?_)
        · clear hK; exact hS
        clear hK K hHeld hS
        have hHeld := hHeld2
        clear hHeld2
        try simp only [Act.put, List.setIfInBounds_toArray, List.set_cons_zero, List.set_cons_succ]
        refine wpAnyH_ready (rs := [5, 13]) (by kernel_rfl) (by simp) ?_
        refine AllReadyH.cons rfl (fun K hK => ?_) (AllReadyH.cons rfl (fun K hK => ?_) AllReadyH.nil)
        · rw [if_pos (by rfl)]
          go_simp
          refine nameV (fun V3 => Below Wm.heap.size Wm V3 ∧ Blk V3 V2.heap.size 71 (aP rs.length) ∧ Blk V3 V1.heap.size 80 (aT N) ∧ Blk V3 Wm.heap.size 4 (aB rs.length)) ⟨hbW.alloc hbW.size _, (Blk.new _ _ _ _ rfl), (KT.out.al _), (KA.out.al _)⟩ fun V3 ⟨hbW2, qKP, qKT, qKA⟩ => ?_
          clear KT KA
          have hzP : Wm.heap.size ≤ V2.heap.size := hbW.size
          clear hbW
          have hbW := hbW2
          clear hbW2
          have KP := Lib.hid qKP
          clear qKP
          have KT := Lib.hid qKT
          clear qKT
          have KA := Lib.hid qKA
          clear qKA
          have hS := HQm.out.below hbW
          refine hK.out _ _ ?_ (fun hHeld2 => ?_)
          · clear hK; exact hS
          clear hK K hHeld hS
          have hHeld := hHeld2
          clear hHeld2
          try simp only [Act.put, List.setIfInBounds_toArray, List.set_cons_zero, List.set_cons_succ]
          refine wpAnyH_ready (rs := [13]) (by kernel_rfl) (by simp) ?_
          refine AllReadyH.cons rfl (fun K hK => ?_) AllReadyH.nil
          rw [if_pos (by rfl)]
          go_simp
          refine nameV (fun V4 => Below Wm.heap.size Wm V4 ∧ Blk V4 V2.heap.size 71 (aP rs.length) ∧ Blk V4 V1.heap.size 80 (aT N) ∧ Blk V4 Wm.heap.size 4 (aB rs.length) ∧ Blk V4 V3.heap.size 4 (aB N)) ⟨hbW.alloc hbW.size _, (KP.out.al _), (KT.out.al _), (KA.out.al _), (Blk.new _ _ _ _ rfl)⟩ fun V4 ⟨hbW2, qKP, qKT, qKA, qKC⟩ => ?_
          clear KP KT KA
          have hzC : Wm.heap.size ≤ V3.heap.size := hbW.size
          clear hbW
          have hbW := hbW2
          clear hbW2
          have KP := Lib.hid qKP
          clear qKP
          have KT := Lib.hid qKT
          clear qKT
          have KA := Lib.hid qKA
          clear qKA
          have KC := Lib.hid qKC
          clear qKC
          have hS := HQm.out.below hbW
          refine hK.out _ _ ?_ (fun hHeld2 => ?_)
          · clear hK; exact hS
          clear hK K hHeld hS
          have hHeld := hHeld2
          clear hHeld2
          try simp only [Act.put, List.setIfInBounds_toArray, List.set_cons_zero, List.set_cons_succ]
          refine takeD 14 (some 23) (v := ?_) rfl rfl (by kernel_rfl) (by kernel_rfl) (by kernel_rfl) (fun _ _ _ h => h) (by rfl) ?_ (by assumption) ?_
          rotate_left
          · intro w hSw
            (try dsimp only at hSw)
            go_simp
            try with_reducible rfl
          try simp only [Act.put, List.setIfInBounds_toArray, List.set_cons_zero, List.set_cons_succ]
          refine wpAnyH_ready (rs := [15]) (by kernel_rfl) (by simp) ?_
          refine AllReadyH.cons rfl (fun K hK => ?_) AllReadyH.nil
          rw [if_pos (by rfl)]
          go_simp
          refine nameV (fun V5 => Below Wm.heap.size Wm V5 ∧ Blk V5 V2.heap.size 71 (aP rs.length) ∧ Blk V5 V1.heap.size 80 (aT N) ∧ Blk V5 Wm.heap.size 4 (aB rs.length) ∧ Blk V5 V3.heap.size 4 (aB N) ∧ Blk V5 V4.heap.size 86 #[.slice none 0 0, .int .i64 c.St, .slice (some ⟨V2.heap.size, 0, none⟩) rs.length rs.length, .slice (some ⟨V1.heap.size, 0, none⟩) N N, .slice (some ⟨Wm.heap.size, 0, none⟩) rs.length rs.length, .slice (some ⟨V3.heap.size, 0, none⟩) N N]) ⟨hbW.alloc hbW.size _, KP.out.al _, KT.out.al _, KA.out.al _, KC.out.al _, Blk.new _ _ _ _ rfl⟩ fun V5 ⟨hbW2, qKP, qKT, qKA, qKC, qB⟩ => ?_
          have hlP := KP.out.lt
          have hlT := KT.out.lt
          have hlA := KA.out.lt
          have hlC := KC.out.lt
          clear KP KT KA KC hbW
          have hbW := hbW2
          clear hbW2
          have KP := Lib.hid qKP
          clear qKP
          have KT := Lib.hid qKT
          clear qKT
          have KA := Lib.hid qKA
          clear qKA
          have KC := Lib.hid qKC
          clear qKC
          have KB := Lib.hid qB
          clear qB
          have hS := HQm.out.below hbW
          refine hK.out _ _ ?_ (fun hHeld2 => ?_)
          · clear hK; exact hS
          clear hK K hHeld hS
          have hHeld := hHeld2
          clear hHeld2
          try simp only [Act.put, List.setIfInBounds_toArray, List.set_cons_zero, List.set_cons_succ]
          refine takeD 16 (some 4) (v := ?_) rfl rfl (by kernel_rfl) (by kernel_rfl) (by kernel_rfl) (fun _ _ _ h => h) (by rfl) ?_ (by assumption) ?_
          rotate_left
          · intro w hSw
            (try dsimp only at hSw)
            go_simp
            try with_reducible rfl
          try simp only [Act.put, List.setIfInBounds_toArray, List.set_cons_zero, List.set_cons_succ]
          refine wpAnyH_done (by kernel_rfl) ?_ _
          clear hHeld dB
          obtain ⟨aP_, haP_⟩ : ∃ x, x = V2.heap.size := ⟨_, rfl⟩
          obtain ⟨aT_, haT_⟩ : ∃ x, x = V1.heap.size := ⟨_, rfl⟩
          obtain ⟨aA_, haA_⟩ : ∃ x, x = Wm.heap.size := ⟨_, rfl⟩
          obtain ⟨aC_, haC_⟩ : ∃ x, x = V3.heap.size := ⟨_, rfl⟩
          obtain ⟨pb, hpb⟩ : ∃ x, x = V4.heap.size := ⟨_, rfl⟩
          rw [← haP_, ← haT_, ← haA_, ← haC_, ← hpb]
          exact REST aP_ aT_ aA_ aC_ pb V5 (by subst haP_ haT_ haA_ haC_ hpb; exact ⟨hbW, KP.out, KT.out, KA.out, KC.out, KB.out, ⟨hzP, hzT, hzA, hzC⟩, ⟨hlP, hlT, hlA, hlC⟩⟩)
        · rw [if_pos (by rfl)]
          go_simp
          refine nameV (fun V3 => Below Wm.heap.size Wm V3 ∧ Blk V3 V1.heap.size 80 (aT N) ∧ Blk V3 Wm.heap.size 4 (aB rs.length) ∧ Blk V3 V2.heap.size 4 (aB N)) ⟨hbW.alloc hbW.size _, (KT.out.al _), (KA.out.al _), (Blk.new _ _ _ _ rfl)⟩ fun V3 ⟨hbW2, qKT, qKA, qKC⟩ => ?_
          clear KT KA
          have hzC : Wm.heap.size ≤ V2.heap.size := hbW.size
          clear hbW
          have hbW := hbW2
          clear hbW2
          have KT := Lib.hid qKT
          clear qKT
          have KA := Lib.hid qKA
          clear qKA
          have KC := Lib.hid qKC
          clear qKC
          have hS := HQm.out.below hbW
          refine hK.out _ _ ?_ (fun hHeld2 => ?_)
          · clear hK; exact hS
          clear hK K hHeld hS
          have hHeld := hHeld2
          clear hHeld2
          try simp only [Act.put, List.setIfInBounds_toArray, List.set_cons_zero, List.set_cons_succ]
          refine wpAnyH_ready (rs := [5]) (by kernel_rfl) (by simp) ?_
          refine AllReadyH.cons rfl (fun K hK => ?_) AllReadyH.nil
          rw [if_pos (by rfl)]
          go_simp
          refine nameV (fun V4 => Below Wm.heap.size Wm V4 ∧ Blk V4 V3.heap.size 71 (aP rs.length) ∧ Blk V4 V1.heap.size 80 (aT N) ∧ Blk V4 Wm.heap.size 4 (aB rs.length) ∧ Blk V4 V2.heap.size 4 (aB N)) ⟨hbW.alloc hbW.size _, (Blk.new _ _ _ _ rfl), (KT.out.al _), (KA.out.al _), (KC.out.al _)⟩ fun V4 ⟨hbW2, qKP, qKT, qKA, qKC⟩ => ?_
          clear KT KA KC
          have hzP : Wm.heap.size ≤ V3.heap.size := hbW.size
          clear hbW
          have hbW := hbW2
          clear hbW2
          have KP := Lib.hid qKP
          clear qKP
          have KT := Lib.hid qKT
          clear qKT
          have KA := Lib.hid qKA
          clear qKA
          have KC := Lib.hid qKC
          clear qKC
          have hS := HQm.out.below hbW
          refine hK.out _ _ ?_ (fun hHeld2 => ?_)
          · clear hK; exact hS
          clear hK K hHeld hS
          have hHeld := hHeld2
          clear hHeld2
          try simp only [Act.put, List.setIfInBounds_toArray, List.set_cons_zero, List.set_cons_succ]
          refine takeD 14 (some 23) (v := ?_) rfl rfl (by kernel_rfl) (by kernel_rfl) (by kernel_rfl) (fun _ _ _ h => h) (by rfl) ?_ (by assumption) ?_
          rotate_left
          · intro w hSw
            (try dsimp only at hSw)
            go_simp
            try with_reducible rfl
          try simp only [Act.put, List.setIfInBounds_toArray, List.set_cons_zero, List.set_cons_succ]
          refine wpAnyH_ready (rs := [15]) (by kernel_rfl) (by simp) ?_
          refine AllReadyH.cons rfl (fun K hK => ?_) AllReadyH.nil
          rw [if_pos (by rfl)]
          go_simp
          refine nameV (fun V5 => Below Wm.heap.size Wm V5 ∧ Blk V5 V3.heap.size 71 (aP rs.length) ∧ Blk V5 V1.heap.size 80 (aT N) ∧ Blk V5 Wm.heap.size 4 (aB rs.length) ∧ Blk V5 V2.heap.size 4 (aB N) ∧ Blk V5 V4.heap.size 86 #[.slice none 0 0, .int .i64 c.St, .slice (some ⟨V3.heap.size, 0, none⟩) rs.length rs.length, .slice (some ⟨V1.heap.size, 0, none⟩) N N, .slice (some ⟨Wm.heap.size, 0, none⟩) rs.length rs.length, .slice (some ⟨V2.heap.size, 0, none⟩) N N]) ⟨hbW.alloc hbW.size _, KP.out.al _, KT.out.al _, KA.out.al _, KC.out.al _, Blk.new _ _ _ _ rfl⟩ fun V5 ⟨hbW2, qKP, qKT, qKA, qKC, qB⟩ => ?_
          have hlP := KP.out.lt
          have hlT := KT.out.lt
          have hlA := KA.out.lt
          have hlC := KC.out.lt
          clear KP KT KA KC hbW
          have hbW := hbW2
          clear hbW2
          have KP := Lib.hid qKP
          clear qKP
          have KT := Lib.hid qKT
          clear qKT
          have KA := Lib.hid qKA
          clear qKA
          have KC := Lib.hid qKC
          clear qKC
          have KB := Lib.hid qB
          clear qB
          have hS := HQm.out.below hbW
          refine hK.out _ _ ?_ (fun hHeld2 => ?_)
          · clear hK; exact hS
          clear hK K hHeld hS
          have hHeld := hHeld2
          clear hHeld2
          try simp only [Act.put, List.setIfInBounds_toArray, List.set_cons_zero, List.set_cons_succ]
          refine takeD 16 (some 4) (v := ?_) rfl rfl (by kernel_rfl) (by kernel_rfl) (by kernel_rfl) (fun _ _ _ h => h) (by rfl) ?_ (by assumption) ?_
          rotate_left
          · intro w hSw
            (try dsimp only at hSw)
            go_simp
            try with_reducible rfl
          try simp only [Act.put, List.setIfInBounds_toArray, List.set_cons_zero, List.set_cons_succ]
          refine wpAnyH_done (by kernel_rfl) ?_ _
          clear hHeld dB
          obtain ⟨aP_, haP_⟩ : ∃ x, x = V3.heap.size := ⟨_, rfl⟩
          obtain ⟨aT_, haT_⟩ : ∃ x, x = V1.heap.size := ⟨_, rfl⟩
          obtain ⟨aA_, haA_⟩ : ∃ x, x = Wm.heap.size := ⟨_, rfl⟩
          obtain ⟨aC_, haC_⟩ : ∃ x, x = V2.heap.size := ⟨_, rfl⟩
          obtain ⟨pb, hpb⟩ : ∃ x, x = V4.heap.size := ⟨_, rfl⟩
          rw [← haP_, ← haT_, ← haA_, ← haC_, ← hpb]
          exact REST aP_ aT_ aA_ aC_ pb V5 (by subst haP_ haT_ haA_ haC_ hpb; exact ⟨hbW, KP.out, KT.out, KA.out, KC.out, KB.out, ⟨hzP, hzT, hzA, hzC⟩, ⟨hlP, hlT, hlA, hlC⟩⟩)
      · rw [if_pos (by rfl)]
        go_simp
        refine nameV (fun V2 => Below Wm.heap.size Wm V2 ∧ Blk V2 Wm.heap.size 4 (aB rs.length) ∧ Blk V2 V1.heap.size 4 (aB N)) ⟨hbW.alloc hbW.size _, (KA.out.al _), (Blk.new _ _ _ _ rfl)⟩ fun V2 ⟨hbW2, qKA, qKC⟩ => ?_
        clear KA
        have hzC : Wm.heap.size ≤ V1.heap.size := hbW.size
        clear hbW
        have hbW := hbW2
        clear hbW2
        have KA := Lib.hid qKA
        clear qKA
        have KC := Lib.hid qKC
        clear qKC
        have hS := HQm.out.below hbW
        refine hK.out _ _ ?_ (fun hHeld2 => ?_)
        · clear hK; exact hS
        clear hK K hHeld hS
        have hHeld := hHeld2
        clear hHeld2
        try simp only [Act.put, List.setIfInBounds_toArray, List.set_cons_zero, List.set_cons_succ]
        refine wpAnyH_ready (rs := [5, 7]) (by kernel_rfl) (by simp) ?_
        refine AllReadyH.cons rfl (fun K hK => ?_) (AllReadyH.cons rfl (fun K hK => ?_) AllReadyH.nil)
        · rw [if_pos (by rfl)]
          go_simp
          refine nameV (fun V3 => Below Wm.heap.size Wm V3 ∧ Blk V3 V2.heap.size 71 (aP rs.length) ∧ Blk V3 Wm.heap.size 4 (aB rs.length) ∧ Blk V3 V1.heap.size 4 (aB N)) ⟨hbW.alloc hbW.size _, (Blk.new _ _ _ _ rfl), (KA.out.al _), (KC.out.al _)⟩ fun V3 ⟨hbW2, qKP, qKA, qKC⟩ => ?_
          clear KA KC
          have hzP : Wm.heap.size ≤ V2.heap.size := hbW.size
          clear hbW
          have hbW := hbW2
          clear hbW2
          have KP := Lib.hid qKP
          clear qKP
          have KA := Lib.hid qKA
          clear qKA
          have KC := Lib.hid qKC
          clear qKC
          have hS := HQm.out.below hbW
          refine hK.out _ _ ?_ (fun hHeld2 => ?_)
          · clear hK; exact hS
          clear hK K hHeld hS
          have hHeld := hHeld2
          clear hHeld2
          try simp only [Act.put, List.setIfInBounds_toArray, List.set_cons_zero, List.set_cons_succ]
          refine wpAnyH_ready (rs := [7]) (by kernel_rfl) (by simp) ?_
          refine AllReadyH.cons rfl (fun K hK => ?_) AllReadyH.nil
          rw [if_pos (by rfl)]
          go_simp
          refine nameV (fun V4 => Below Wm.heap.size Wm V4 ∧ Blk V4 V2.heap.size 71 (aP rs.length) ∧ Blk V4 V3.heap.size 80 (aT N) ∧ Blk V4 Wm.heap.size 4 (aB rs.length) ∧ Blk V4 V1.heap.size 4 (aB N)) ⟨hbW.alloc hbW.size _, (KP.out.al _), (Blk.new _ _ _ _ rfl), (KA.out.al _), (KC.out.al _)⟩ fun V4 ⟨hbW2, qKP, qKT, qKA, qKC⟩ => ?_
          clear KP KA KC
          have hzT : Wm.heap.size ≤ V3.heap.size := hbW.size
          clear hbW
          have hbW := hbW2
          clear hbW2
          have KP := Lib.hid qKP
          clear qKP
          have KT := Lib.hid qKT
          clear qKT
          have KA := Lib.hid qKA
          clear qKA
          have KC := Lib.hid qKC
          clear qKC
          have hS := HQm.out.below hbW
          refine hK.out _ _ ?_ (fun hHeld2 => ?_)
          · clear hK; exact hS
          clear hK K hHeld hS
          have hHeld := hHeld2
          clear hHeld2
          try simp only [Act.put, List.setIfInBounds_toArray, List.set_cons_zero, List.set_cons_succ]
          refine takeD 14 (some 23) (v := ?_) rfl rfl (by kernel_rfl) (by kernel_rfl) (by kernel_rfl) (fun _ _ _ h => h) (by rfl) ?_ (by assumption) ?_
          rotate_left
          · intro w hSw
            (try dsimp only at hSw)
            go_simp
            try with_reducible rfl
          try simp only [Act.put, List.setIfInBounds_toArray, List.set_cons_zero, List.set_cons_succ]
          refine wpAnyH_ready (rs := [15]) (by kernel_rfl) (by simp) ?_
          refine AllReadyH.cons rfl (fun K hK => ?_) AllReadyH.nil
          rw [if_pos (by rfl)]
          go_simp
          refine nameV (fun V5 => Below Wm.heap.size Wm V5 ∧ Blk V5 V2.heap.size 71 (aP rs.length) ∧ Blk V5 V3.heap.size 80 (aT N) ∧ Blk V5 Wm.heap.size 4 (aB rs.length) ∧ Blk V5 V1.heap.size 4 (aB N) ∧ Blk V5 V4.heap.size 86 #[.slice none 0 0, .int .i64 c.St, .slice (some ⟨V2.heap.size, 0, none⟩) rs.length rs.length, .slice (some ⟨V3.heap.size, 0, none⟩) N N, .slice (some ⟨Wm.heap.size, 0, none⟩) rs.length rs.length, .slice (some ⟨V1.heap.size, 0, none⟩) N N]) ⟨hbW.alloc hbW.size _, KP.out.al _, KT.out.al _, KA.out.al _, KC.out.al _, Blk.new _ _ _ _ rfl⟩ fun V5 ⟨hbW2, qKP, qKT, qKA, qKC, qB⟩ => ?_
          have hlP := KP.out.lt
          have hlT := KT.out.lt
          have hlA := KA.out.lt
          have hlC := KC.out.lt
          clear KP KT KA KC hbW
          have hbW := hbW2
          clear hbW2
          have KP := Lib.hid qKP
          clear qKP
          have KT := Lib.hid qKT
          clear qKT
          have KA := Lib.hid qKA
          clear qKA
          have KC := Lib.hid qKC
          clear qKC
          have KB := Lib.hid qB
          clear qB
          have hS := HQm.out.below hbW
          refine hK.out _ _ ?_ (fun hHeld2 => ?_)
          · clear hK; exact hS
          clear hK K hHeld hS
          have hHeld := hHeld2
          clear hHeld2
          try simp only [Act.put, List.setIfInBounds_toArray, List.set_cons_zero, List.set_cons_succ]
          refine takeD 16 (some 4) (v := ?_) rfl rfl (by kernel_rfl) (by kernel_rfl) (by kernel_rfl) (fun _ _ _ h => h) (by rfl) ?_ (by assumption) ?_
          rotate_left
          · intro w hSw
            (try dsimp only at hSw)
            go_simp
            try with_reducible rfl
          try simp only [Act.put, List.setIfInBounds_toArray, List.set_cons_zero, List.set_cons_succ]
          refine wpAnyH_done (by kernel_rfl) ?_ _
          clear hHeld dB
          obtain ⟨aP_, haP_⟩ : ∃ x, x = V2.heap.size := ⟨_, rfl⟩
          obtain ⟨aT_, haT_⟩ : ∃ x, x = V3.heap.size := ⟨_, rfl⟩
          obtain ⟨aA_, haA_⟩ : ∃ x, x = Wm.heap.size := ⟨_, rfl⟩
          obtain ⟨aC_, haC_⟩ : ∃ x, x = V1.heap.size := ⟨_, rfl⟩
          obtain ⟨pb, hpb⟩ : ∃ x, x = V4.heap.size := ⟨_, rfl⟩
          rw [← haP_, ← haT_, ← haA_, ← haC_, ← hpb]
          exact REST aP_ aT_ aA_ aC_ pb V5 (by subst haP_ haT_ haA_ haC_ hpb; exact ⟨hbW, KP.out, KT.out, KA.out, KC.out, KB.out, ⟨hzP, hzT, hzA, hzC⟩, ⟨hlP, hlT, hlA, hlC⟩⟩)
        · rw [if_pos (by rfl)]
          go_simp
          refine nameV (fun V3 => Below Wm.heap.size Wm V3 ∧ Blk V3 V2.heap.size 80 (aT N) ∧ Blk V3 Wm.heap.size 4 (aB rs.length) ∧ Blk V3 V1.heap.size 4 (aB N)) ⟨hbW.alloc hbW.size _, (Blk.new _ _ _ _ rfl), (KA.out.al _), (KC.out.al _)⟩ fun V3 ⟨hbW2, qKT, qKA, qKC⟩ => ?_
          clear KA KC
          have hzT : Wm.heap.size ≤ V2.heap.size := hbW.size
          clear hbW
          have hbW := hbW2
          clear hbW2
          have KT := Lib.hid qKT
          clear qKT
          have KA := Lib.hid qKA
          clear qKA
          have KC := Lib.hid qKC
          clear qKC
          have hS := HQm.out.below hbW
          refine hK.out _ _ ?_ (fun hHeld2 => ?_)
          · clear hK; exact hS
          clear hK K hHeld hS
          have hHeld := hHeld2
          clear hHeld2
          try simp only [Act.put, List.setIfInBounds_toArray, List.set_cons_zero, List.set_cons_succ]
          refine wpAnyH_ready (rs := [5]) (by kernel_rfl) (by simp) ?_
          refine AllReadyH.cons rfl (fun K hK => ?_) AllReadyH.nil
          rw [if_pos (by rfl)]
          go_simp
          refine nameV (fun V4 => Below Wm.heap.size Wm V4 ∧ Blk V4 V3.heap.size 71 (aP rs.length) ∧ Blk V4 V2.heap.size 80 (aT N) ∧ Blk V4 Wm.heap.size 4 (aB rs.length) ∧ Blk V4 V1.heap.size 4 (aB N)) ⟨hbW.alloc hbW.size _, (Blk.new _ _ _ _ rfl), (KT.out.al _), (KA.out.al _), (KC.out.al _)⟩ fun V4 ⟨hbW2, qKP, qKT, qKA, qKC⟩ => ?_
          clear KT KA KC
          have hzP : Wm.heap.size ≤ V3.heap.size := hbW.size
          clear hbW
          have hbW := hbW2
          clear hbW2
          have KP := Lib.hid qKP
          clear qKP
          have KT := Lib.hid qKT
          clear qKT
          have KA := Lib.hid qKA
          clear qKA
          have KC := Lib.hid qKC
          clear qKC
          have hS := HQm.out.below hbW
          refine hK.out _ _ ?_ (fun hHeld2 => ?_)
          · clear hK; exact hS
          clear hK K hHeld hS
          have hHeld := hHeld2
          clear hHeld2
          try simp only [Act.put, List.setIfInBounds_toArray, List.set_cons_zero, List.set_cons_succ]
          refine takeD 14 (some 23) (v := ?_) rfl rfl (by kernel_rfl) (by kernel_rfl) (by kernel_rfl) (fun _ _ _ h => h) (by rfl) ?_ (by assumption) ?_
          rotate_left
          · intro w hSw
            (try dsimp only at hSw)
            go_simp
            try with_reducible rfl
          try simp only [Act.put, List.setIfInBounds_toArray, List.set_cons_zero, List.set_cons_succ]
          refine wpAnyH_ready (rs := [15]) (by kernel_rfl) (by simp) ?_
          refine AllReadyH.cons rfl (fun K hK => ?_) AllReadyH.nil
          rw [if_pos (by rfl)]
          go_simp
          refine nameV (fun V5 => Below Wm.heap.size Wm V5 ∧ Blk V5 V3.heap.size 71 (aP rs.length) ∧ Blk V5 V2.heap.size 80 (aT N) ∧ Blk V5 Wm.heap.size 4 (aB rs.length) ∧ Blk V5 V1.heap.size 4 (aB N) ∧ Blk V5 V4.heap.size 86 #[.slice none 0 0, .int .i64 c.St, .slice (some ⟨V3.heap.size, 0, none⟩) rs.length rs.length, .slice (some ⟨V2.heap.size, 0, none⟩) N N, .slice (some ⟨Wm.heap.size, 0, none⟩) rs.length rs.length, .slice (some ⟨V1.heap.size, 0, none⟩) N N]) ⟨hbW.alloc hbW.size _, KP.out.al _, KT.out.al _, KA.out.al _, KC.out.al _, Blk.new _ _ _ _ rfl⟩ fun V5 ⟨hbW2, qKP, qKT, qKA, qKC, qB⟩ => ?_
          have hlP := KP.out.lt
          have hlT := KT.out.lt
          have hlA := KA.out.lt
          have hlC := KC.out.lt
          clear KP KT KA KC hbW
          have hbW := hbW2
          clear hbW2
          have KP := Lib.hid qKP
          clear qKP
          have KT := Lib.hid qKT
          clear qKT
          have KA := Lib.hid qKA
          clear qKA
          have KC := Lib.hid qKC
          clear qKC
          have KB := Lib.hid qB
          clear qB
          have hS := HQm.out.below hbW
          refine hK.out _ _ ?_ (fun hHeld2 => ?_)
          · clear hK; exact hS
          clear hK K hHeld hS
          have hHeld := hHeld2
          clear hHeld2
          try simp only [Act.put, List.setIfInBounds_toArray, List.set_cons_zero, List.set_cons_succ]
          refine takeD 16 (some 4) (v := ?_) rfl rfl (by kernel_rfl) (by kernel_rfl) (by kernel_rfl) (fun _ _ _ h => h) (by rfl) ?_ (by assumption) ?_
          rotate_left
          · intro w hSw
            (try dsimp only at hSw)
            go_simp
            try with_reducible rfl
          try simp only [Act.put, List.setIfInBounds_toArray, List.set_cons_zero, List.set_cons_succ]
          refine wpAnyH_done (by kernel_rfl) ?_ _
          clear hHeld dB
          obtain ⟨aP_, haP_⟩ : ∃ x, x = V3.heap.size := ⟨_, rfl⟩
          obtain ⟨aT_, haT_⟩ : ∃ x, x = V2.heap.size := ⟨_, rfl⟩
          obtain ⟨aA_, haA_⟩ : ∃ x, x = Wm.heap.size := ⟨_, rfl⟩
          obtain ⟨aC_, haC_⟩ : ∃ x, x = V1.heap.size := ⟨_, rfl⟩
          obtain ⟨pb, hpb⟩ : ∃ x, x = V4.heap.size := ⟨_, rfl⟩
          rw [← haP_, ← haT_, ← haA_, ← haC_, ← hpb]
          exact REST aP_ aT_ aA_ aC_ pb V5 (by subst haP_ haT_ haA_ haC_ hpb; exact ⟨hbW, KP.out, KT.out, KA.out, KC.out, KB.out, ⟨hzP, hzT, hzA, hzC⟩, ⟨hlP, hlT, hlA, hlC⟩⟩)
    · rw [if_pos (by rfl)]
      go_simp
      refine nameV (fun V1 => Below Wm.heap.size Wm V1 ∧ Blk V1 Wm.heap.size 4 (aB N)) ⟨(hbW.alloc hbW.size _).drew, (Blk.drw (Blk.new _ _ _ _ rfl))⟩ fun V1 ⟨hbW2, qKC⟩ => ?_
      have hzC : Wm.heap.size ≤ Wm.heap.size := Nat.le_refl _
      clear hbW
      have hbW := hbW2
      clear hbW2
      have KC := Lib.hid qKC
      clear qKC
      have hS := HQm.out.below hbW
      refine hK.out _ _ ?_ (fun hHeld2 => ?_)
      · clear hK; exact hS
      clear hK K hHeld hS
      have hHeld := hHeld2
      clear hHeld2
      try simp only [Act.put, List.setIfInBounds_toArray, List.set_cons_zero, List.set_cons_succ]
      refine wpAnyH_ready (rs := [5, 7, 11]) (by kernel_rfl) (by simp) ?_
      refine AllReadyH.cons rfl (fun K hK => ?_) (AllReadyH.cons rfl (fun K hK => ?_) (AllReadyH.cons rfl (fun K hK => ?_) AllReadyH.nil))
      · rw [if_pos (by rfl)]
        go_simp
        refine nameV (fun V2 => Below Wm.heap.size Wm V2 ∧ Blk V2 V1.heap.size 71 (aP rs.length) ∧ Blk V2 Wm.heap.size 4 (aB N)) ⟨hbW.alloc hbW.size _, (Blk.new _ _ _ _ rfl), (KC.out.al _)⟩ fun V2 ⟨hbW2, qKP, qKC⟩ => ?_
        clear KC
        have hzP : Wm.heap.size ≤ V1.heap.size := hbW.size
        clear hbW
        have hbW := hbW2
        clear hbW2
        have KP := Lib.hid qKP
        clear qKP
        have KC := Lib.hid qKC
        clear qKC
        have hS := HQm.out.below hbW
        refine hK.out _ _ ?_ (fun hHeld2 => ?_)
        · clear hK; exact hS
        clear hK K hHeld hS
        have hHeld := hHeld2
        clear hHeld2
        try simp only [Act.put, List.setIfInBounds_toArray, List.set_cons_zero, List.set_cons_succ]
        refine wpAnyH_ready (rs := [7, 11]) (by kernel_rfl) (by simp) ?_
        refine AllReadyH.cons rfl (fun K hK => ?_) (AllReadyH.cons rfl (fun K hK => ?_) AllReadyH.nil)
        · rw [if_pos (by rfl)]
          go_simp
          refine nameV (fun V3 => Below Wm.heap.size Wm V3 ∧ Blk V3 V1.heap.size 71 (aP rs.length) ∧ Blk V3 V2.heap.size 80 (aT N) ∧ Blk V3 Wm.heap.size 4 (aB N)) ⟨hbW.alloc hbW.size _, (KP.out.al _), (Blk.new _ _ _ _ rfl), (KC.out.al _)⟩ fun V3 ⟨hbW2, qKP, qKT, qKC⟩ => ?_
          clear KP KC
          have hzT : Wm.heap.size ≤ V2.heap.size := hbW.size
          clear hbW
          have hbW := hbW2
          clear hbW2
          have KP := Lib.hid qKP
          clear qKP
          have KT := Lib.hid qKT
          clear qKT
          have KC := Lib.hid qKC
          clear qKC
          have hS := HQm.out.below hbW
          refine hK.out _ _ ?_ (fun hHeld2 => ?_)
          · clear hK; exact hS
          clear hK K hHeld hS
          have hHeld := hHeld2
          clear hHeld2
          try simp only [Act.put, List.setIfInBounds_toArray, List.set_cons_zero, List.set_cons_succ]
          refine wpAnyH_ready (rs := [11]) (by kernel_rfl) (by simp) ?_
          refine AllReadyH.cons rfl (fun K hK => ?_) AllReadyH.nil
          rw [if_pos (by rfl)]
          go_simp
          refine nameV (fun V4 => Below Wm.heap.size Wm V4 ∧ Blk V4 V1.heap.size 71 (aP rs.length) ∧ Blk V4 V2.heap.size 80 (aT N) ∧ Blk V4 V3.heap.size 4 (aB rs.length) ∧ Blk V4 Wm.heap.size 4 (aB N)) ⟨hbW.alloc hbW.size _, (KP.out.al _), (KT.out.al _), (Blk.new _ _ _ _ rfl), (KC.out.al _)⟩ fun V4 ⟨hbW2, qKP, qKT, qKA, qKC⟩ => ?_
          clear KP KT KC
          have hzA : Wm.heap.size ≤ V3.heap.size := hbW.size
          clear hbW
          have hbW := hbW2
          clear hbW2
          have KP := Lib.hid qKP
          clear qKP
          have KT := Lib.hid qKT
          clear qKT
          have KA := Lib.hid qKA
          clear qKA
          have KC := Lib.hid qKC
          clear qKC
          have hS := HQm.out.below hbW
          refine hK.out _ _ ?_ (fun hHeld2 => ?_)
          · clear hK; exact hS
          clear hK K hHeld hS
          have hHeld := hHeld2
          clear hHeld2
          try simp only [Act.put, List.setIfInBounds_toArray, List.set_cons_zero, List.set_cons_succ]
          refine takeD 14 (some 23) (v := ?_) rfl rfl (by kernel_rfl) (by kernel_rfl) (by kernel_rfl) (fun _ _ _ h => h) (by rfl) ?_ (by assumption) ?_
          rotate_left
          · intro w hSw
            (try dsimp only at hSw)
            go_simp
            try with_reducible rfl
          try simp only [Act.put, List.setIfInBounds_toArray, List.set_cons_zero, List.set_cons_succ]
          refine wpAnyH_ready (rs := [15]) (by kernel_rfl) (by simp) ?_
          refine AllReadyH.cons rfl (fun K hK => ?_) AllReadyH.nil
          rw [if_pos (by rfl)]
          go_simp
          refine nameV (fun V5 => Below Wm.heap.size Wm V5 ∧ Blk V5 V1.heap.size 71 (aP rs.length) ∧ Blk V5 V2.heap.size 80 (aT N) ∧ Blk V5 V3.heap.size 4 (aB rs.length) ∧ Blk V5 Wm.heap.size 4 (aB N) ∧ Blk V5 V4.heap.size 86 #[.slice none 0 0, .int .i64 c.St, .slice (some ⟨V1.heap.size, 0, none⟩) rs.length rs.length, .slice (some ⟨V2.heap.size, 0, none⟩) N N, .slice (some ⟨V3.heap.size, 0, none⟩) rs.length rs.length, .slice (some ⟨Wm.heap.size, 0, none⟩) N N]) ⟨hbW.alloc hbW.size _, KP.out.al _, KT.out.al _, KA.out.al _, KC.out.al _, Blk.new _ _ _ _ rfl⟩ fun V5 ⟨hbW2, qKP, qKT, qKA, qKC, qB⟩ => ?_
          have hlP := KP.out.lt
          have hlT := KT.out.lt
          have hlA := KA.out.lt
          have hlC := KC.out.lt
          clear KP KT KA KC hbW
          have hbW := hbW2
          clear hbW2
          have KP := Lib.hid qKP
          clear qKP
          have KT := Lib.hid qKT
          clear qKT
          have KA := Lib.hid qKA
          clear qKA
          have KC := Lib.hid qKC
          clear qKC
          have KB := Lib.hid qB
          clear qB
          have hS := HQm.out.below hbW
          refine hK.out _ _ ?_ (fun hHeld2 => ?_)
          · clear hK; exact hS
          clear hK K hHeld hS
          have hHeld := hHeld2
          clear hHeld2
          try simp only [Act.put, List.setIfInBounds_toArray, List.set_cons_zero, List.set_cons_succ]
          refine takeD 16 (some 4) (v := ?_) rfl rfl (by kernel_rfl) (by kernel_rfl) (by kernel_rfl) (fun _ _ _ h => h) (by rfl) ?_ (by assumption) ?_
          rotate_left
          · intro w hSw
            (try dsimp only at hSw)
            go_simp
            try with_reducible rfl
          try simp only [Act.put, List.setIfInBounds_toArray, List.set_cons_zero, List.set_cons_succ]
          refine wpAnyH_done (by kernel_rfl) ?_ _
          clear hHeld dB
          obtain ⟨aP_, haP_⟩ : ∃ x, x = V1.heap.size := ⟨_, rfl⟩
          obtain ⟨aT_, haT_⟩ : ∃ x, x = V2.heap.size := ⟨_, rfl⟩
          obtain ⟨aA_, haA_⟩ : ∃ x, x = V3.heap.size := ⟨_, rfl⟩
          obtain ⟨aC_, haC_⟩ : ∃ x, x = Wm.heap.size := ⟨_, rfl⟩
          obtain ⟨pb, hpb⟩ : ∃ x, x = V4.heap.size := ⟨_, rfl⟩
          rw [← haP_, ← haT_, ← haA_, ← haC_, ← hpb]
          exact REST aP_ aT_ aA_ aC_ pb V5 (by subst haP_ haT_ haA_ haC_ hpb; exact ⟨hbW, KP.out, KT.out, KA.out, KC.out, KB.out, ⟨hzP, hzT, hzA, hzC⟩, ⟨hlP, hlT, hlA, hlC⟩⟩)
        · rw [if_pos (by rfl)]
          go_simp
          refine nameV (fun V3 => Below Wm.heap.size Wm V3 ∧ Blk V3 V1.heap.size 71 (aP rs.length) ∧ Blk V3 V2.heap.size 4 (aB rs.length) ∧ Blk V3 Wm.heap.size 4 (aB N)) ⟨hbW.alloc hbW.size _, (KP.out.al _), (Blk.new _ _ _ _ rfl), (KC.out.al _)⟩ fun V3 ⟨hbW2, qKP, qKA, qKC⟩ => ?_
          clear KP KC
          have hzA : Wm.heap.size ≤ V2.heap.size := hbW.size
          clear hbW
          have hbW := hbW2
          clear hbW2
          have KP := Lib.hid qKP
          clear qKP
          have KA := Lib.hid qKA
          clear qKA
          have KC := Lib.hid qKC
          clear qKC
          have hS := HQm.out.below hbW
          refine hK.out _ _ ?_ (fun hHeld2 => ?_)
          · clear hK; exact hS
          clear hK K hHeld hS
          have hHeld := hHeld2
          clear hHeld2
          try simp only [Act.put, List.setIfInBounds_toArray, List.set_cons_zero, List.set_cons_succ]
          refine wpAnyH_ready (rs := [7]) (by kernel_rfl) (by simp) ?_
          refine AllReadyH.cons rfl (fun K hK => ?_) AllReadyH.nil
          rw [if_pos (by rfl)]
          go_simp
          refine nameV (fun V4 => Below Wm.heap.size Wm V4 ∧ Blk V4 V1.heap.size 71 (aP rs.length) ∧ Blk V4 V3.heap.size 80 (aT N) ∧ Blk V4 V2.heap.size 4 (aB rs.length) ∧ Blk V4 Wm.heap.size 4 (aB N)) ⟨hbW.alloc hbW.size _, (KP.out.al _), (Blk.new _ _ _ _ rfl), (KA.out.al _), (KC.out.al _)⟩ fun V4 ⟨hbW2, qKP, qKT, qKA, qKC⟩ => ?_
          clear KP KA KC
          have hzT : Wm.heap.size ≤ V3.heap.size := hbW.size
          clear hbW
          have hbW := hbW2
          clear hbW2
          have KP := Lib.hid qKP
          clear qKP
          have KT := Lib.hid qKT
          clear qKT
          have KA := Lib.hid qKA
          clear qKA
          have KC := Lib.hid qKC
          clear qKC
          have hS := HQm.out.below hbW
          refine hK.out _ _ ?_ (fun hHeld2 => ?_)
          · clear hK; exact hS
          clear hK K hHeld hS
          have hHeld := hHeld2
          clear hHeld2
          try simp only [Act.put, List.setIfInBounds_toArray, List.set_cons_zero, List.set_cons_succ]
          refine takeD 14 (some 23) (v := ?_) rfl rfl (by kernel_rfl) (by kernel_rfl) (by kernel_rfl) (fun _ _ _ h => h) (by rfl) ?_ (by assumption) ?_
          rotate_left
          · intro w hSw
            (try dsimp only at hSw)
            go_simp
            try with_reducible rfl
          try simp only [Act.put, List.setIfInBounds_toArray, List.set_cons_zero, List.set_cons_succ]
          refine wpAnyH_ready (rs := [15]) (by kernel_rfl) (by simp) ?_
          refine AllReadyH.cons rfl (fun K hK => ?_) AllReadyH.nil
          rw [if_pos (by rfl)]
          go_simp
          refine nameV (fun V5 => Below Wm.heap.size Wm V5 ∧ Blk V5 V1.heap.size 71 (aP rs.length) ∧ Blk V5 V3.heap.size 80 (aT N) ∧ Blk V5 V2.heap.size 4 (aB rs.length) ∧ Blk V5 Wm.heap.size 4 (aB N) ∧ Blk V5 V4.heap.size 86 #[.slice none 0 0, .int .i64 c.St, .slice (some ⟨V1.heap.size, 0, none⟩) rs.length rs.length, .slice (some ⟨V3.heap.size, 0, none⟩) N N, .slice (some ⟨V2.heap.size, 0, none⟩) rs.length rs.length, .slice (some ⟨Wm.heap.size, 0, none⟩) N N]) ⟨hbW.alloc hbW.size _, KP.out.al _, KT.out.al _, KA.out.al _, KC.out.al _, Blk.new _ _ _ _ rfl⟩ fun V5 ⟨hbW2, qKP, qKT, qKA, qKC, qB⟩ => ?_
          have hlP := KP.out.lt
          have hlT := KT.out.lt
          have hlA := KA.out.lt
          have hlC := KC.out.lt
          clear KP KT KA KC hbW
          have hbW := hbW2
          clear hbW2
          have KP := Lib.hid qKP
          clear qKP
          have KT := Lib.hid qKT
          clear qKT
          have KA := Lib.hid qKA
          clear qKA
          have KC := Lib.hid qKC
          clear qKC
          have KB := Lib.hid qB
          clear qB
          have hS := HQm.out.below hbW
          refine hK.out _ _ ?_ (fun hHeld2 => ?_)
          · clear hK; exact hS
          clear hK K hHeld hS
          have hHeld := hHeld2
          clear hHeld2
          try simp only [Act.put, List.setIfInBounds_toArray, List.set_cons_zero, List.set_cons_succ]
          refine takeD 16 (some 4) (v := ?_) rfl rfl (by kernel_rfl) (by kernel_rfl) (by kernel_rfl) (fun _ _ _ h => h) (by rfl) ?_ (by assumption) ?_
          rotate_left
          · intro w hSw
            (try dsimp only at hSw)
            go_simp
            try with_reducible rfl
          try simp only [Act.put, List.setIfInBounds_toArray, List.set_cons_zero, List.set_cons_succ]
          refine wpAnyH_done (by kernel_rfl) ?_ _
          clear hHeld dB
          obtain ⟨aP_, haP_⟩ : ∃ x, x = V1.heap.size := ⟨_, rfl⟩
          obtain ⟨aT_, haT_⟩ : ∃ x, x = V3.heap.size := ⟨_, rfl⟩
          obtain ⟨aA_, haA_⟩ : ∃ x, x = V2.heap.size := ⟨_, rfl⟩
          obtain ⟨aC_, haC_⟩ : ∃ x, x = Wm.heap.size := ⟨_, rfl⟩
          obtain ⟨pb, hpb⟩ : ∃ x, x = V4.heap.size := ⟨_, rfl⟩
          rw [← haP_, ← haT_, ← haA_, ← haC_, ← hpb]
          exact REST aP_ aT_ aA_ aC_ pb V5 (by subst haP_ haT_ haA_ haC_ hpb; exact ⟨hbW, KP.out, KT.out, KA.out, KC.out, KB.out, ⟨hzP, hzT, hzA, hzC⟩, ⟨hlP, hlT, hlA, hlC⟩⟩)
      · rw [if_pos (by rfl)]
        go_simp
        refine nameV (fun V2 => Below Wm.heap.size Wm V2 ∧ Blk V2 V1.heap.size 80 (aT N) ∧ Blk V2 Wm.heap.size 4 (aB N)) ⟨hbW.alloc hbW.size _, (Blk.new _ _ _ _ rfl), (KC.out.al _)⟩ fun V2 ⟨hbW2, qKT, qKC⟩ => ?_
        clear KC
        have hzT : Wm.heap.size ≤ V1.heap.size := hbW.size
        clear hbW
        have hbW := hbW2
        clear hbW2
        have KT := Lib.hid qKT
        clear qKT
        have KC := Lib.hid qKC
        clear qKC
        have hS := HQm.out.below hbW
        refine hK.out _ _ ?_ (fun hHeld2 => ?_)
        · clear hK; exact hS
        clear hK K hHeld hS
        have hHeld := hHeld2
        clear hHeld2
        try simp only [Act.put, List.setIfInBounds_toArray, List.set_cons_zero, List.set_cons_succ]
        refine wpAnyH_ready (rs := [5, 11]) (by kernel_rfl) (by simp) ?_
        refine AllReadyH.cons rfl (fun K hK => ?_) (AllReadyH.cons rfl (fun K hK => ?_) AllReadyH.nil)
        · rw [if_pos (by rfl)]
          go_simp
          refine nameV (fun V3 => Below Wm.heap.size Wm V3 ∧ Blk V3 V2.heap.size 71 (aP rs.length) ∧ Blk V3 V1.heap.size 80 (aT N) ∧ Blk V3 Wm.heap.size 4 (aB N)) ⟨hbW.alloc hbW.size _, (Blk.new _ _ _ _ rfl), (KT.out.al _), (KC.out.al _)⟩ fun V3 ⟨hbW2, qKP, qKT, qKC⟩ => ?_
          clear KT KC
          have hzP : Wm.heap.size ≤ V2.heap.size := hbW.size
          clear hbW
          have hbW := hbW2
          clear hbW2
          have KP := Lib.hid qKP
          clear qKP
          have KT := Lib.hid qKT
          clear qKT
          have KC := Lib.hid qKC
          clear qKC
          have hS := HQm.out.below hbW
          refine hK.out _ _ ?_ (fun hHeld2 => ?_)
          · clear hK; exact hS
          clear hK K hHeld hS
          have hHeld := hHeld2
          clear hHeld2
          try simp only [Act.put, List.setIfInBounds_toArray, List.set_cons_zero, List.set_cons_succ]
          refine wpAnyH_ready (rs := [11]) (by kernel_rfl) (by simp) ?_
          refine AllReadyH.cons rfl (fun K hK => ?_) AllReadyH.nil
          rw [if_pos (by rfl)]
          go_simp
          refine nameV (fun V4 => Below Wm.heap.size Wm V4 ∧ Blk V4 V2.heap.size 71 (aP rs.length) ∧ Blk V4 V1.heap.size 80 (aT N) ∧ Blk V4 V3.heap.size 4 (aB rs.length) ∧ Blk V4 Wm.heap.size 4 (aB N)) ⟨hbW.alloc hbW.size _, (KP.out.al _), (KT.out.al _), (Blk.new _ _ _ _ rfl), (KC.out.al _)⟩ fun V4 ⟨hbW2, qKP, qKT, qKA, qKC⟩ => ?_
          clear KP KT KC
          have hzA : Wm.heap.size ≤ V3.heap.size := hbW.size
          clear hbW
          have hbW := hbW2
          clear hbW2
          have KP := Lib.hid qKP
          clear qKP
          have KT := Lib.hid qKT
          clear qKT
          have KA := Lib.hid qKA
          clear qKA
          have KC := Lib.hid qKC
          clear qKC
          have hS := HQm.out.below hbW
          refine hK.out _ _ ?_ (fun hHeld2 => ?_)
          · clear hK; exact hS
          clear hK K hHeld hS
          have hHeld := hHeld2
          clear hHeld2
          try simp only [Act.put, List.setIfInBounds_toArray, List.set_cons_zero, List.set_cons_succ]
          refine takeD 14 (some 23) (v := ?_) rfl rfl (by kernel_rfl) (by kernel_rfl) (by kernel_rfl) (fun _ _ _ h => h) (by rfl) ?_ (by assumption) ?_
          rotate_left
          · intro w hSw
            (try dsimp only at hSw)
            go_simp
            try with_reducible rfl
          try simp only [Act.put, List.setIfInBounds_toArray, List.set_cons_zero, List.set_cons_succ]
          refine wpAnyH_ready (rs := [15]) (by kernel_rfl) (by simp) ?_
          refine AllReadyH.cons rfl (fun K hK => ?_) AllReadyH.nil
          rw [if_pos (by rfl)]
          go_simp
          refine nameV (fun V5 => Below Wm.heap.size Wm V5 ∧ Blk V5 V2.heap.size 71 (aP rs.length) ∧ Blk V5 V1.heap.size 80 (aT N) ∧ Blk V5 V3.heap.size 4 (aB rs.length) ∧ Blk V5 Wm.heap.size 4 (aB N) ∧ Blk V5 V4.heap.size 86 #[.slice none 0 0, .int .i64 c.St, .slice (some ⟨V2.heap.size, 0, none⟩) rs.length rs.length, .slice (some ⟨V1.heap.size, 0, none⟩) N N, .slice (some ⟨V3.heap.size, 0, none⟩) rs.length rs.length, .slice (some ⟨Wm.heap.size, 0, none⟩) N N]) ⟨hbW.alloc hbW.size _, KP.out.al _, KT.out.al _, KA.out.al _, KC.out.al _, Blk.new _ _ _ _ rfl⟩ fun V5 ⟨hbW2, qKP, qKT, qKA, qKC, qB⟩ => ?_
          have hlP := KP.out.lt
          have hlT := KT.out.lt
          have hlA := KA.out.lt
          have hlC := KC.out.lt
          clear KP KT KA KC hbW
          have hbW := hbW2
          clear hbW2
          have KP := Lib.hid qKP
          clear qKP
          have KT := Lib.hid qKT
          clear qKT
          have KA := Lib.hid qKA
          clear qKA
          have KC := Lib.hid qKC
          clear qKC
          have KB := Lib.hid qB
          clear qB
          have hS := HQm.out.below hbW
          refine hK.out _ _ ?_ (fun hHeld2 => ?_)
          · clear hK; exact hS
          clear hK K hHeld hS
          have hHeld := hHeld2
          clear hHeld2
          try simp only [Act.put, List.setIfInBounds_toArray, List.set_cons_zero, List.set_cons_succ]
          refine takeD 16 (some 4) (v := ?_) rfl rfl (by kernel_rfl) (by kernel_rfl) (by kernel_rfl) (fun _ _ _ h => h) (by rfl) ?_ (by assumption) ?_
          rotate_left
          · intro w hSw
            (try dsimp only at hSw)
            go_simp
            try with_reducible rfl
          try simp only [Act.put, List.setIfInBounds_toArray, List.set_cons_zero, List.set_cons_succ]
          refine wpAnyH_done (by kernel_rfl) ?_ _
          clear hHeld dB
          obtain ⟨aP_, haP_⟩ : ∃ x, x = V2.heap.size := ⟨_, rfl⟩
          obtain ⟨aT_, haT_⟩ : ∃ x, x = V1.heap.size := ⟨_, rfl⟩
          obtain ⟨aA_, haA_⟩ : ∃ x, x = V3.heap.size := ⟨_, rfl⟩
          obtain ⟨aC_, haC_⟩ : ∃ x, x = Wm.heap.size := ⟨_, rfl⟩
          obtain ⟨pb, hpb⟩ : ∃ x, x = V4.heap.size := ⟨_, rfl⟩
          rw [← haP_, ← haT_, ← haA_, ← haC_, ← hpb]
          exact REST aP_ aT_ aA_ aC_ pb V5 (by subst haP_ haT_ haA_ haC_ hpb; exact ⟨hbW, KP.out, KT.out, KA.out, KC.out, KB.out, ⟨hzP, hzT, hzA, hzC⟩, ⟨hlP, hlT, hlA, hlC⟩⟩)
        · rw [if_pos (by rfl)]
          go_simp
          refine nameV (fun V3 => Below Wm.heap.size Wm V3 ∧ Blk V3 V1.heap.size 80 (aT N) ∧ Blk V3 V2.heap.size 4 (aB rs.length) ∧ Blk V3 Wm.heap.size 4 (aB N)) ⟨hbW.alloc hbW.size _, (KT.out.al _), (Blk.new _ _ _ _ rfl), (KC.out.al _)⟩ fun V3 ⟨hbW2, qKT, qKA, qKC⟩ => ?_
          clear KT KC
          have hzA : Wm.heap.size ≤ V2.heap.size := hbW.size
          clear hbW
          have hbW := hbW2
          clear hbW2
          have KT := Lib.hid qKT
          clear qKT
          have KA := Lib.hid qKA
          clear qKA
          have KC := Lib.hid qKC
          clear qKC
          have hS := HQm.out.below hbW
          refine hK.out _ _ ?_ (fun hHeld2 => ?_)
          · clear hK; exact hS
          clear hK K hHeld hS
          have hHeld := hHeld2
          clear hHeld2
          try simp only [Act.put, List.setIfInBounds_toArray, List.set_cons_zero, List.set_cons_succ]
          refine wpAnyH_ready (rs := [5]) (by kernel_rfl) (by simp) ?_
          refine AllReadyH.cons rfl (fun K hK => ?_) AllReadyH.nil
          rw [if_pos (by rfl)]
          go_simp
          refine nameV (fun V4 => Below Wm.heap.size Wm V4 ∧ Blk V4 V3.heap.size 71 (aP rs.length) ∧ Blk V4 V1.heap.size 80 (aT N) ∧ Blk V4 V2.heap.size 4 (aB rs.length) ∧ Blk V4 Wm.heap.size 4 (aB N)) ⟨hbW.alloc hbW.size _, (Blk.new _ _ _ _ rfl), (KT.out.al _), (KA.out.al _), (KC.out.al _)⟩ fun V4 ⟨hbW2, qKP, qKT, qKA, qKC⟩ => ?_
          clear KT KA KC
          have hzP : Wm.heap.size ≤ V3.heap.size := hbW.size
          clear hbW
          have hbW := hbW2
          clear hbW2
          have KP := Lib.hid qKP
          clear qKP
          have KT := Lib.hid qKT
          clear qKT
          have KA := Lib.hid qKA
          clear qKA
          have KC := Lib.hid qKC
          clear qKC
          have hS := HQm.out.below hbW
          refine hK.out _ _ ?_ (fun hHeld2 => ?_)
          · clear hK; exact hS
          clear hK K hHeld hS
          have hHeld := hHeld2
          clear hHeld2
          try simp only [Act.put, List.setIfInBounds_toArray, List.set_cons_zero, List.set_cons_succ]
          refine takeD 14 (some 23) (v := ?_) rfl rfl (by kernel_rfl) (by kernel_rfl) (by kernel_rfl) (fun _ _ _ h => h) (by rfl) ?_ (by assumption) ?_
          rotate_left
          · intro w hSw
            (try dsimp only at hSw)
            go_simp
            try with_reducible rfl
          try simp only [Act.put, List.setIfInBounds_toArray, List.set_cons_zero, List.set_cons_succ]
          refine wpAnyH_ready (rs := [15]) (by kernel_rfl) (by simp) ?_
          refine AllReadyH.cons rfl (fun K hK => ?_) AllReadyH.nil
          rw [if_pos (by rfl)]
          go_simp
          refine nameV (fun V5 => Below Wm.heap.size Wm V5 ∧ Blk V5 V3.heap.size 71 (aP rs.length) ∧ Blk V5 V1.heap.size 80 (aT N) ∧ Blk V5 V2.heap.size 4 (aB rs.length) ∧ Blk V5 Wm.heap.size 4 (aB N) ∧ Blk V5 V4.heap.size 86 #[.slice none 0 0, .int .i64 c.St, .slice (some ⟨V3.heap.size, 0, none⟩) rs.length rs.length, .slice (some ⟨V1.heap.size, 0, none⟩) N N, .slice (some ⟨V2.heap.size, 0, none⟩) rs.length rs.length, .slice (some ⟨Wm.heap.size, 0, none⟩) N N]) ⟨hbW.alloc hbW.size _, KP.out.al _, KT.out.al _, KA.out.al _, KC.out.al _, Blk.new _ _ _ _ rfl⟩ fun V5 ⟨hbW2, qKP, qKT, qKA, qKC, qB⟩ => ?_
          have hlP := KP.out.lt
          have hlT := KT.out.lt
          have hlA := KA.out.lt
          have hlC := KC.out.lt
          clear KP KT KA KC hbW
          have hbW := hbW2
          clear hbW2
          have KP := Lib.hid qKP
          clear qKP
          have KT := Lib.hid qKT
          clear qKT
          have KA := Lib.hid qKA
          clear qKA
          have KC := Lib.hid qKC
          clear qKC
          have KB := Lib.hid qB
          clear qB
          have hS := HQm.out.below hbW
          refine hK.out _ _ ?_ (fun hHeld2 => ?_)
          · clear hK; exact hS
          clear hK K hHeld hS
          have hHeld := hHeld2
          clear hHeld2
          try simp only [Act.put, List.setIfInBounds_toArray, List.set_cons_zero, List.set_cons_succ]
          refine takeD 16 (some 4) (v := ?_) rfl rfl (by kernel_rfl) (by kernel_rfl) (by kernel_rfl) (fun _ _ _ h => h) (by rfl) ?_ (by assumption) ?_
          rotate_left
          · intro w hSw
            (try dsimp only at hSw)
            go_simp
            try with_reducible rfl
          try simp only [Act.put, List.setIfInBounds_toArray, List.set_cons_zero, List.set_cons_succ]
          refine wpAnyH_done (by kernel_rfl) ?_ _
          clear hHeld dB
          obtain ⟨aP_, haP_⟩ : ∃ x, x = V3.heap.size := ⟨_, rfl⟩
          obtain ⟨aT_, haT_⟩ : ∃ x, x = V1.heap.size := ⟨_, rfl⟩
          obtain ⟨aA_, haA_⟩ : ∃ x, x = V2.heap.size := ⟨_, rfl⟩
          obtain ⟨aC_, haC_⟩ : ∃ x, x = Wm.heap.size := ⟨_, rfl⟩
          obtain ⟨pb, hpb⟩ : ∃ x, x = V4.heap.size := ⟨_, rfl⟩
          rw [← haP_, ← haT_, ← haA_, ← haC_, ← hpb]
          exact REST aP_ aT_ aA_ aC_ pb V5 (by subst haP_ haT_ haA_ haC_ hpb; exact ⟨hbW, KP.out, KT.out, KA.out, KC.out, KB.out, ⟨hzP, hzT, hzA, hzC⟩, ⟨hlP, hlT, hlA, hlC⟩⟩)
      · rw [if_pos (by rfl)]
        go_simp
        refine nameV (fun V2 => Below Wm.heap.size Wm V2 ∧ Blk V2 V1.heap.size 4 (aB rs.length) ∧ Blk V2 Wm.heap.size 4 (aB N)) ⟨hbW.alloc hbW.size _, (Blk.new _ _ _ _ rfl), (KC.out.al _)⟩ fun V2 ⟨hbW2, qKA, qKC⟩ => ?_
        clear KC
        have hzA : Wm.heap.size ≤ V1.heap.size := hbW.size
        clear hbW
        have hbW := hbW2
        clear hbW2
        have KA := Lib.hid qKA
        clear qKA
        have KC := Lib.hid qKC
        clear qKC
        have hS := HQm.out.below hbW
        refine hK.out _ _ ?_ (fun hHeld2 => ?_)
        · clear hK; exact hS
        clear hK K hHeld hS
        have hHeld := hHeld2
        clear hHeld2
        try simp only [Act.put, List.setIfInBounds_toArray, List.set_cons_zero, List.set_cons_succ]
        refine wpAnyH_ready (rs := [5, 7]) (by kernel_rfl) (by simp) ?_
        refine AllReadyH.cons rfl (fun K hK => ?_) (AllReadyH.cons rfl (fun K hK => ?_) AllReadyH.nil)
        · rw [if_pos (by rfl)]
          go_simp
          refine nameV (fun V3 => Below Wm.heap.size Wm V3 ∧ Blk V3 V2.heap.size 71 (aP rs.length) ∧ Blk V3 V1.heap.size 4 (aB rs.length) ∧ Blk V3 Wm.heap.size 4 (aB N)) ⟨hbW.alloc hbW.size _, (Blk.new _ _ _ _ rfl), (KA.out.al _), (KC.out.al _)⟩ fun V3 ⟨hbW2, qKP, qKA, qKC⟩ => ?_
          clear KA KC
          have hzP : Wm.heap.size ≤ V2.heap.size := hbW.size
          clear hbW
          have hbW := hbW2
          clear hbW2
          have KP := Lib.hid qKP
          clear qKP
          have KA := Lib.hid qKA
          clear qKA
          have KC := Lib.hid qKC
          clear qKC
          have hS := HQm.out.below hbW
          refine hK.out _ _ ?_ (fun hHeld2 => ?_)
          · clear hK; exact hS
          clear hK K hHeld hS
          have hHeld := hHeld2
          clear hHeld2
          try simp only [Act.put, List.setIfInBounds_toArray, List.set_cons_zero, List.set_cons_succ]
          refine wpAnyH_ready (rs := [7]) (by kernel_rfl) (by simp) ?_
          refine AllReadyH.cons rfl (fun K hK => ?_) AllReadyH.nil
          rw [if_pos (by rfl)]
          go_simp
          refine nameV (fun V4 => Below Wm.heap.size Wm V4 ∧ Blk V4 V2.heap.size 71 (aP rs.length) ∧ Blk V4 V3.heap.size 80 (aT N) ∧ Blk V4 V1.heap.size 4 (aB rs.length) ∧ Blk V4 Wm.heap.size 4 (aB N)) ⟨hbW.alloc hbW.size _, (KP.out.al _), (Blk.new _ _ _ _ rfl), (KA.out.al _), (KC.out.al _)⟩ fun V4 ⟨hbW2, qKP, qKT, qKA, qKC⟩ => ?_
          clear KP KA KC
          have hzT : Wm.heap.size ≤ V3.heap.size := hbW.size
          clear hbW
          have hbW := hbW2
          clear hbW2
          have KP := Lib.hid qKP
          clear qKP
          have KT := Lib.hid qKT
          clear qKT
          have KA := Lib.hid qKA
          clear qKA
          have KC := Lib.hid qKC
          clear qKC
          have hS := HQm.out.below hbW
          refine hK.out _ _ ?_ (fun hHeld2 => ?_)
          · clear hK; exact hS
          clear hK K hHeld hS
          have hHeld := hHeld2
          clear hHeld2
          try simp only [Act.put, List.setIfInBounds_toArray, List.set_cons_zero, List.set_cons_succ]
          refine takeD 14 (some 23) (v := ?_) rfl rfl (by kernel_rfl) (by kernel_rfl) (by kernel_rfl) (fun _ _ _ h => h) (by rfl) ?_ (by assumption) ?_
          rotate_left
          · intro w hSw
            (try dsimp only at hSw)
            go_simp
            try with_reducible rfl
          try simp only [Act.put, List.setIfInBounds_toArray, List.set_cons_zero, List.set_cons_succ]
          refine wpAnyH_ready (rs := [15]) (by kernel_rfl) (by simp) ?_
          refine AllReadyH.cons rfl (fun K hK => ?_) AllReadyH.nil
          rw [if_pos (by rfl)]
          go_simp
          refine nameV (fun V5 => Below Wm.heap.size Wm V5 ∧ Blk V5 V2.heap.size 71 (aP rs.length) ∧ Blk V5 V3.heap.size 80 (aT N) ∧ Blk V5 V1.heap.size 4 (aB rs.length) ∧ Blk V5 Wm.heap.size 4 (aB N) ∧ Blk V5 V4.heap.size 86 #[.slice none 0 0, .int .i64 c.St, .slice (some ⟨V2.heap.size, 0, none⟩) rs.length rs.length, .slice (some ⟨V3.heap.size, 0, none⟩) N N, .slice (some ⟨V1.heap.size, 0, none⟩) rs.length rs.length, .slice (some ⟨Wm.heap.size, 0, none⟩) N N]) ⟨hbW.alloc hbW.size _, KP.out.al _, KT.out.al _, KA.out.al _, KC.out.al _, Blk.new _ _ _ _ rfl⟩ fun V5 ⟨hbW2, qKP, qKT, qKA, qKC, qB⟩ => ?_
          have hlP := KP.out.lt
          have hlT := KT.out.lt
          have hlA := KA.out.lt
          have hlC := KC.out.lt
          clear KP KT KA KC hbW
          have hbW := hbW2
          clear hbW2
          have KP := Lib.hid qKP
          clear qKP
          have KT := Lib.hid qKT
          clear qKT
          have KA := Lib.hid qKA
          clear qKA
          have KC := Lib.hid qKC
          clear qKC
          have KB := Lib.hid qB
          clear qB
          have hS := HQm.out.below hbW
          refine hK.out _ _ ?_ (fun hHeld2 => ?_)
          · clear hK; exact hS
          clear hK K hHeld hS
          have hHeld := hHeld2
          clear hHeld2
          try simp only [Act.put, List.setIfInBounds_toArray, List.set_cons_zero, List.set_cons_succ]
          refine takeD 16 (some 4) (v := ?_) rfl rfl (by kernel_rfl) (by kernel_rfl) (by kernel_rfl) (fun _ _ _ h => h) (by rfl) ?_ (by assumption) ?_
          rotate_left
          · intro w hSw
            (try dsimp only at hSw)
            go_simp
            try with_reducible rfl
          try simp only [Act.put, List.setIfInBounds_toArray, List.set_cons_zero, List.set_cons_succ]
          refine wpAnyH_done (by kernel_rfl) ?_ _
          clear hHeld dB
          obtain ⟨aP_, haP_⟩ : ∃ x, x = V2.heap.size := ⟨_, rfl⟩
          obtain ⟨aT_, haT_⟩ : ∃ x, x = V3.heap.size := ⟨_, rfl⟩
          obtain ⟨aA_, haA_⟩ : ∃ x, x = V1.heap.size := ⟨_, rfl⟩
          obtain ⟨aC_, haC_⟩ : ∃ x, x = Wm.heap.size := ⟨_, rfl⟩
          obtain ⟨pb, hpb⟩ : ∃ x, x = V4.heap.size := ⟨_, rfl⟩
          rw [← haP_, ← haT_, ← haA_, ← haC_, ← hpb]
          exact REST aP_ aT_ aA_ aC_ pb V5 (by subst haP_ haT_ haA_ haC_ hpb; exact ⟨hbW, KP.out, KT.out, KA.out, KC.out, KB.out, ⟨hzP, hzT, hzA, hzC⟩, ⟨hlP, hlT, hlA, hlC⟩⟩)
        · rw [if_pos (by rfl)]
          go_simp
          refine nameV (fun V3 => Below Wm.heap.size Wm V3 ∧ Blk V3 V2.heap.size 80 (aT N) ∧ Blk V3 V1.heap.size 4 (aB rs.length) ∧ Blk V3 Wm.heap.size 4 (aB N)) ⟨hbW.alloc hbW.size _, (Blk.new _ _ _ _ rfl), (KA.out.al _), (KC.out.al _)⟩ fun V3 ⟨hbW2, qKT, qKA, qKC⟩ => ?_
          clear KA KC
          have hzT : Wm.heap.size ≤ V2.heap.size := hbW.size
          clear hbW
          have hbW := hbW2
          clear hbW2
          have KT := Lib.hid qKT
          clear qKT
          have KA := Lib.hid qKA
          clear qKA
          have KC := Lib.hid qKC
          clear qKC
          have hS := HQm.out.below hbW
          refine hK.out _ _ ?_ (fun hHeld2 => ?_)
          · clear hK; exact hS
          clear hK K hHeld hS
          have hHeld := hHeld2
          clear hHeld2
          try simp only [Act.put, List.setIfInBounds_toArray, List.set_cons_zero, List.set_cons_succ]
          refine wpAnyH_ready (rs := [5]) (by kernel_rfl) (by simp) ?_
          refine AllReadyH.cons rfl (fun K hK => ?_) AllReadyH.nil
          rw [if_pos (by rfl)]
          go_simp
          refine nameV (fun V4 => Below Wm.heap.size Wm V4 ∧ Blk V4 V3.heap.size 71 (aP rs.length) ∧ Blk V4 V2.heap.size 80 (aT N) ∧ Blk V4 V1.heap.size 4 (aB rs.length) ∧ Blk V4 Wm.heap.size 4 (aB N)) ⟨hbW.alloc hbW.size _, (Blk.new _ _ _ _ rfl), (KT.out.al _), (KA.out.al _), (KC.out.al _)⟩ fun V4 ⟨hbW2, qKP, qKT, qKA, qKC⟩ => ?_
          clear KT KA KC
          have hzP : Wm.heap.size ≤ V3.heap.size := hbW.size
          clear hbW
          have hbW := hbW2
          clear hbW2
          have KP := Lib.hid qKP
          clear qKP
          have KT := Lib.hid qKT
          clear qKT
          have KA := Lib.hid qKA
          clear qKA
          have KC := Lib.hid qKC
          clear qKC
          have hS := HQm.out.below hbW
          refine hK.out _ _ ?_ (fun hHeld2 => ?_)
          · clear hK; exact hS
          clear hK K hHeld hS
          have hHeld := hHeld2
          clear hHeld2
          try simp only [Act.put, List.setIfInBounds_toArray, List.set_cons_zero, List.set_cons_succ]
          refine takeD 14 (some 23) (v := ?_) rfl rfl (by kernel_rfl) (by kernel_rfl) (by kernel_rfl) (fun _ _ _ h => h) (by rfl) ?_ (by assumption) ?_
          rotate_left
          · intro w hSw
            (try dsimp only at hSw)
            go_simp
            try with_reducible rfl
          try simp only [Act.put, List.setIfInBounds_toArray, List.set_cons_zero, List.set_cons_succ]
          refine wpAnyH_ready (rs := [15]) (by kernel_rfl) (by simp) ?_
          refine AllReadyH.cons rfl (fun K hK => ?_) AllReadyH.nil
          rw [if_pos (by rfl)]
          go_simp
          refine nameV (fun V5 => Below Wm.heap.size Wm V5 ∧ Blk V5 V3.heap.size 71 (aP rs.length) ∧ Blk V5 V2.heap.size 80 (aT N) ∧ Blk V5 V1.heap.size 4 (aB rs.length) ∧ Blk V5 Wm.heap.size 4 (aB N) ∧ Blk V5 V4.heap.size 86 #[.slice none 0 0, .int .i64 c.St, .slice (some ⟨V3.heap.size, 0, none⟩) rs.length rs.length, .slice (some ⟨V2.heap.size, 0, none⟩) N N, .slice (some ⟨V1.heap.size, 0, none⟩) rs.length rs.length, .slice (some ⟨Wm.heap.size, 0, none⟩) N N]) ⟨hbW.alloc hbW.size _, KP.out.al _, KT.out.al _, KA.out.al _, KC.out.al _, Blk.new _ _ _ _ rfl⟩ fun V5 ⟨hbW2, qKP, qKT, qKA, qKC, qB⟩ => ?_
          have hlP := KP.out.lt
          have hlT := KT.out.lt
          have hlA := KA.out.lt
          have hlC := KC.out.lt
          clear KP KT KA KC hbW
          have hbW := hbW2
          clear hbW2
          have KP := Lib.hid qKP
          clear qKP
          have KT := Lib.hid qKT
          clear qKT
          have KA := Lib.hid qKA
          clear qKA
          have KC := Lib.hid qKC
          clear qKC
          have KB := Lib.hid qB
          clear qB
          have hS := HQm.out.below hbW
          refine hK.out _ _ ?_ (fun hHeld2 => ?_)
          · clear hK; exact hS
          clear hK K hHeld hS
          have hHeld := hHeld2
          clear hHeld2
          try simp only [Act.put, List.setIfInBounds_toArray, List.set_cons_zero, List.set_cons_succ]
          refine takeD 16 (some 4) (v := ?_) rfl rfl (by kernel_rfl) (by kernel_rfl) (by kernel_rfl) (fun _ _ _ h => h) (by rfl) ?_ (by assumption) ?_
          rotate_left
          · intro w hSw
            (try dsimp only at hSw)
            go_simp
            try with_reducible rfl
          try simp only [Act.put, List.setIfInBounds_toArray, List.set_cons_zero, List.set_cons_succ]
          refine wpAnyH_done (by kernel_rfl) ?_ _
          clear hHeld dB
          obtain ⟨aP_, haP_⟩ : ∃ x, x = V3.heap.size := ⟨_, rfl⟩
          obtain ⟨aT_, haT_⟩ : ∃ x, x = V2.heap.size := ⟨_, rfl⟩
          obtain ⟨aA_, haA_⟩ : ∃ x, x = V1.heap.size := ⟨_, rfl⟩
          obtain ⟨aC_, haC_⟩ : ∃ x, x = Wm.heap.size := ⟨_, rfl⟩
          obtain ⟨pb, hpb⟩ : ∃ x, x = V4.heap.size := ⟨_, rfl⟩
          rw [← haP_, ← haT_, ← haA_, ← haC_, ← hpb]
          exact REST aP_ aT_ aA_ aC_ pb V5 (by subst haP_ haT_ haA_ haC_ hpb; exact ⟨hbW, KP.out, KT.out, KA.out, KC.out, KB.out, ⟨hzP, hzT, hzA, hzC⟩, ⟨hlP, hlT, hlA, hlC⟩⟩)
  case r =>
    intro aP_ aT_ aA_ aC_ pb W5 ⟨h1, h2, h3, h4, h5, h6, ⟨g1, g2, g3, g4⟩, ⟨g5, g6, g7, g8⟩⟩
    have HB5 := Lib.hid (Btrans HBm.out h1)
    have HQ5 := Lib.hid (HQm.out.below h1)
    have KP := Lib.hid h2
    have KT := Lib.hid h3
    have KA := Lib.hid h4
    have KC := Lib.hid h5
    have KB := Lib.hid h6
    have lpb := h6.lt
    clear h1 h2 h3 h4 h5 h6 m1 m2 m3 m4 HBm HQm
    go_wp2_with fail
    go_loopw [5] (fun i wr => ∃ k : Nat, k ≤ rs.length ∧ i = .int .i64 k ∧ Only [pb] W5 wr ∧ ∃ rq sA2 sc2, Blk wr pb 86 #[.slice sA2 k sc2, .int .i64 c.St, .slice (some ⟨aP_, 0, none⟩) rs.length rs.length, .slice (some ⟨aT_, 0, none⟩) N N, .slice (some ⟨aA_, 0, none⟩) rs.length rs.length, .slice (some ⟨aC_, 0, none⟩) N N] ∧ wr.ownsRow W5.heap.size 50 3 (.slice sA2 k sc2) k (r3 rq) ∧ rq.map core = (rs.take k).map core ∧ ∀ q ∈ rq, wr.ownsRow W5.heap.size 103 3 (.slice q.A q.l.length q.rc) q.l.length (c3c q.l)) (fun i _ => rs.length - (intOf i).toNat)
    case atStart => exact ⟨0, Nat.zero_le _, rfl, Only.refl _ _, [], none, 0, KB.out, own_nilN _ _, rfl, fun q h => by simp at h⟩
    case round =>
      obtain ⟨k, hk, rfl, hon, rq, sA2, sc2, hp, how, hm, hts⟩ := hrel
      have HON := Lib.hid hon
      have HP := Lib.hid hp
      have HOW := Lib.hid how
      have HM := Lib.hid hm
      have HTR := Lib.hid hts
      have hz5 := hon.size
      have HQr := Lib.hid (HQ5.out.only hon (by simp; omega))
      have cQ := HQr.out.cells
      have lQr := HQr.out.lt
      have lpr := hp.lt
      clear hon hp how hm hts
      by_cases hlt : k < rs.length
      · obtain ⟨r, hr⟩ : ∃ r, rs[k]? = some r := ⟨_, List.getElem?_eq_getElem hlt⟩
        obtain ⟨ad1, rfl, hb1, e0, e1, e2⟩ := rowR_at HRR.out hr
        have HRK := Lib.hid hr
        have hl16 : r.l.length ≤ 100 := HLT.out r (List.mem_of_getElem? hr)
        have HTM0 := HTS.out r (List.mem_of_getElem? hr)
        have hbk : Below w.heap.size w wr := Only.below HB5.out HB5.out.size HON.out (by simp; omega)
        have lc1 : (ad1.add (k * 3)).block < w.heap.size := by rw [block_add]; exact hb1
        have d0 : wr.cell? (ad1.add (k * 3)) = some (.slice r.A r.l.length r.rc) := (hbk.cell lc1).trans e0
        have d1 : wr.cell? ⟨(ad1.add (k * 3)).block, (ad1.add (k * 3)).off + 1, none⟩ = some (.int .i64 r.hold) := (hbk.cell (p := ⟨(ad1.add (k * 3)).block, (ad1.add (k * 3)).off + 1, none⟩) lc1).trans e1
        have d2 : wr.cell? ⟨(ad1.add (k * 3)).block, (ad1.add (k * 3)).off + 2, none⟩ = some (.bool r.latch) := (hbk.cell (p := ⟨(ad1.add (k * 3)).block, (ad1.add (k * 3)).off + 2, none⟩) lc1).trans e2
        have gk1 : (k : Int) < (rs.length : Int) := by omega
        have HBK := Lib.hid hbk
        clear e0 e1 e2 hr hbk
        go_wp2_with fail
        refine wp_world (fun W => Below wr.heap.size wr W ∧ Blk W wr.heap.size 50 #[.slice r.A r.l.length r.rc, .int .i64 r.hold, .bool r.latch]) ⟨by go_grown, Blk.new _ _ _ _ rfl⟩ fun Wq ⟨hbq, hlq⟩ => ?_
        have HBq := Lib.hid (hbq.mono hz5)
        have HLQ := Lib.hid hlq
        have HPq := Lib.hid (HP.out.below hbq)
        have HOWq := Lib.hid (own_below HOW.out hbq)
        have HTQ := Lib.hid (show ∀ q ∈ rq, Wq.ownsRow W5.heap.size 103 3 (.slice q.A q.l.length q.rc) q.l.length (c3c q.l) from fun q hq => own_below (HTR.out q hq) hbq)
        have HTM := Lib.hid ((HTM0.below HBK.out).below hbq)
        have hzq : W5.heap.size ≤ Wq.heap.size := Nat.le_trans hz5 hbq.size
        have lbq := hlq.lt
        clear d0 d1 d2 cQ HQr hlq HTM0 hbq
        have hbW := Below.refl Wq.heap.size Wq
        have dL : ∀ w', Blk w' wr.heap.size 50 #[.slice r.A r.l.length r.rc, .int .i64 r.hold, .bool r.latch] → ∀ i, w'.cell? ⟨wr.heap.size, i, none⟩ = (#[.slice r.A r.l.length r.rc, .int .i64 r.hold, .bool r.latch] : Array Value)[i]? := fun w' hb => hb.cells
        refine wp_region_held_drew (S := fun w' => Blk w' wr.heap.size 50 #[.slice r.A r.l.length r.rc, .int .i64 r.hold, .bool r.latch]) (by kernel_rfl) (HLQ.out.drwN 1) (fun hHeld => ?_)
        refine takeD 0 (some 37) (v := ?_) rfl rfl (by kernel_rfl) (by kernel_rfl) (by kernel_rfl) (fun _ _ _ h => h) (by rfl) ?_ (by assumption) ?_
        rotate_left
        · intro w hSw
          (try dsimp only at hSw)
          go_simp
          try with_reducible rfl
        try simp only [Act.put, List.setIfInBounds_toArray, List.set_cons_zero, List.set_cons_succ]
        refine takeD 1 (some 38) (v := ?_) rfl rfl (by kernel_rfl) (by kernel_rfl) (by kernel_rfl) (fun _ _ _ h => h) (by rfl) ?_ (by assumption) ?_
        rotate_left
        · intro w hSw
          (try dsimp only at hSw)
          go_simp
          try with_reducible rfl
        try simp only [Act.put, List.setIfInBounds_toArray, List.set_cons_zero, List.set_cons_succ]
        refine takeD 2 (some 39) (v := ?_) rfl rfl (by kernel_rfl) (by kernel_rfl) (by kernel_rfl) (fun _ _ _ h => h) (by rfl) ?_ (by assumption) ?_
        rotate_left
        · intro w hSw
          (try dsimp only at hSw)
          go_simp
          try with_reducible rfl
        try simp only [Act.put, List.setIfInBounds_toArray, List.set_cons_zero, List.set_cons_succ]
        refine takeD 3 (some 40) (v := ?_) rfl rfl (by kernel_rfl) (by kernel_rfl) (by kernel_rfl) (fun _ _ _ h => h) (by rfl) ?_ (by assumption) ?_
        rotate_left
        · intro w hSw
          (try dsimp only at hSw)
          go_simp
          try with_reducible rfl
        try simp only [Act.put, List.setIfInBounds_toArray, List.set_cons_zero, List.set_cons_succ]
        refine takeD 6 (some 43) (v := ?_) rfl rfl (by kernel_rfl) (by kernel_rfl) (by kernel_rfl) (fun _ _ _ h => h) (by rfl) ?_ (by assumption) ?_
        rotate_left
        · intro w hSw
          (try dsimp only at hSw)
          go_simp
          try with_reducible rfl
        try simp only [Act.put, List.setIfInBounds_toArray, List.set_cons_zero, List.set_cons_succ]
        refine takeD 7 (some 44) (v := ?_) rfl rfl (by kernel_rfl) (by kernel_rfl) (by kernel_rfl) (fun _ _ _ h => h) (by rfl) ?_ (by assumption) ?_
        rotate_left
        · intro w hSw
          (try dsimp only at hSw)
          go_simp
          try with_reducible rfl
        try simp only [Act.put, List.setIfInBounds_toArray, List.set_cons_zero, List.set_cons_succ]
        refine takeD 9 (some 46) (v := ?_) rfl rfl (by kernel_rfl) (by kernel_rfl) (by kernel_rfl) (fun _ _ _ h => h) (by rfl) ?_ (by assumption) ?_
        rotate_left
        · intro w hSw
          (try dsimp only at hSw)
          go_simp
          try with_reducible rfl
        try simp only [Act.put, List.setIfInBounds_toArray, List.set_cons_zero, List.set_cons_succ]
        refine takeD 10 (some 47) (v := ?_) rfl rfl (by kernel_rfl) (by kernel_rfl) (by kernel_rfl) (fun _ _ _ h => h) (by rfl) ?_ (by assumption) ?_
        rotate_left
        · intro w hSw
          (try dsimp only at hSw)
          go_simp
          try with_reducible rfl
        try simp only [Act.put, List.setIfInBounds_toArray, List.set_cons_zero, List.set_cons_succ]
        refine takeD 11 (some 48) (v := ?_) rfl rfl (by kernel_rfl) (by kernel_rfl) (by kernel_rfl) (fun _ _ _ h => h) (by rfl) ?_ (by assumption) ?_
        rotate_left
        · intro w hSw
          (try dsimp only at hSw)
          go_simp
          try with_reducible rfl
        try simp only [Act.put, List.setIfInBounds_toArray, List.set_cons_zero, List.set_cons_succ]
        refine takeD 12 (some 49) (v := ?_) rfl rfl (by kernel_rfl) (by kernel_rfl) (by kernel_rfl) (fun _ _ _ h => h) (by rfl) ?_ (by assumption) ?_
        rotate_left
        · intro w hSw
          (try dsimp only at hSw)
          go_simp
          try with_reducible rfl
        try simp only [Act.put, List.setIfInBounds_toArray, List.set_cons_zero, List.set_cons_succ]
        refine wpAnyH_ready (rs := [4, 5]) (by kernel_rfl) (by simp) ?_
        refine AllReadyH.cons rfl (fun K hK => ?_) (AllReadyH.cons rfl (fun K hK => ?_) AllReadyH.nil)
        · rw [if_pos (by rfl)]
          have cP := (HPq.out.below hbW).cells
          go_simp
          clear cP
          have hS := hHeld
          refine hK.out _ _ ?_ (fun hHeld2 => ?_)
          · clear hK; exact hS
          clear hK K hHeld hS
          have hHeld := hHeld2
          clear hHeld2
          try simp only [Act.put, List.setIfInBounds_toArray, List.set_cons_zero, List.set_cons_succ]
          refine wpAnyH_ready (rs := [5]) (by kernel_rfl) (by simp) ?_
          refine AllReadyH.cons rfl (fun K hK => ?_) AllReadyH.nil
          rw [if_pos (by rfl)]
          go_simp
          refine nameV (fun U1 => Below Wq.heap.size Wq U1 ∧ World.ownsRow U1 Wq.heap.size 103 3 (.slice (some ⟨Wq.heap.size, 0, none⟩) 0 0) 0 []) ⟨(hbW.alloc hbW.size _).drew, World.ownsRow.drew (own_emptyN _ _ _ _ _ hbW.size rfl)⟩ fun U1 ⟨hbW2, qHC⟩ => ?_
          clear hbW
          have hbW := hbW2
          clear hbW2
          have HC1 := Lib.hid qHC
          clear qHC
          have hS := HLQ.out.below hbW
          refine hK.out _ _ ?_ (fun hHeld2 => ?_)
          · clear hK; exact hS
          clear hK K hHeld hS
          have hHeld := hHeld2
          clear hHeld2
          try simp only [Act.put, List.setIfInBounds_toArray, List.set_cons_zero, List.set_cons_succ]
          refine wpAnyH_ready (rs := [8]) (by kernel_rfl) (by simp) ?_
          refine AllReadyH.cons rfl (fun K hK => ?_) AllReadyH.nil
          rw [if_pos (by rfl)]
          refine wp_appN elT (.tmp 42) (.tmp 44) rfl Wq.heap.size _ 0 [] rfl HC1.out _ r.l.length (c3c r.l) rfl (HTM.out.below hbW) (c3_one r.l) (by unfold maxLen; omega) (by omega) hbW.size ?_
          intro v2 U2 hO hg _
          have hbW2 := below_app hbW hbW.size HC1.out hg (Nat.le_refl _)
          rw [Nat.zero_add, List.nil_append] at hO
          obtain ⟨TA, tc, rfl⟩ := own_shape hO
          have HC2 := Lib.hid hO
          clear hO hg HC1
          clear hbW
          have hbW := hbW2
          clear hbW2
          have hS := HLQ.out.below hbW
          refine hK.out _ _ ?_ (fun hHeld2 => ?_)
          · clear hK; exact hS
          clear hK K hHeld hS
          have hHeld := hHeld2
          clear hHeld2
          try simp only [Act.put, List.setIfInBounds_toArray, List.set_cons_zero, List.set_cons_succ]
          refine takeD 13 (some 50) (v := ?_) rfl rfl (by kernel_rfl) (by kernel_rfl) (by kernel_rfl) (fun _ _ _ h => h) (by rfl) ?_ (by assumption) ?_
          rotate_left
          · intro w hSw
            (try dsimp only at hSw)
            go_simp
            try with_reducible rfl
          try simp only [Act.put, List.setIfInBounds_toArray, List.set_cons_zero, List.set_cons_succ]
          refine wpAnyH_ready (rs := [14]) (by kernel_rfl) (by simp) ?_
          refine AllReadyH.cons rfl (fun K hK => ?_) AllReadyH.nil
          rw [if_pos (by rfl)]
          go_simp
          refine nameV (fun U3 => Below Wq.heap.size Wq U3 ∧ World.ownsRow U3 Wq.heap.size 103 3 (.slice TA r.l.length tc) r.l.length (c3c r.l) ∧ Blk U3 U2.heap.size 50 #[.slice TA r.l.length tc, .int .i64 r.hold, .bool r.latch]) ⟨hbW.alloc hbW.size _, own_below HC2.out ((Below.refl _ _).alloc (Nat.le_refl _) _), Blk.new _ _ _ _ rfl⟩ fun U3 ⟨hbW2, qHC, qHN⟩ => ?_
          clear HC2
          clear hbW
          have hbW := hbW2
          clear hbW2
          have HC2 := Lib.hid qHC
          have HN := Lib.hid qHN
          clear qHC qHN
          have hS := HLQ.out.below hbW
          refine hK.out _ _ ?_ (fun hHeld2 => ?_)
          · clear hK; exact hS
          clear hK K hHeld hS
          have hHeld := hHeld2
          clear hHeld2
          try simp only [Act.put, List.setIfInBounds_toArray, List.set_cons_zero, List.set_cons_succ]
          refine wpAnyH_ready (rs := [15]) (by kernel_rfl) (by simp) ?_
          refine AllReadyH.cons rfl (fun K hK => ?_) AllReadyH.nil
          rw [if_pos (by rfl)]
          have HOW2 := Lib.hid (own_below HOWq.out hbW)
          have hzc : W5.heap.size ≤ U3.heap.size := Nat.le_trans hzq hbW.size
          refine wp_appN elRu (.tmp 41) (.tmp 51) rfl W5.heap.size _ k (r3 rq) rfl HOW2.out _ 1 (r3 [⟨TA, tc, r.hold, r.latch, r.l⟩]) rfl (RowN.of_blk HN.out rfl rfl (Nat.le_refl _) (by decide)) (r3_one _) (by unfold maxLen; omega) (by omega) hzc ?_
          intro v4 U4 hO hg _
          have HBW := Lib.hid (below_app ((HBq.out.trans (hbW.mono hzq)) : Below W5.heap.size wr U3) hzc HOW2.out hg (Nat.le_refl _))
          have HP4 := Lib.hid (show Blk U4 pb 86 _ from (hg.block _ (HPq.out.below hbW).lt (own_ne HOW2.out (HPq.out.below hbW) (by decide))).trans (HPq.out.below hbW))
          have HL4 := Lib.hid (show Blk U4 wr.heap.size 50 _ from (hg.block _ (HLQ.out.below hbW).lt (fun he => by have := own_lt HOW.out he.symm; omega)).trans (HLQ.out.below hbW))
          have HT4 := Lib.hid (show ∀ q ∈ rq, World.ownsRow U4 W5.heap.size 103 3 (.slice q.A q.l.length q.rc) q.l.length (c3c q.l) from fun q hq => own_kept (own_below (HTQ.out q hq) hbW) HOW2.out (by decide) hg)
          have HTN := Lib.hid (show World.ownsRow U4 W5.heap.size 103 3 (.slice TA r.l.length tc) r.l.length (c3c r.l) from own_kept (own_lower2 HC2.out hzq) HOW2.out (by decide) hg)
          rw [← r3_app] at hO
          obtain ⟨SA3, sc3, rfl⟩ := own_shape hO
          have HO4 := Lib.hid hO
          clear hO hg HN HC2 HOW2 hbW hzc
          have hS := HL4.out
          refine hK.out _ _ ?_ (fun hHeld2 => ?_)
          · clear hK; exact hS
          clear hK K hHeld hS
          have hHeld := hHeld2
          clear hHeld2
          try simp only [Act.put, List.setIfInBounds_toArray, List.set_cons_zero, List.set_cons_succ]
          refine takeD 16 (some 53) (v := ?_) rfl rfl (by kernel_rfl) (by kernel_rfl) (by kernel_rfl) (fun _ _ _ h => h) (by rfl) ?_ (by assumption) ?_
          rotate_left
          · intro w hSw
            (try dsimp only at hSw)
            go_simp
            try with_reducible rfl
          try simp only [Act.put, List.setIfInBounds_toArray, List.set_cons_zero, List.set_cons_succ]
          refine takeD 17 (some 54) (v := ?_) rfl rfl (by kernel_rfl) (by kernel_rfl) (by kernel_rfl) (fun _ _ _ h => h) (by rfl) ?_ (by assumption) ?_
          rotate_left
          · intro w hSw
            (try dsimp only at hSw)
            go_simp
            try with_reducible rfl
          try simp only [Act.put, List.setIfInBounds_toArray, List.set_cons_zero, List.set_cons_succ]
          refine wpAnyH_ready (rs := [18]) (by kernel_rfl) (by simp) ?_
          refine AllReadyH.cons rfl (fun K hK => ?_) AllReadyH.nil
          rw [if_pos (by rfl)]
          have cP := HP4.out.cells
          have fP := HP4.out.froz
          go_simp
          have hS := HL4.out.setO (show wr.heap.size ≠ pb by omega) 0 (.slice SA3 (k + 1) sc3)
          clear cP fP
          refine hK.out _ _ ?_ (fun hHeld2 => ?_)
          · clear hK; exact hS
          clear hK K hHeld hS
          have hHeld := hHeld2
          clear hHeld2
          try simp only [Act.put, List.setIfInBounds_toArray, List.set_cons_zero, List.set_cons_succ]
          refine wpAnyH_done (by kernel_rfl) ?_ _
          refine nameV (fun W => Below W5.heap.size wr U4 ∧ Blk W pb 86 (#[.slice SA3 (k + 1) sc3, .int .i64 c.St, .slice (some ⟨aP_, 0, none⟩) rs.length rs.length, .slice (some ⟨aT_, 0, none⟩) N N, .slice (some ⟨aA_, 0, none⟩) rs.length rs.length, .slice (some ⟨aC_, 0, none⟩) N N]) ∧ Only [pb] U4 W ∧ World.ownsRow W W5.heap.size 50 3 (.slice SA3 (k + 1) sc3) (k + 1) (r3 (rq ++ [⟨TA, tc, r.hold, r.latch, r.l⟩])) ∧ (∀ q ∈ rq ++ [⟨TA, tc, r.hold, r.latch, r.l⟩], World.ownsRow W W5.heap.size 103 3 (.slice q.A q.l.length q.rc) q.l.length (c3c q.l))) ⟨HBW.out, HP4.out.set 0 (.slice SA3 (k + 1) sc3), (Only.refl _ _).setCell (p := ⟨pb, 0, none⟩) (by simp) _, own_set HO4.out HP4.out (by decide), fun q hq => by
            rcases List.mem_append.1 hq with hq | hq
            · exact own_set (HT4.out q hq) HP4.out (by decide)
            · obtain rfl := List.mem_singleton.1 hq
              exact own_set HTN.out HP4.out (by decide)⟩ fun W6 ⟨hb6, hp6, hk6, ho6, ht6⟩ => ?_
          have HO6 := Lib.hid ((Only.then HON.out hb6 (Nat.le_refl _)).trans hk6)
          have HP6 := Lib.hid hp6
          have HW6 := Lib.hid ho6
          have HT6 := Lib.hid ht6
          have HM6 := Lib.hid (show (rq ++ [(⟨TA, tc, r.hold, r.latch, r.l⟩ : Rl)]).map core = (rs.take (k + 1)).map core by rw [List.map_append, HM.out, List.take_add_one, HRK.out, List.map_append]; rfl)
          clear hHeld hb6 hp6 hk6 ho6 ht6 HP4 HO4 HT4 HTN HL4 HBW dL HPq HLQ HOWq HTQ HTM HBq
          go_wp2
          go_roundw
          case rel => exact ⟨k + 1, by omega, by go_num, HO6.out, _, SA3, sc3, HP6.out, HW6.out, HM6.out, HT6.out⟩
          case measure => simp [intOf]; omega
        · rw [if_pos (by rfl)]
          go_simp
          refine nameV (fun U1 => Below Wq.heap.size Wq U1 ∧ World.ownsRow U1 Wq.heap.size 103 3 (.slice (some ⟨Wq.heap.size, 0, none⟩) 0 0) 0 []) ⟨(hbW.alloc hbW.size _).drew, World.ownsRow.drew (own_emptyN _ _ _ _ _ hbW.size rfl)⟩ fun U1 ⟨hbW2, qHC⟩ => ?_
          clear hbW
          have hbW := hbW2
          clear hbW2
          have HC1 := Lib.hid qHC
          clear qHC
          have hS := HLQ.out.below hbW
          refine hK.out _ _ ?_ (fun hHeld2 => ?_)
          · clear hK; exact hS
          clear hK K hHeld hS
          have hHeld := hHeld2
          clear hHeld2
          try simp only [Act.put, List.setIfInBounds_toArray, List.set_cons_zero, List.set_cons_succ]
          refine wpAnyH_ready (rs := [4, 8]) (by kernel_rfl) (by simp) ?_
          refine AllReadyH.cons rfl (fun K hK => ?_) (AllReadyH.cons rfl (fun K hK => ?_) AllReadyH.nil)
          · rw [if_pos (by rfl)]
            have cP := (HPq.out.below hbW).cells
            go_simp
            clear cP
            have hS := hHeld
            refine hK.out _ _ ?_ (fun hHeld2 => ?_)
            · clear hK; exact hS
            clear hK K hHeld hS
            have hHeld := hHeld2
            clear hHeld2
            try simp only [Act.put, List.setIfInBounds_toArray, List.set_cons_zero, List.set_cons_succ]
            refine wpAnyH_ready (rs := [8]) (by kernel_rfl) (by simp) ?_
            refine AllReadyH.cons rfl (fun K hK => ?_) AllReadyH.nil
            rw [if_pos (by rfl)]
            refine wp_appN elT (.tmp 42) (.tmp 44) rfl Wq.heap.size _ 0 [] rfl HC1.out _ r.l.length (c3c r.l) rfl (HTM.out.below hbW) (c3_one r.l) (by unfold maxLen; omega) (by omega) hbW.size ?_
            intro v2 U2 hO hg _
            have hbW2 := below_app hbW hbW.size HC1.out hg (Nat.le_refl _)
            rw [Nat.zero_add, List.nil_append] at hO
            obtain ⟨TA, tc, rfl⟩ := own_shape hO
            have HC2 := Lib.hid hO
            clear hO hg HC1
            clear hbW
            have hbW := hbW2
            clear hbW2
            have hS := HLQ.out.below hbW
            refine hK.out _ _ ?_ (fun hHeld2 => ?_)
            · clear hK; exact hS
            clear hK K hHeld hS
            have hHeld := hHeld2
            clear hHeld2
            try simp only [Act.put, List.setIfInBounds_toArray, List.set_cons_zero, List.set_cons_succ]
            refine takeD 13 (some 50) (v := ?_) rfl rfl (by kernel_rfl) (by kernel_rfl) (by kernel_rfl) (fun _ _ _ h => h) (by rfl) ?_ (by assumption) ?_
            rotate_left
            · intro w hSw
              (try dsimp only at hSw)
              go_simp
              try with_reducible rfl
            try simp only [Act.put, List.setIfInBounds_toArray, List.set_cons_zero, List.set_cons_succ]
            refine wpAnyH_ready (rs := [14]) (by kernel_rfl) (by simp) ?_
            refine AllReadyH.cons rfl (fun K hK => ?_) AllReadyH.nil
            rw [if_pos (by rfl)]
            go_simp
            refine nameV (fun U3 => Below Wq.heap.size Wq U3 ∧ World.ownsRow U3 Wq.heap.size 103 3 (.slice TA r.l.length tc) r.l.length (c3c r.l) ∧ Blk U3 U2.heap.size 50 #[.slice TA r.l.length tc, .int .i64 r.hold, .bool r.latch]) ⟨hbW.alloc hbW.size _, own_below HC2.out ((Below.refl _ _).alloc (Nat.le_refl _) _), Blk.new _ _ _ _ rfl⟩ fun U3 ⟨hbW2, qHC, qHN⟩ => ?_
            clear HC2
            clear hbW
            have hbW := hbW2
            clear hbW2
            have HC2 := Lib.hid qHC
            have HN := Lib.hid qHN
            clear qHC qHN
            have hS := HLQ.out.below hbW
            refine hK.out _ _ ?_ (fun hHeld2 => ?_)
            · clear hK; exact hS
            clear hK K hHeld hS
            have hHeld := hHeld2
            clear hHeld2
            try simp only [Act.put, List.setIfInBounds_toArray, List.set_cons_zero, List.set_cons_succ]
            refine wpAnyH_ready (rs := [15]) (by kernel_rfl) (by simp) ?_
            refine AllReadyH.cons rfl (fun K hK => ?_) AllReadyH.nil
            rw [if_pos (by rfl)]
            have HOW2 := Lib.hid (own_below HOWq.out hbW)
            have hzc : W5.heap.size ≤ U3.heap.size := Nat.le_trans hzq hbW.size
            refine wp_appN elRu (.tmp 41) (.tmp 51) rfl W5.heap.size _ k (r3 rq) rfl HOW2.out _ 1 (r3 [⟨TA, tc, r.hold, r.latch, r.l⟩]) rfl (RowN.of_blk HN.out rfl rfl (Nat.le_refl _) (by decide)) (r3_one _) (by unfold maxLen; omega) (by omega) hzc ?_
            intro v4 U4 hO hg _
            have HBW := Lib.hid (below_app ((HBq.out.trans (hbW.mono hzq)) : Below W5.heap.size wr U3) hzc HOW2.out hg (Nat.le_refl _))
            have HP4 := Lib.hid (show Blk U4 pb 86 _ from (hg.block _ (HPq.out.below hbW).lt (own_ne HOW2.out (HPq.out.below hbW) (by decide))).trans (HPq.out.below hbW))
            have HL4 := Lib.hid (show Blk U4 wr.heap.size 50 _ from (hg.block _ (HLQ.out.below hbW).lt (fun he => by have := own_lt HOW.out he.symm; omega)).trans (HLQ.out.below hbW))
            have HT4 := Lib.hid (show ∀ q ∈ rq, World.ownsRow U4 W5.heap.size 103 3 (.slice q.A q.l.length q.rc) q.l.length (c3c q.l) from fun q hq => own_kept (own_below (HTQ.out q hq) hbW) HOW2.out (by decide) hg)
            have HTN := Lib.hid (show World.ownsRow U4 W5.heap.size 103 3 (.slice TA r.l.length tc) r.l.length (c3c r.l) from own_kept (own_lower2 HC2.out hzq) HOW2.out (by decide) hg)
            rw [← r3_app] at hO
            obtain ⟨SA3, sc3, rfl⟩ := own_shape hO
            have HO4 := Lib.hid hO
            clear hO hg HN HC2 HOW2 hbW hzc
            have hS := HL4.out
            refine hK.out _ _ ?_ (fun hHeld2 => ?_)
            · clear hK; exact hS
            clear hK K hHeld hS
            have hHeld := hHeld2
            clear hHeld2
            try simp only [Act.put, List.setIfInBounds_toArray, List.set_cons_zero, List.set_cons_succ]
            refine takeD 16 (some 53) (v := ?_) rfl rfl (by kernel_rfl) (by kernel_rfl) (by kernel_rfl) (fun _ _ _ h => h) (by rfl) ?_ (by assumption) ?_
            rotate_left
            · intro w hSw
              (try dsimp only at hSw)
              go_simp
              try with_reducible rfl
            try simp only [Act.put, List.setIfInBounds_toArray, List.set_cons_zero, List.set_cons_succ]
            refine takeD 17 (some 54) (v := ?_) rfl rfl (by kernel_rfl) (by kernel_rfl) (by kernel_rfl) (fun _ _ _ h => h) (by rfl) ?_ (by assumption) ?_
            rotate_left
            · intro w hSw
              (try dsimp only at hSw)
              go_simp
              try with_reducible rfl
            try simp only [Act.put, List.setIfInBounds_toArray, List.set_cons_zero, List.set_cons_succ]
            refine wpAnyH_ready (rs := [18]) (by kernel_rfl) (by simp) ?_
            refine AllReadyH.cons rfl (fun K hK => ?_) AllReadyH.nil
            rw [if_pos (by rfl)]
            have cP := HP4.out.cells
            have fP := HP4.out.froz
            go_simp
            have hS := HL4.out.setO (show wr.heap.size ≠ pb by omega) 0 (.slice SA3 (k + 1) sc3)
            clear cP fP
            refine hK.out _ _ ?_ (fun hHeld2 => ?_)
            · clear hK; exact hS
            clear hK K hHeld hS
            have hHeld := hHeld2
            clear hHeld2
            try simp only [Act.put, List.setIfInBounds_toArray, List.set_cons_zero, List.set_cons_succ]
            refine wpAnyH_done (by kernel_rfl) ?_ _
            refine nameV (fun W => Below W5.heap.size wr U4 ∧ Blk W pb 86 (#[.slice SA3 (k + 1) sc3, .int .i64 c.St, .slice (some ⟨aP_, 0, none⟩) rs.length rs.length, .slice (some ⟨aT_, 0, none⟩) N N, .slice (some ⟨aA_, 0, none⟩) rs.length rs.length, .slice (some ⟨aC_, 0, none⟩) N N]) ∧ Only [pb] U4 W ∧ World.ownsRow W W5.heap.size 50 3 (.slice SA3 (k + 1) sc3) (k + 1) (r3 (rq ++ [⟨TA, tc, r.hold, r.latch, r.l⟩])) ∧ (∀ q ∈ rq ++ [⟨TA, tc, r.hold, r.latch, r.l⟩], World.ownsRow W W5.heap.size 103 3 (.slice q.A q.l.length q.rc) q.l.length (c3c q.l))) ⟨HBW.out, HP4.out.set 0 (.slice SA3 (k + 1) sc3), (Only.refl _ _).setCell (p := ⟨pb, 0, none⟩) (by simp) _, own_set HO4.out HP4.out (by decide), fun q hq => by
              rcases List.mem_append.1 hq with hq | hq
              · exact own_set (HT4.out q hq) HP4.out (by decide)
              · obtain rfl := List.mem_singleton.1 hq
                exact own_set HTN.out HP4.out (by decide)⟩ fun W6 ⟨hb6, hp6, hk6, ho6, ht6⟩ => ?_
            have HO6 := Lib.hid ((Only.then HON.out hb6 (Nat.le_refl _)).trans hk6)
            have HP6 := Lib.hid hp6
            have HW6 := Lib.hid ho6
            have HT6 := Lib.hid ht6
            have HM6 := Lib.hid (show (rq ++ [(⟨TA, tc, r.hold, r.latch, r.l⟩ : Rl)]).map core = (rs.take (k + 1)).map core by rw [List.map_append, HM.out, List.take_add_one, HRK.out, List.map_append]; rfl)
            clear hHeld hb6 hp6 hk6 ho6 ht6 HP4 HO4 HT4 HTN HL4 HBW dL HPq HLQ HOWq HTQ HTM HBq
            go_wp2
            go_roundw
            case rel => exact ⟨k + 1, by omega, by go_num, HO6.out, _, SA3, sc3, HP6.out, HW6.out, HM6.out, HT6.out⟩
            case measure => simp [intOf]; omega
          · rw [if_pos (by rfl)]
            refine wp_appN elT (.tmp 42) (.tmp 44) rfl Wq.heap.size _ 0 [] rfl HC1.out _ r.l.length (c3c r.l) rfl (HTM.out.below hbW) (c3_one r.l) (by unfold maxLen; omega) (by omega) hbW.size ?_
            intro v2 U2 hO hg _
            have hbW2 := below_app hbW hbW.size HC1.out hg (Nat.le_refl _)
            rw [Nat.zero_add, List.nil_append] at hO
            obtain ⟨TA, tc, rfl⟩ := own_shape hO
            have HC2 := Lib.hid hO
            clear hO hg HC1
            clear hbW
            have hbW := hbW2
            clear hbW2
            have hS := HLQ.out.below hbW
            refine hK.out _ _ ?_ (fun hHeld2 => ?_)
            · clear hK; exact hS
            clear hK K hHeld hS
            have hHeld := hHeld2
            clear hHeld2
            try simp only [Act.put, List.setIfInBounds_toArray, List.set_cons_zero, List.set_cons_succ]
            refine takeD 13 (some 50) (v := ?_) rfl rfl (by kernel_rfl) (by kernel_rfl) (by kernel_rfl) (fun _ _ _ h => h) (by rfl) ?_ (by assumption) ?_
            rotate_left
            · intro w hSw
              (try dsimp only at hSw)
              go_simp
              try with_reducible rfl
            try simp only [Act.put, List.setIfInBounds_toArray, List.set_cons_zero, List.set_cons_succ]
            refine wpAnyH_ready (rs := [4, 14]) (by kernel_rfl) (by simp) ?_
            refine AllReadyH.cons rfl (fun K hK => ?_) (AllReadyH.cons rfl (fun K hK => ?_) AllReadyH.nil)
            · rw [if_pos (by rfl)]
              have cP := (HPq.out.below hbW).cells
              go_simp
              clear cP
              have hS := hHeld
              refine hK.out _ _ ?_ (fun hHeld2 => ?_)
              · clear hK; exact hS
              clear hK K hHeld hS
              have hHeld := hHeld2
              clear hHeld2
              try simp only [Act.put, List.setIfInBounds_toArray, List.set_cons_zero, List.set_cons_succ]
              refine wpAnyH_ready (rs := [14]) (by kernel_rfl) (by simp) ?_
              refine AllReadyH.cons rfl (fun K hK => ?_) AllReadyH.nil
              rw [if_pos (by rfl)]
              go_simp
              refine nameV (fun U3 => Below Wq.heap.size Wq U3 ∧ World.ownsRow U3 Wq.heap.size 103 3 (.slice TA r.l.length tc) r.l.length (c3c r.l) ∧ Blk U3 U2.heap.size 50 #[.slice TA r.l.length tc, .int .i64 r.hold, .bool r.latch]) ⟨hbW.alloc hbW.size _, own_below HC2.out ((Below.refl _ _).alloc (Nat.le_refl _) _), Blk.new _ _ _ _ rfl⟩ fun U3 ⟨hbW2, qHC, qHN⟩ => ?_
              clear HC2
              clear hbW
              have hbW := hbW2
              clear hbW2
              have HC2 := Lib.hid qHC
              have HN := Lib.hid qHN
              clear qHC qHN
              have hS := HLQ.out.below hbW
              refine hK.out _ _ ?_ (fun hHeld2 => ?_)
              · clear hK; exact hS
              clear hK K hHeld hS
              have hHeld := hHeld2
              clear hHeld2
              try simp only [Act.put, List.setIfInBounds_toArray, List.set_cons_zero, List.set_cons_succ]
              refine wpAnyH_ready (rs := [15]) (by kernel_rfl) (by simp) ?_
              refine AllReadyH.cons rfl (fun K hK => ?_) AllReadyH.nil
              rw [if_pos (by rfl)]
              have HOW2 := Lib.hid (own_below HOWq.out hbW)
              have hzc : W5.heap.size ≤ U3.heap.size := Nat.le_trans hzq hbW.size
              refine wp_appN elRu (.tmp 41) (.tmp 51) rfl W5.heap.size _ k (r3 rq) rfl HOW2.out _ 1 (r3 [⟨TA, tc, r.hold, r.latch, r.l⟩]) rfl (RowN.of_blk HN.out rfl rfl (Nat.le_refl _) (by decide)) (r3_one _) (by unfold maxLen; omega) (by omega) hzc ?_
              intro v4 U4 hO hg _
              have HBW := Lib.hid (below_app ((HBq.out.trans (hbW.mono hzq)) : Below W5.heap.size wr U3) hzc HOW2.out hg (Nat.le_refl _))
              have HP4 := Lib.hid (show Blk U4 pb 86 _ from (hg.block _ (HPq.out.below hbW).lt (own_ne HOW2.out (HPq.out.below hbW) (by decide))).trans (HPq.out.below hbW))
              have HL4 := Lib.hid (show Blk U4 wr.heap.size 50 _ from (hg.block _ (HLQ.out.below hbW).lt (fun he => by have := own_lt HOW.out he.symm; omega)).trans (HLQ.out.below hbW))
              have HT4 := Lib.hid (show ∀ q ∈ rq, World.ownsRow U4 W5.heap.size 103 3 (.slice q.A q.l.length q.rc) q.l.length (c3c q.l) from fun q hq => own_kept (own_below (HTQ.out q hq) hbW) HOW2.out (by decide) hg)
              have HTN := Lib.hid (show World.ownsRow U4 W5.heap.size 103 3 (.slice TA r.l.length tc) r.l.length (c3c r.l) from own_kept (own_lower2 HC2.out hzq) HOW2.out (by decide) hg)
              rw [← r3_app] at hO
              obtain ⟨SA3, sc3, rfl⟩ := own_shape hO
              have HO4 := Lib.hid hO
              clear hO hg HN HC2 HOW2 hbW hzc
              have hS := HL4.out
              refine hK.out _ _ ?_ (fun hHeld2 => ?_)
              · clear hK; exact hS
              clear hK K hHeld hS
              have hHeld := hHeld2
              clear hHeld2
              try simp only [Act.put, List.setIfInBounds_toArray, List.set_cons_zero, List.set_cons_succ]
              refine takeD 16 (some 53) (v := ?_) rfl rfl (by kernel_rfl) (by kernel_rfl) (by kernel_rfl) (fun _ _ _ h => h) (by rfl) ?_ (by assumption) ?_
              rotate_left
              · intro w hSw
                (try dsimp only at hSw)
                go_simp
                try with_reducible rfl
              try simp only [Act.put, List.setIfInBounds_toArray, List.set_cons_zero, List.set_cons_succ]
              refine takeD 17 (some 54) (v := ?_) rfl rfl (by kernel_rfl) (by kernel_rfl) (by kernel_rfl) (fun _ _ _ h => h) (by rfl) ?_ (by assumption) ?_
              rotate_left
              · intro w hSw
                (try dsimp only at hSw)
                go_simp
                try with_reducible rfl
              try simp only [Act.put, List.setIfInBounds_toArray, List.set_cons_zero, List.set_cons_succ]
              refine wpAnyH_ready (rs := [18]) (by kernel_rfl) (by simp) ?_
              refine AllReadyH.cons rfl (fun K hK => ?_) AllReadyH.nil
              rw [if_pos (by rfl)]
              have cP := HP4.out.cells
              have fP := HP4.out.froz
              go_simp
              have hS := HL4.out.setO (show wr.heap.size ≠ pb by omega) 0 (.slice SA3 (k + 1) sc3)
              clear cP fP
              refine hK.out _ _ ?_ (fun hHeld2 => ?_)
              · clear hK; exact hS
              clear hK K hHeld hS
              have hHeld := hHeld2
              clear hHeld2
              try simp only [Act.put, List.setIfInBounds_toArray, List.set_cons_zero, List.set_cons_succ]
              refine wpAnyH_done (by kernel_rfl) ?_ _
              refine nameV (fun W => Below W5.heap.size wr U4 ∧ Blk W pb 86 (#[.slice SA3 (k + 1) sc3, .int .i64 c.St, .slice (some ⟨aP_, 0, none⟩) rs.length rs.length, .slice (some ⟨aT_, 0, none⟩) N N, .slice (some ⟨aA_, 0, none⟩) rs.length rs.length, .slice (some ⟨aC_, 0, none⟩) N N]) ∧ Only [pb] U4 W ∧ World.ownsRow W W5.heap.size 50 3 (.slice SA3 (k + 1) sc3) (k + 1) (r3 (rq ++ [⟨TA, tc, r.hold, r.latch, r.l⟩])) ∧ (∀ q ∈ rq ++ [⟨TA, tc, r.hold, r.latch, r.l⟩], World.ownsRow W W5.heap.size 103 3 (.slice q.A q.l.length q.rc) q.l.length (c3c q.l))) ⟨HBW.out, HP4.out.set 0 (.slice SA3 (k + 1) sc3), (Only.refl _ _).setCell (p := ⟨pb, 0, none⟩) (by simp) _, own_set HO4.out HP4.out (by decide), fun q hq => by
                rcases List.mem_append.1 hq with hq | hq
                · exact own_set (HT4.out q hq) HP4.out (by decide)
                · obtain rfl := List.mem_singleton.1 hq
                  exact own_set HTN.out HP4.out (by decide)⟩ fun W6 ⟨hb6, hp6, hk6, ho6, ht6⟩ => ?_
              have HO6 := Lib.hid ((Only.then HON.out hb6 (Nat.le_refl _)).trans hk6)
              have HP6 := Lib.hid hp6
              have HW6 := Lib.hid ho6
              have HT6 := Lib.hid ht6
              have HM6 := Lib.hid (show (rq ++ [(⟨TA, tc, r.hold, r.latch, r.l⟩ : Rl)]).map core = (rs.take (k + 1)).map core by rw [List.map_append, HM.out, List.take_add_one, HRK.out, List.map_append]; rfl)
              clear hHeld hb6 hp6 hk6 ho6 ht6 HP4 HO4 HT4 HTN HL4 HBW dL HPq HLQ HOWq HTQ HTM HBq
              go_wp2
              go_roundw
              case rel => exact ⟨k + 1, by omega, by go_num, HO6.out, _, SA3, sc3, HP6.out, HW6.out, HM6.out, HT6.out⟩
              case measure => simp [intOf]; omega
            · rw [if_pos (by rfl)]
              go_simp
              refine nameV (fun U3 => Below Wq.heap.size Wq U3 ∧ World.ownsRow U3 Wq.heap.size 103 3 (.slice TA r.l.length tc) r.l.length (c3c r.l) ∧ Blk U3 U2.heap.size 50 #[.slice TA r.l.length tc, .int .i64 r.hold, .bool r.latch]) ⟨hbW.alloc hbW.size _, own_below HC2.out ((Below.refl _ _).alloc (Nat.le_refl _) _), Blk.new _ _ _ _ rfl⟩ fun U3 ⟨hbW2, qHC, qHN⟩ => ?_
              clear HC2
              clear hbW
              have hbW := hbW2
              clear hbW2
              have HC2 := Lib.hid qHC
              have HN := Lib.hid qHN
              clear qHC qHN
              have hS := HLQ.out.below hbW
              refine hK.out _ _ ?_ (fun hHeld2 => ?_)
              · clear hK; exact hS
              clear hK K hHeld hS
              have hHeld := hHeld2
              clear hHeld2
              try simp only [Act.put, List.setIfInBounds_toArray, List.set_cons_zero, List.set_cons_succ]
              refine wpAnyH_ready (rs := [4]) (by kernel_rfl) (by simp) ?_
              refine AllReadyH.cons rfl (fun K hK => ?_) AllReadyH.nil
              rw [if_pos (by rfl)]
              have cP := (HPq.out.below hbW).cells
              go_simp
              clear cP
              have hS := hHeld
              refine hK.out _ _ ?_ (fun hHeld2 => ?_)
              · clear hK; exact hS
              clear hK K hHeld hS
              have hHeld := hHeld2
              clear hHeld2
              try simp only [Act.put, List.setIfInBounds_toArray, List.set_cons_zero, List.set_cons_succ]
              refine wpAnyH_ready (rs := [15]) (by kernel_rfl) (by simp) ?_
              refine AllReadyH.cons rfl (fun K hK => ?_) AllReadyH.nil
              rw [if_pos (by rfl)]
              have HOW2 := Lib.hid (own_below HOWq.out hbW)
              have hzc : W5.heap.size ≤ U3.heap.size := Nat.le_trans hzq hbW.size
              refine wp_appN elRu (.tmp 41) (.tmp 51) rfl W5.heap.size _ k (r3 rq) rfl HOW2.out _ 1 (r3 [⟨TA, tc, r.hold, r.latch, r.l⟩]) rfl (RowN.of_blk HN.out rfl rfl (Nat.le_refl _) (by decide)) (r3_one _) (by unfold maxLen; omega) (by omega) hzc ?_
              intro v4 U4 hO hg _
              have HBW := Lib.hid (below_app ((HBq.out.trans (hbW.mono hzq)) : Below W5.heap.size wr U3) hzc HOW2.out hg (Nat.le_refl _))
              have HP4 := Lib.hid (show Blk U4 pb 86 _ from (hg.block _ (HPq.out.below hbW).lt (own_ne HOW2.out (HPq.out.below hbW) (by decide))).trans (HPq.out.below hbW))
              have HL4 := Lib.hid (show Blk U4 wr.heap.size 50 _ from (hg.block _ (HLQ.out.below hbW).lt (fun he => by have := own_lt HOW.out he.symm; omega)).trans (HLQ.out.below hbW))
              have HT4 := Lib.hid (show ∀ q ∈ rq, World.ownsRow U4 W5.heap.size 103 3 (.slice q.A q.l.length q.rc) q.l.length (c3c q.l) from fun q hq => own_kept (own_below (HTQ.out q hq) hbW) HOW2.out (by decide) hg)
              have HTN := Lib.hid (show World.ownsRow U4 W5.heap.size 103 3 (.slice TA r.l.length tc) r.l.length (c3c r.l) from own_kept (own_lower2 HC2.out hzq) HOW2.out (by decide) hg)
              rw [← r3_app] at hO
              obtain ⟨SA3, sc3, rfl⟩ := own_shape hO
              have HO4 := Lib.hid hO
              clear hO hg HN HC2 HOW2 hbW hzc
              have hS := HL4.out
              refine hK.out _ _ ?_ (fun hHeld2 => ?_)
              · clear hK; exact hS
              clear hK K hHeld hS
              have hHeld := hHeld2
              clear hHeld2
              try simp only [Act.put, List.setIfInBounds_toArray, List.set_cons_zero, List.set_cons_succ]
              refine takeD 16 (some 53) (v := ?_) rfl rfl (by kernel_rfl) (by kernel_rfl) (by kernel_rfl) (fun _ _ _ h => h) (by rfl) ?_ (by assumption) ?_
              rotate_left
              · intro w hSw
                (try dsimp only at hSw)
                go_simp
                try with_reducible rfl
              try simp only [Act.put, List.setIfInBounds_toArray, List.set_cons_zero, List.set_cons_succ]
              refine takeD 17 (some 54) (v := ?_) rfl rfl (by kernel_rfl) (by kernel_rfl) (by kernel_rfl) (fun _ _ _ h => h) (by rfl) ?_ (by assumption) ?_
              rotate_left
              · intro w hSw
                (try dsimp only at hSw)
                go_simp
                try with_reducible rfl
              try simp only [Act.put, List.setIfInBounds_toArray, List.set_cons_zero, List.set_cons_succ]
              refine wpAnyH_ready (rs := [18]) (by kernel_rfl) (by simp) ?_
              refine AllReadyH.cons rfl (fun K hK => ?_) AllReadyH.nil
              rw [if_pos (by rfl)]
              have cP := HP4.out.cells
              have fP := HP4.out.froz
              go_simp
              have hS := HL4.out.setO (show wr.heap.size ≠ pb by omega) 0 (.slice SA3 (k + 1) sc3)
              clear cP fP
              refine hK.out _ _ ?_ (fun hHeld2 => ?_)
              · clear hK; exact hS
              clear hK K hHeld hS
              have hHeld := hHeld2
              clear hHeld2
              try simp only [Act.put, List.setIfInBounds_toArray, List.set_cons_zero, List.set_cons_succ]
              refine wpAnyH_done (by kernel_rfl) ?_ _
              refine nameV (fun W => Below W5.heap.size wr U4 ∧ Blk W pb 86 (#[.slice SA3 (k + 1) sc3, .int .i64 c.St, .slice (some ⟨aP_, 0, none⟩) rs.length rs.length, .slice (some ⟨aT_, 0, none⟩) N N, .slice (some ⟨aA_, 0, none⟩) rs.length rs.length, .slice (some ⟨aC_, 0, none⟩) N N]) ∧ Only [pb] U4 W ∧ World.ownsRow W W5.heap.size 50 3 (.slice SA3 (k + 1) sc3) (k + 1) (r3 (rq ++ [⟨TA, tc, r.hold, r.latch, r.l⟩])) ∧ (∀ q ∈ rq ++ [⟨TA, tc, r.hold, r.latch, r.l⟩], World.ownsRow W W5.heap.size 103 3 (.slice q.A q.l.length q.rc) q.l.length (c3c q.l))) ⟨HBW.out, HP4.out.set 0 (.slice SA3 (k + 1) sc3), (Only.refl _ _).setCell (p := ⟨pb, 0, none⟩) (by simp) _, own_set HO4.out HP4.out (by decide), fun q hq => by
                rcases List.mem_append.1 hq with hq | hq
                · exact own_set (HT4.out q hq) HP4.out (by decide)
                · obtain rfl := List.mem_singleton.1 hq
                  exact own_set HTN.out HP4.out (by decide)⟩ fun W6 ⟨hb6, hp6, hk6, ho6, ht6⟩ => ?_
              have HO6 := Lib.hid ((Only.then HON.out hb6 (Nat.le_refl _)).trans hk6)
              have HP6 := Lib.hid hp6
              have HW6 := Lib.hid ho6
              have HT6 := Lib.hid ht6
              have HM6 := Lib.hid (show (rq ++ [(⟨TA, tc, r.hold, r.latch, r.l⟩ : Rl)]).map core = (rs.take (k + 1)).map core by rw [List.map_append, HM.out, List.take_add_one, HRK.out, List.map_append]; rfl)
              clear hHeld hb6 hp6 hk6 ho6 ht6 HP4 HO4 HT4 HTN HL4 HBW dL HPq HLQ HOWq HTQ HTM HBq
              go_wp2
              go_roundw
              case rel => exact ⟨k + 1, by omega, by go_num, HO6.out, _, SA3, sc3, HP6.out, HW6.out, HM6.out, HT6.out⟩
              case measure => simp [intOf]; omega
      · obtain rfl : k = rs.length := by omega
        have cP := HP.out.cells
        go_wp2
        go_ret
        have hrl : rq.length = rs.length := by have := congrArg List.length HM.out; simpa using this
        have hkW := HON.out
        have hpb : w.heap.size ≤ pb := by omega
        have hbs := own_blk HOW.out
        have o5 : ∀ x, x < pb → w.heap.size ≤ x → Off pb w.heap.size (some ⟨x, 0, none⟩) := fun x h1 h2 ad e => by injection e with e; subst e; exact ⟨h2, by show x ≠ pb; omega⟩
        have hof : ∀ {A : Option Addr}, (∀ ad, A = some ad → W5.heap.size ≤ ad.block) → Off pb w.heap.size A := fun h ad e => by have := h ad e; omega
        have hnp : ∀ x, x < pb → x ∉ [pb] := fun x h hm => by simp at hm; omega
        refine ⟨pb, rq, by first | rfl | simp, ⟨⟨sA2, sc2, some ⟨aP_, 0, none⟩, rs.length, some ⟨aT_, 0, none⟩, N, some ⟨aA_, 0, none⟩, rs.length, some ⟨aC_, 0, none⟩, N, ?_, ⟨?_, hof fun ad e => (hbs ad e).1⟩, ⟨?_, o5 _ g5 (by omega)⟩, ⟨?_, o5 _ g6 (by omega)⟩, ⟨?_, o5 _ g7 (by omega)⟩, ⟨?_, o5 _ g8 (by omega)⟩⟩, fun q hq => ⟨RowN.of_own (HTR.out q hq), hof fun ad e => (own_blk (HTR.out q hq) ad e).1⟩, ⟨hpb, by omega⟩⟩, by rw [HM.out, List.take_length], Only.below HB5.out HB5.out.size hkW (by simp; omega)⟩
        · rw [hrl, List.length_replicate, List.length_replicate, List.length_replicate, List.length_replicate]; exact HP.out
        · rw [hrl]; exact RowN.of_own HOW.out
        · rw [List.length_replicate]; exact rowZP (KP.out.only hkW (hnp _ g5)) (by omega)
        · rw [List.length_replicate]; exact rowZT (KT.out.only hkW (hnp _ g6)) (by omega)
        · rw [List.length_replicate]; exact rowZB (KA.out.only hkW (hnp _ g7)) (by omega)
        · rw [List.length_replicate]; exact rowZB (KC.out.only hkW (hnp _ g8)) (by omega)
end Go.Proofs.Ytcdmojimdiiepaa
/- Layer 21: what the laws say of settings. -/
namespace Go.Proofs.Ytcdmojimdiiepaa
open Go.ChangeShapes Go.WideShapes Go.ChangeAt Go.RowKit
set_option linter.unusedVariables false
set_option linter.unusedSimpArgs false

theorem great_n {c : Cf} {rs : List Rl} (h : greatA c rs = false) : (chansOf c.rows).length ≤ 2500 := by
  unfold greatA at h
  rw [Bool.or_eq_false_iff, Bool.or_eq_false_iff] at h
  exact great_len h.1.1
theorem right_n {c : Cf} {rs : List Rl} (h : rightA c rs = true) : rs.length ≤ 8 ∧ 1 ≤ c.St ∧ c.St ≤ 1000 ∧ 0 < (chansOf c.rows).length ∧ ∀ r ∈ rs, ruleB r.hold r.l ((chansOf c.rows).length : Int) = true := by
  unfold rightA at h
  rw [Bool.and_eq_true, Bool.and_eq_true, decide_eq_true_eq, List.all_eq_true] at h
  obtain ⟨⟨h1, h2⟩, h3⟩ := h
  obtain ⟨_, _, k3, k4⟩ := confP h1
  refine ⟨h2, k3.2.2.1, k3.2.2.2.1, ?_, h3⟩
  have hr : 0 < c.rows.length := by omega
  have hl : 0 < lenAt c.rows 0 := by
    obtain ⟨r, hr0⟩ : ∃ r, c.rows[0]? = some r := ⟨_, List.getElem?_eq_getElem hr⟩
    rw [lenAt_some hr0]
    have := (k4 r (List.mem_of_getElem? hr0)).1
    omega
  have := came_lt c.rows 0 0 hr hl
  omega
theorem newL_ok {c : Cf} {rs : List Rl} (h : rightA c rs = true) : ∀ x ∈ newL rs, x.ok (chansOf c.rows).length := by
  obtain ⟨_, _, _, _, h5⟩ := right_n h
  intro x hx
  obtain ⟨r, hr, rfl⟩ := List.mem_map.1 hx
  have h6 := h5 r hr
  obtain ⟨h7, _⟩ := rule_h h6
  exact ⟨h6, Int.le_refl _, by show (0 : Int) ≤ r.hold; omega⟩
theorem newM_ok {c : Cf} {rs : List Rl} (h : rightA c rs = true) : ∀ x ∈ newM c, x.ok (chansOf c.rows).length := by
  obtain ⟨_, h2, h3, _, _⟩ := right_n h
  intro x hx
  obtain ⟨i, hi, rfl⟩ := List.mem_map.1 hx
  exact ⟨List.mem_range.1 hi, h2, h3, Int.le_refl _, by show (0 : Int) ≤ c.St; omega⟩
theorem newL_len (rs : List Rl) : (newL rs).length = rs.length := by simp [newL]
theorem newM_len (c : Cf) : (newM c).length = (chansOf c.rows).length := by simp [newM]
theorem OpsV.below {w w' : World} {v : Value} {l : List Ol} (h : OpsV w v l) (hb : Below w.heap.size w w') : OpsV w' v l := by
  obtain ⟨A, c, e, h1, h2⟩ := h
  exact ⟨A, c, e, h1.below hb, fun o ho => (h2 o ho).below hb⟩
/-- cells that were there before all alarms -/
theorem FrC.of {w : World} {lo hi : Nat} {A : Option Addr} {c : Nat} {cs : List Cl} (h : RowN 3 w (.slice A cs.length c) cs.length (c3c cs)) (hn : 0 < cs.length) (hl : w.heap.size ≤ lo) : FrC lo hi A := by
  intro ad e
  obtain ⟨_, A', c', e1, _, _, hA⟩ := h
  injection e1 with e1 _ _
  subst e1
  rcases hA with ⟨h1, _⟩ | ⟨ad', h1, h2, _⟩
  · rw [h1] at e; cases e
  · rw [h1] at e
    injection e with e
    subst e
    have := h2 (by rw [c3c_len]; omega)
    omega
end Go.Proofs.Ytcdmojimdiiepaa
/- Layer 21: the document's state beside the code's. -/
namespace Go.Proofs.Ytcdmojimdiiepaa
open Go.ChangeShapes Go.WideShapes Go.ChangeAt Go.RowKit
set_option linter.unusedVariables false
set_option linter.unusedSimpArgs false

structure Tie (L M : List Wt) (k : Int) (rs : List Rl) (R : List Ph) (Ch : List Te) (ar ac : List Bool) : Prop where
  nL : L.length = rs.length
  nR : R.length = rs.length
  nA : ar.length = rs.length
  nM : M.length = Ch.length
  nC : ac.length = Ch.length
  r : ∀ (i : Nat) (r : Rl) (s : Ph) (a : Bool), rs[i]? = some r → R[i]? = some s → ar[i]? = some a → ∃ A rc, L[i]? = some (.rule A rc r.hold r.latch r.l s a)
  c : ∀ (i : Nat) (s : Te) (a : Bool), Ch[i]? = some s → ac[i]? = some a → M[i]? = some (.chan k i s a)
theorem ackO_at {n : Int} {l : List Bool} {i : Nat} {b : Bool} (h : (ackO n l l.length)[i]? = some b) : ∃ a, l[i]? = some a ∧ b = (a || decide ((i : Int) = n)) := by
  unfold ackO at h
  rw [List.getElem?_map] at h
  obtain ⟨j, hj, rfl⟩ := Option.map_eq_some_iff.1 h
  obtain ⟨h1, h2⟩ := List.getElem?_eq_some_iff.1 hj
  rw [List.getElem_range] at h2
  subst h2
  rw [List.length_range] at h1
  exact ⟨l[i], List.getElem?_eq_getElem h1, by rw [getD_lt l i false l[i] (List.getElem?_eq_getElem h1)]⟩
theorem ackL_at {n : Int} {L : List Wt} {i : Nat} {x : Wt} (h : L[i]? = some x) : (ackL n L)[i]? = some (if (i : Int) = n then x.ack else x) := by
  have hi := (List.getElem?_eq_some_iff.1 h).1
  unfold ackL
  split
  · rename_i hn
    rw [List.getElem?_modify, h]
    by_cases e : (i : Int) = n
    · rw [if_pos e]
      show some (if n.toNat = i then x.ack else x) = _
      rw [if_pos (by omega)]
    · rw [if_neg e]
      show some (if n.toNat = i then x.ack else x) = _
      rw [if_neg (by omega)]
  · rename_i hn
    rw [h, if_neg (by omega)]
theorem rep_at {α : Type} {n i : Nat} {a b : α} (h : (List.replicate n a)[i]? = some b) : i < n ∧ b = a := by
  rw [List.getElem?_replicate] at h
  split at h
  · rename_i hi
    injection h with h
    exact ⟨hi, h.symm⟩
  · cases h
theorem Tie.new {c : Cf} {rs rq : List Rl} (h : rq.map (fun r : Rl => (r.hold, r.latch, r.l)) = rs.map (fun r : Rl => (r.hold, r.latch, r.l))) : Tie (newL rs) (newM c) c.St rq (List.replicate rs.length ⟨0, false, false⟩) (List.replicate (chansOf c.rows).length ⟨0, false, false, false⟩) (List.replicate rs.length false) (List.replicate (chansOf c.rows).length false) := by
  have hl : rq.length = rs.length := by have := congrArg List.length h; simpa using this
  refine ⟨by rw [newL_len, hl], by rw [List.length_replicate, hl], by rw [List.length_replicate, hl], by rw [newM_len, List.length_replicate], by rw [List.length_replicate, List.length_replicate], ?_, ?_⟩
  · intro i r s a h1 h2 h3
    obtain ⟨_, rfl⟩ := rep_at h2
    obtain ⟨_, rfl⟩ := rep_at h3
    have e := congrArg (fun l => l[i]?) h
    simp only [List.getElem?_map, h1, Option.map_some] at e
    obtain ⟨r0, hr0, e2⟩ := Option.map_eq_some_iff.1 e.symm
    injection e2 with e3 e4
    injection e4 with e4 e5
    refine ⟨r0.A, r0.rc, ?_⟩
    unfold newL
    rw [List.getElem?_map, hr0]
    simp only [Option.map_some, newR, e3, e4, e5]
  · intro i s a h1 h2
    obtain ⟨hi, rfl⟩ := rep_at h1
    obtain ⟨_, rfl⟩ := rep_at h2
    unfold newM
    rw [List.getElem?_map, List.getElem?_range hi]
    rfl
theorem Tie.ackR {L M : List Wt} {k : Int} {rs : List Rl} {R : List Ph} {Ch : List Te} {ar ac : List Bool} (h : Tie L M k rs R Ch ar ac) (n : Int) : Tie (ackL n L) M k rs R Ch (ackO n ar ar.length) ac := by
  refine ⟨by rw [ackL_len, h.nL], h.nR, by rw [ackO_len, h.nA], h.nM, h.nC, ?_, h.c⟩
  intro i r s a h1 h2 h3
  obtain ⟨b, hb, rfl⟩ := ackO_at h3
  obtain ⟨A, rc, hL⟩ := h.r i r s b h1 h2 hb
  refine ⟨A, rc, ?_⟩
  rw [ackL_at hL]
  by_cases e : (i : Int) = n
  · rw [if_pos e, decide_eq_true e, Bool.or_true]; rfl
  · rw [if_neg e, decide_eq_false e, Bool.or_false]
theorem Tie.ackC {L M : List Wt} {k : Int} {rs : List Rl} {R : List Ph} {Ch : List Te} {ar ac : List Bool} (h : Tie L M k rs R Ch ar ac) (n : Int) : Tie L (ackL n M) k rs R Ch ar (ackO n ac ac.length) := by
  refine ⟨h.nL, h.nR, h.nA, by rw [ackL_len, h.nM], by rw [ackO_len, h.nC], h.r, ?_⟩
  intro i s a h1 h2
  obtain ⟨b, hb, rfl⟩ := ackO_at h2
  rw [ackL_at (h.c i s b h1 hb)]
  by_cases e : (i : Int) = n
  · rw [if_pos e, decide_eq_true e, Bool.or_true]; rfl
  · rw [if_neg e, decide_eq_false e, Bool.or_false]
theorem some_of_len {α β : Type} {l : List α} {m : List β} {i : Nat} {x : α} (h : l[i]? = some x) (e : m.length = l.length) : ∃ y, m[i]? = some y :=
  ⟨_, List.getElem?_eq_getElem (by rw [e]; exact (List.getElem?_eq_some_iff.1 h).1)⟩
theorem range_at {α : Type} {f : Nat → α} {k i : Nat} {b : α} (h : ((List.range k).map f)[i]? = some b) : i < k ∧ b = f i := by
  rw [List.getElem?_map] at h
  obtain ⟨j, hj, rfl⟩ := Option.map_eq_some_iff.1 h
  obtain ⟨h1, h2⟩ := List.getElem?_eq_some_iff.1 hj
  rw [List.getElem_range] at h2
  subst h2
  rw [List.length_range] at h1
  exact ⟨h1, rfl⟩
theorem phO_at {rs : List Rl} {R : List Ph} {ar : List Bool} {cs : List Cl} {i : Nat} {r : Rl} {s : Ph} {a : Bool} (hr : rs[i]? = some r) (hs : R[i]? = some s) (ha : ar[i]? = some a) : phO rs R ar cs i = pstep r.hold r.latch s (saysR r.l cs) a := by
  unfold phO
  simp only [List.getD_eq_getElem?_getD, hr, hs, ha, Option.getD_some]
theorem teO_at {k : Int} {Ch : List Te} {ac : List Bool} {cs : List Cl} {i : Nat} {s : Te} {a : Bool} (hs : Ch[i]? = some s) (ha : ac[i]? = some a) : teO k Ch ac cs i = tstep k s (sampB cs i) a := by
  unfold teO
  simp only [List.getD_eq_getElem?_getD, hs, ha, Option.getD_some]
theorem Tie.next {L M : List Wt} {k : Int} {rs : List Rl} {R : List Ph} {Ch : List Te} {ar ac : List Bool} (h : Tie L M k rs R Ch ar ac) (cs : List Cl) : Tie (L.map (Wt.next cs)) (M.map (Wt.next cs)) k rs (phL rs R ar cs rs.length) (teL k Ch ac cs Ch.length) (List.replicate rs.length false) (List.replicate Ch.length false) := by
  refine ⟨by rw [List.length_map, h.nL], phL_len _ _ _ _ _, List.length_replicate, by rw [List.length_map, h.nM, teL_len], by rw [List.length_replicate, teL_len], ?_, ?_⟩
  · intro i r s a h1 h2 h3
    obtain ⟨_, rfl⟩ := rep_at h3
    obtain ⟨_, rfl⟩ := range_at h2
    obtain ⟨s0, hs0⟩ := some_of_len h1 h.nR
    obtain ⟨a0, ha0⟩ := some_of_len h1 h.nA
    obtain ⟨A, rc, hL⟩ := h.r i r s0 a0 h1 hs0 ha0
    refine ⟨A, rc, ?_⟩
    rw [List.getElem?_map, hL, phO_at h1 hs0 ha0]
    rfl
  · intro i s a h1 h2
    obtain ⟨_, rfl⟩ := rep_at h2
    obtain ⟨hi, rfl⟩ := range_at h1
    obtain ⟨s0, hs0⟩ : ∃ s0, Ch[i]? = some s0 := ⟨_, List.getElem?_eq_getElem hi⟩
    obtain ⟨a0, ha0⟩ := some_of_len hs0 h.nC
    rw [List.getElem?_map, h.c i s0 a0 hs0 ha0, teO_at hs0 ha0]
    rfl
theorem Tie.alR {L M : List Wt} {k : Int} {rs : List Rl} {R : List Ph} {Ch : List Te} {ar ac : List Bool} (h : Tie L M k rs R Ch ar ac) : L.map Wt.al = alP R := by
  apply List.ext_getElem?
  intro i
  unfold alP
  rw [List.getElem?_map, List.getElem?_map]
  cases hs : R[i]? with
  | none =>
    have hi := List.getElem?_eq_none_iff.1 hs
    rw [List.getElem?_eq_none (by rw [h.nL, ← h.nR]; exact hi)]
    rfl
  | some s =>
    obtain ⟨r, hr⟩ := some_of_len hs h.nR.symm
    obtain ⟨a, ha⟩ := some_of_len hr h.nA
    obtain ⟨A, rc, hL⟩ := h.r i r s a hr hs ha
    rw [hL]
    rfl
theorem Tie.alM {L M : List Wt} {k : Int} {rs : List Rl} {R : List Ph} {Ch : List Te} {ar ac : List Bool} (h : Tie L M k rs R Ch ar ac) : M.map Wt.al = alT Ch := by
  apply List.ext_getElem?
  intro i
  unfold alT
  rw [List.getElem?_map, List.getElem?_map]
  cases hs : Ch[i]? with
  | none =>
    have hi := List.getElem?_eq_none_iff.1 hs
    rw [List.getElem?_eq_none (by rw [h.nM]; exact hi)]
    rfl
  | some s =>
    obtain ⟨a, ha⟩ := some_of_len hs h.nC
    rw [h.c i s a hs ha]
    rfl
theorem Tie.alR2 {L M : List Wt} {k : Int} {rs : List Rl} {R : List Ph} {Ch : List Te} {ar ac : List Bool} (h : Tie L M k rs R Ch ar ac) (cs : List Cl) : (L.map fun x => (x.next cs).al) = alP (phL rs R ar cs rs.length) := by
  have := (h.next cs).alR
  rw [List.map_map] at this
  exact this
theorem Tie.alM2 {L M : List Wt} {k : Int} {rs : List Rl} {R : List Ph} {Ch : List Te} {ar ac : List Bool} (h : Tie L M k rs R Ch ar ac) (cs : List Cl) : (M.map fun x => (x.next cs).al) = alT (teL k Ch ac cs Ch.length) := by
  have := (h.next cs).alM
  rw [List.map_map] at this
  exact this
theorem Tie.okR {L M : List Wt} {k : Int} {rs : List Rl} {R : List Ph} {Ch : List Te} {ar ac : List Bool} (h : Tie L M k rs R Ch ar ac) {n : Nat} (ho : ∀ x ∈ L, x.ok n) : ∀ r ∈ rs, ruleB r.hold r.l (n : Int) = true := by
  intro r hr
  obtain ⟨i, hi⟩ := List.getElem?_of_mem hr
  obtain ⟨s, hs⟩ := some_of_len hi h.nR
  obtain ⟨a, ha⟩ := some_of_len hi h.nA
  obtain ⟨A, rc, hL⟩ := h.r i r s a hi hs ha
  exact (ho _ (List.mem_of_getElem? hL)).1
theorem Tie.bdR {L M : List Wt} {k : Int} {rs : List Rl} {R : List Ph} {Ch : List Te} {ar ac : List Bool} (h : Tie L M k rs R Ch ar ac) {n : Nat} (ho : ∀ x ∈ L, x.ok n) : ∀ (i : Nat) (s : Ph), R[i]? = some s → 0 ≤ s.run ∧ s.run ≤ 4611686018427387904 := by
  intro i s hs
  obtain ⟨r, hr⟩ := some_of_len hs h.nR.symm
  obtain ⟨a, ha⟩ := some_of_len hr h.nA
  obtain ⟨A, rc, hL⟩ := h.r i r s a hr hs ha
  obtain ⟨h1, h2, h3⟩ := ho _ (List.mem_of_getElem? hL)
  have := rule_h h1
  omega
theorem Tie.bdC {L M : List Wt} {k : Int} {rs : List Rl} {R : List Ph} {Ch : List Te} {ar ac : List Bool} (h : Tie L M k rs R Ch ar ac) {n : Nat} (ho : ∀ x ∈ M, x.ok n) : ∀ (i : Nat) (s : Te), Ch[i]? = some s → 0 ≤ s.run ∧ s.run ≤ 4611686018427387904 := by
  intro i s hs
  obtain ⟨a, ha⟩ := some_of_len hs h.nC
  obtain ⟨h1, h2, h3, h4, h5⟩ := ho _ (List.mem_of_getElem? (h.c i s a hs ha))
  omega
theorem RSt.fr {a b : World} {lo hi lo2 pb : Nat} {rs : List Rl} {k : Int} {R : List Ph} {Ch : List Te} {ar ac : List Bool} (h : RSt a lo2 pb rs k R Ch ar ac) (f : Fr lo hi a b) (hd : hi ≤ lo2) : RSt b lo2 pb rs k R Ch ar ac := by
  obtain ⟨s, k1, k2⟩ := f
  exact h.only k1 (fun x hx => by have := k2 x hx; omega)
theorem RSt.below {a b : World} {lo2 pb : Nat} {rs : List Rl} {k : Int} {R : List Ph} {Ch : List Te} {ar ac : List Bool} (h : RSt a lo2 pb rs k R Ch ar ac) (f : Below a.heap.size a b) : RSt b lo2 pb rs k R Ch ar ac := h.only (Only.of_below [] f) (by simp)
theorem nil2 (w : World) : RowN 2 w (.slice none 0 0) 0 (al2 []) := ⟨rfl, none, 0, rfl, Nat.le_refl _, Nat.zero_le _, .inl ⟨rfl, rfl⟩⟩
theorem Fr.one {a b : World} {p : Nat} (h : Only [p] a b) : Fr p (p + 1) a b := Fr.of_only h (fun x hx => by simp at hx; omega)
end Go.Proofs.Ytcdmojimdiiepaa
/- Layer 21: all alarms are the document's. -/
namespace Go.Proofs.Ytcdmojimdiiepaa
open Go.ChangeShapes Go.WideShapes Go.ChangeAt Go.RowKit
set_option linter.unusedVariables false
set_option linter.unusedSimpArgs false

set_option maxRecDepth 100000 in
set_option maxHeartbeats 16000000 in
theorem walkH_AlarmTells (hd : Hd) (vc : Value) (z : Cf × List Rl) (vl : Value) (l : List Ol) (w : World) (h0 : ConfV w vc z) (h1 : OpsV w vl l) :
    Calls Try.prog 3 #[vc, vl] w fun e w' => e = .returned (.bool true) ∧ Below w.heap.size w w' := by
  obtain ⟨c, rs⟩ := z
  have hc0 : ConfR w vc c rs := h0
  obtain ⟨sA, sn, scap, RA, rc, rfl, hrc, _, _⟩ := hc0.shape
  have HC := Lib.hid hc0
  clear h0 hc0
  have OXV := Lib.hid h1
  obtain ⟨OXA, OXc, rfl, hOXr, hOXt⟩ := h1
  have OXR := Lib.hid hOXr
  have OXT := Lib.hid hOXt
  have hOXcap := hOXr.caps.1
  clear hOXr hOXt
  go_enter Try.func3, Try.ntmps3
  go_wp2_with fail
  refine calls_world (fun W => Below w.heap.size w W ∧ Blk W w.heap.size 25 #[.int .i64 c.P, .int .i64 c.H, .int .i64 c.C, .int .i64 c.Mn, .int .i64 c.Mx, .int .i64 c.Rho, .int .i64 c.Bd, .int .i64 c.Win, .int .i64 c.St, .slice sA sn scap, .slice RA rs.length rc]) ⟨by go_grown, Blk.new _ _ _ _ rfl⟩ fun W1 ⟨hb1, hq1⟩ => ?_
  have HB1 := Lib.hid hb1
  have HQ1 := Lib.hid hq1
  clear hb1 hq1
  refine (hd W1).mono ?_
  rintro e W2 ⟨rfl, hk⟩
  (try clear cQ); (try clear lQ)
  have HB2 := Lib.hid (Btrans HB1.out hk)
  have HQ2 := Lib.hid (HQ1.out.below hk)
  clear hk HB1 HQ1
  have cQ := HQ2.out.cells
  have lQ := HQ2.out.lt
  go_wp2_with fail
  refine (great21_any _ c rs _ (HC.out.below HB2.out)).mono ?_
  rintro e W3 ⟨rfl, hk⟩
  obtain ⟨ga, hga⟩ : ∃ b, b = greatA c rs := ⟨_, rfl⟩
  rw [← hga]
  (try clear cQ); (try clear lQ)
  have HB3 := Lib.hid (Btrans HB2.out hk)
  have HQ3 := Lib.hid (HQ2.out.below hk)
  clear hk HB2 HQ2
  have HGA := Lib.hid hga
  clear hga
  have cQ := HQ3.out.cells
  have lQ := HQ3.out.lt
  cases ga with
  | true =>
    go_wp2
    go_ret
    exact ⟨by first | rfl | simp, HB3.out⟩
  | false =>
  go_wp2_with fail
  refine (greatO_any _ l _ (OXV.out.below HB3.out)).mono ?_
  rintro e W4 ⟨rfl, hk⟩
  obtain ⟨go0, hgo0⟩ : ∃ b, b = greatO l := ⟨_, rfl⟩
  rw [← hgo0]
  (try clear cQ); (try clear lQ)
  have HB4 := Lib.hid (Btrans HB3.out hk)
  have HQ4 := Lib.hid (HQ3.out.below hk)
  clear hk HB3 HQ3
  have HGO0 := Lib.hid hgo0
  clear hgo0
  have cQ := HQ4.out.cells
  have lQ := HQ4.out.lt
  cases go0 with
  | true =>
    go_wp2
    go_ret
    exact ⟨by first | rfl | simp, HB4.out⟩
  | false =>
  go_wp2_with fail
  have HN25 := Lib.hid (great_n HGA.out.symm)
  obtain ⟨ri, hri⟩ : ∃ b, b = rightA c rs := ⟨_, rfl⟩
  have HRI := Lib.hid hri
  clear hri cQ lQ
  have hcur := HB4.out.drew
  have dB : ∀ w', Blk w' w.heap.size 25 #[.int .i64 c.P, .int .i64 c.H, .int .i64 c.C, .int .i64 c.Mn, .int .i64 c.Mx, .int .i64 c.Rho, .int .i64 c.Bd, .int .i64 c.Win, .int .i64 c.St, .slice sA sn scap, .slice RA rs.length rc] → ∀ i, w'.cell? ⟨w.heap.size, i, none⟩ = (#[.int .i64 c.P, .int .i64 c.H, .int .i64 c.C, .int .i64 c.Mn, .int .i64 c.Mx, .int .i64 c.Rho, .int .i64 c.Bd, .int .i64 c.Win, .int .i64 c.St, .slice sA sn scap, .slice RA rs.length rc] : Array Value)[i]? := fun w' hb => hb.cells
  refine wp_region_held_drew (S := fun w' => Blk w' w.heap.size 25 #[.int .i64 c.P, .int .i64 c.H, .int .i64 c.C, .int .i64 c.Mn, .int .i64 c.Mx, .int .i64 c.Rho, .int .i64 c.Bd, .int .i64 c.Win, .int .i64 c.St, .slice sA sn scap, .slice RA rs.length rc]) (by kernel_rfl) (HQ4.out.drwN 1) (fun hHeld => ?_)
  refine takeD 0 (some 21) (v := ?_) rfl rfl (by kernel_rfl) (by kernel_rfl) (by kernel_rfl) (fun _ _ _ h => h) (by rfl) ?_ (by assumption) ?_
  rotate_left
  · intro w hSw
    (try dsimp only at hSw)
    go_simp
    try with_reducible rfl
  try simp only [Act.put, List.setIfInBounds_toArray, List.set_cons_zero, List.set_cons_succ]
  refine takeD 2 (some 23) (v := ?_) rfl rfl (by kernel_rfl) (by kernel_rfl) (by kernel_rfl) (fun _ _ _ h => h) (by rfl) ?_ (by assumption) ?_
  rotate_left
  · intro w hSw
    (try dsimp only at hSw)
    go_simp
    try with_reducible rfl
  try simp only [Act.put, List.setIfInBounds_toArray, List.set_cons_zero, List.set_cons_succ]
  refine wpAnyH_ready (rs := [1]) (by kernel_rfl) (by simp) ?_
  refine AllReadyH.cons rfl (fun K hK => ?_) AllReadyH.nil
  rw [if_pos (by rfl)]
  go_simp
  go_at_call 12
  refine (right21_any _ c rs _ (HC.out.below hcur) (Nat.le_trans HN25.out (by decide))).mono ?_
  rintro e V1 ⟨rfl, hk⟩
  rw [← HRI.out]
  have hcur2 := Btrans hcur hk
  have hS2 := Blk.below hHeld hk
  clear hcur hk
  have hcur := hcur2
  clear hcur2
  have hS := hS2
  clear hS2
  go_wp2_with fail
  refine hK.out _ _ ?_ (fun hHeld2 => ?_)
  · clear hK; exact hS
  clear hK K hHeld hS
  have hHeld := hHeld2
  clear hHeld2
  try simp only [Act.put, List.setIfInBounds_toArray, List.set_cons_zero, List.set_cons_succ]
  refine wpAnyH_ready (rs := [3]) (by kernel_rfl) (by simp) ?_
  refine AllReadyH.cons rfl (fun K hK => ?_) AllReadyH.nil
  rw [if_pos (by rfl)]
  go_simp
  go_at_call 13
  refine (rright21_any _ c rs _ (HC.out.below hcur) (Nat.le_trans HN25.out (by decide))).mono ?_
  rintro e V2 ⟨rfl, hk⟩
  rw [← HRI.out]
  have hcur2 := Btrans hcur hk
  have hS2 := Blk.below hHeld hk
  clear hcur hk
  have hcur := hcur2
  clear hcur2
  have hS := hS2
  clear hS2
  go_wp2_with fail
  refine hK.out _ _ ?_ (fun hHeld2 => ?_)
  · clear hK; exact hS
  clear hK K hHeld hS
  have hHeld := hHeld2
  clear hHeld2
  try simp only [Act.put, List.setIfInBounds_toArray, List.set_cons_zero, List.set_cons_succ]
  refine takeD 4 (some 25) (v := ?_) rfl rfl (by kernel_rfl) (by kernel_rfl) (by kernel_rfl) (fun _ _ _ h => h) (by rfl) ?_ (by assumption) ?_
  rotate_left
  · intro w hSw
    (try dsimp only at hSw)
    go_simp
    try with_reducible rfl
  try simp only [Act.put, List.setIfInBounds_toArray, List.set_cons_zero, List.set_cons_succ]
  refine wpAnyH_done (by kernel_rfl) ?_ _
  have HB5 := Lib.hid hcur
  have HQ5 := Lib.hid (show Blk _ w.heap.size 25 #[.int .i64 c.P, .int .i64 c.H, .int .i64 c.C, .int .i64 c.Mn, .int .i64 c.Mx, .int .i64 c.Rho, .int .i64 c.Bd, .int .i64 c.Win, .int .i64 c.St, .slice sA sn scap, .slice RA rs.length rc] from hHeld)
  clear hcur hHeld dB HB4 HQ4 HRI
  have cQ := HQ5.out.cells
  have lQ := HQ5.out.lt
  go_wp2_with fail
  refine (rright21_any _ c rs _ (HC.out.below HB5.out) (Nat.le_trans HN25.out (by decide))).mono ?_
  rintro e W6 ⟨rfl, hk⟩
  obtain ⟨ri, hri⟩ : ∃ b, b = rightA c rs := ⟨_, rfl⟩
  rw [← hri]
  (try clear cQ); (try clear lQ)
  have HB6 := Lib.hid (Btrans HB5.out hk)
  have HQ6 := Lib.hid (HQ5.out.below hk)
  clear hk HB5 HQ5
  have HRI := Lib.hid hri
  clear hri
  have cQ := HQ6.out.cells
  have lQ := HQ6.out.lt
  cases ri with
  | false =>
    go_wp2
    go_ret
    exact ⟨by first | rfl | simp, HB6.out⟩
  | true =>
  have HRN := Lib.hid (right_n HRI.out.symm)
  have HOL := Lib.hid (newL_ok HRI.out.symm)
  have HOM := Lib.hid (newM_ok HRI.out.symm)
  have hr8 : rs.length ≤ 8 := HRN.out.1
  have hn25 : (chansOf c.rows).length ≤ 2500 := HN25.out
  have hn0 : 0 < (chansOf c.rows).length := HRN.out.2.2.2.1
  have hst : 1 ≤ c.St ∧ c.St ≤ 1000 := ⟨HRN.out.2.1, HRN.out.2.2.1⟩
  obtain ⟨N, HNE⟩ : ∃ N, RowKit.Hid (N = (chansOf c.rows).length) := ⟨_, Lib.hid rfl⟩
  have HOL2 := Lib.hid (show ∀ x ∈ newL rs, x.ok N by rw [HNE.out]; exact HOL.out)
  have HOM2 := Lib.hid (show ∀ x ∈ newM c, x.ok N by rw [HNE.out]; exact HOM.out)
  have HML := Lib.hid (show (newM c).length = N by rw [newM_len, HNE.out])
  have hN25 : N ≤ 2500 := by rw [HNE.out]; exact hn25
  have hN0 : 0 < N := by rw [HNE.out]; exact hn0
  clear HOL HOM hn25 hn0
  go_wp2_with fail
  refine (SS.new w _ _ c rs HC.out HB6.out (Nat.le_trans HN25.out (by decide)) (by omega)).mono ?_
  rintro e W7 ⟨pb, rfl, hS, hk⟩
  (try clear cQ); (try clear lQ)
  obtain ⟨lo, hi, hlo, hS, hlh, hle⟩ : ∃ lo hi, w.heap.size < lo ∧ SS w W7 lo hi pb (newL rs) (newM c) ∧ W6.heap.size = lo ∧ W7.heap.size = hi := ⟨_, _, HQ6.out.lt, hS, rfl, rfl⟩
  have HB7 := Lib.hid (Btrans HB6.out hk)
  have HQ7 := Lib.hid (HQ6.out.below hk)
  have HS7 := Lib.hid hS
  clear hS hk HB6 HQ6
  have cQ := HQ7.out.cells
  have lQ := HQ7.out.lt
  go_wp2_with fail
  refine (rnew21_any _ _ c rs (HC.out.below HB7.out) N HNE.out hN25 (by omega) (fun r hr => by have := rule_h (HRN.out.2.2.2.2 r hr); omega)).mono ?_
  rintro e W8 ⟨pb2, rq, rfl, hR, hcore, hk⟩
  (try clear cQ); (try clear lQ)
  have hdis : hi ≤ W7.heap.size := HS7.out.top.1
  obtain ⟨lo2, HLO2⟩ : ∃ x, RowKit.Hid (x = W7.heap.size) := ⟨_, Lib.hid rfl⟩
  rw [← HLO2.out] at hR hdis
  have HB8 := Lib.hid (Btrans HB7.out hk)
  have HS8 := Lib.hid (HS7.out.below hk)
  have HRS := Lib.hid hR
  have HTI := Lib.hid (Tie.new (c := c) hcore)
  have hlq : rq.length = rs.length := by have := congrArg List.length hcore; simpa using this
  have hrq8 : rq.length ≤ 8 := by omega
  have HLQ := Lib.hid hlq
  have hpb2 : lo2 ≤ pb2 := hR.head.1
  have hlow : lo ≤ hi := by have := HS7.out.top; omega
  have hl60 : l.length ≤ 60 := by
    have h := HGO0.out
    unfold greatO at h
    have h2 := (Bool.or_eq_false_iff.1 h.symm).1
    simpa using h2
  clear hR hcore hk hlq hlh hle HB7 HS7 HQ7
  have HRS2 := Lib.hid (show RSt W8 lo2 pb2 rq c.St (List.replicate rs.length ⟨0, false, false⟩) (List.replicate (chansOf c.rows).length ⟨0, false, false, false⟩) (List.replicate rs.length false) (List.replicate (chansOf c.rows).length false) by rw [← HNE.out]; exact HRS.out)
  clear HRS
  go_wp2_with fail
  go_loopw [8] (fun i wr => ∃ j : Nat, j ≤ l.length ∧ i = .int .i64 j ∧ Below w.heap.size w wr ∧ ∃ L M R Ch ar ac, SS w wr lo hi pb L M ∧ RSt wr lo2 pb2 rq c.St R Ch ar ac ∧ Tie L M c.St rq R Ch ar ac ∧ (∀ x ∈ L, x.ok N) ∧ (∀ x ∈ M, x.ok N) ∧ M.length = N ∧ L.length = rs.length) (fun i _ => l.length - (intOf i).toNat)
  case atStart => exact ⟨0, by omega, rfl, HB8.out, _, _, _, _, _, _, HS8.out, HRS2.out, HTI.out, HOL2.out, HOM2.out, HML.out, newL_len rs⟩
  case round =>
    clear HB8 HS8 HRS2 HTI
    obtain ⟨j, hj, rfl, hb, L, M, R, Ch, ar, ac, hS, hR, hT, hL, hM, hMl, hLl⟩ := hrel
    have HBc := Lib.hid hb
    have HSc := Lib.hid hS
    have HRc := Lib.hid hR
    have HT := Lib.hid hT
    have HLr := Lib.hid hL
    have HMr := Lib.hid hM
    have HMl := Lib.hid hMl
    have HLl := Lib.hid hLl
    clear hb hS hR hT hL hM hMl hLl
    by_cases hlt : j < l.length
    · obtain ⟨o, ho⟩ : ∃ o, l[j]? = some o := ⟨_, List.getElem?_eq_getElem hlt⟩
      obtain ⟨oad, rfl, hoad, o0, o1, o2⟩ := rowO_at OXR.out ho
      have HOM_ := Lib.hid (List.mem_of_getElem? ho)
      have HOP := Lib.hid (show ∀ W, Below w.heap.size w W → W.cell? (oad.add (j * 3)) = some (.int .i64 o.R) ∧ W.cell? ⟨(oad.add (j * 3)).block, (oad.add (j * 3)).off + 1, none⟩ = some (.int .i64 o.C) ∧ W.cell? ⟨(oad.add (j * 3)).block, (oad.add (j * 3)).off + 2, none⟩ = some (.slice o.A o.cs.length o.cc) from fun W hb => ⟨by rw [hb.cell (by rw [block_add]; exact hoad)]; exact o0, by rw [hb.cell (by show (oad.add (j * 3)).block < _; rw [block_add]; exact hoad)]; exact o1, by rw [hb.cell (by show (oad.add (j * 3)).block < _; rw [block_add]; exact hoad)]; exact o2⟩)
      have HCR := Lib.hid (OXT.out o HOM_.out)
      have hjl : (j : Int) < (l.length : Int) := by omega
      clear o0 o1 o2 hoad ho
      obtain ⟨oc0, oc1, oc2⟩ := HOP.out _ HBc.out
      have dO0 : ∀ W, Below w.heap.size w W → W.cell? (oad.add (j * 3)) = some (.int .i64 o.R) := fun W h => (HOP.out W h).1
      have dO1 : ∀ W, Below w.heap.size w W → W.cell? ⟨(oad.add (j * 3)).block, (oad.add (j * 3)).off + 1, none⟩ = some (.int .i64 o.C) := fun W h => (HOP.out W h).2.1
      obtain ⟨dr, HDR⟩ : ∃ b, RowKit.Hid (b = decide (0 ≤ o.R ∧ o.R < (rs.length : Int))) := ⟨_, Lib.hid rfl⟩
      obtain ⟨dc, HDC⟩ : ∃ b, RowKit.Hid (b = decide (0 ≤ o.C ∧ o.C < (N : Int))) := ⟨_, Lib.hid rfl⟩
      clear oc0 oc1 oc2
      go_wp2_with fail
      have hdw := (Below.refl wr.heap.size wr).drew
      have HS1 := Lib.hid (HSc.out.below hdw)
      have HR1 := Lib.hid (HRc.out.below hdw)
      have HB1 := Lib.hid (Btrans HBc.out hdw)
      clear hdw HSc HRc HBc
      have HSc := Lib.hid HS1.out
      have HRc := Lib.hid HR1.out
      have HBc := Lib.hid HB1.out
      clear HS1 HR1 HB1
      refine wp_region_held_drew (S := fun w' => Below w.heap.size w w') (by kernel_rfl) (HBc.out) (fun hHeld => ?_)
      refine takeD 0 (some 40) (v := ?_) rfl rfl (by kernel_rfl) (by kernel_rfl) (by kernel_rfl) (fun _ _ _ h => h) (by rfl) ?_ (by assumption) ?_
      rotate_left
      · intro w hSw
        (try dsimp only at hSw)
        go_simp
        try with_reducible rfl
      try simp only [Act.put, List.setIfInBounds_toArray, List.set_cons_zero, List.set_cons_succ]
      refine takeD 1 (some 41) (v := ?_) rfl rfl (by kernel_rfl) (by kernel_rfl) (by kernel_rfl) (fun _ _ _ h => h) (by rfl) ?_ (by assumption) ?_
      rotate_left
      · intro w hSw
        (try dsimp only at hSw)
        go_simp
        try with_reducible rfl
      try simp only [Act.put, List.setIfInBounds_toArray, List.set_cons_zero, List.set_cons_succ]
      refine takeD 2 (some 42) (v := ?_) rfl rfl (by kernel_rfl) (by kernel_rfl) (by kernel_rfl) (fun _ _ _ h => h) (by rfl) ?_ (by assumption) ?_
      rotate_left
      · intro w hSw
        (try dsimp only at hSw)
        go_simp
        try with_reducible rfl
      try simp only [Act.put, List.setIfInBounds_toArray, List.set_cons_zero, List.set_cons_succ]
      refine takeD 3 (some 43) (v := ?_) rfl rfl (by kernel_rfl) (by kernel_rfl) (by kernel_rfl) (fun _ _ _ h => h) (by rfl) ?_ (by assumption) ?_
      rotate_left
      · intro w hSw
        (try dsimp only at hSw)
        go_simp
        try with_reducible rfl
      try simp only [Act.put, List.setIfInBounds_toArray, List.set_cons_zero, List.set_cons_succ]
      refine takeD 4 (some 44) (v := ?_) rfl rfl (by kernel_rfl) (by kernel_rfl) (by kernel_rfl) (fun _ _ _ h => h) (by rfl) ?_ (by assumption) ?_
      rotate_left
      · intro w hSw
        (try dsimp only at hSw)
        go_simp
        try with_reducible rfl
      try simp only [Act.put, List.setIfInBounds_toArray, List.set_cons_zero, List.set_cons_succ]
      refine takeD 5 (some 45) (v := ?_) rfl rfl (by kernel_rfl) (by kernel_rfl) (by kernel_rfl) (fun _ _ _ h => h) (by rfl) ?_ (by assumption) ?_
      rotate_left
      · intro w hSw
        (try dsimp only at hSw)
        go_simp
        try with_reducible rfl
      try simp only [Act.put, List.setIfInBounds_toArray, List.set_cons_zero, List.set_cons_succ]
      refine takeD 7 (some 47) (v := ?_) rfl rfl (by kernel_rfl) (by kernel_rfl) (by kernel_rfl) (fun _ _ _ h => h) (by rfl) ?_ (by assumption) ?_
      rotate_left
      · intro w hSw
        (try dsimp only at hSw)
        go_simp
        try with_reducible rfl
      try simp only [Act.put, List.setIfInBounds_toArray, List.set_cons_zero, List.set_cons_succ]
      refine takeD 8 (some 48) (v := ?_) rfl rfl (by kernel_rfl) (by kernel_rfl) (by kernel_rfl) (fun _ _ _ h => h) (by rfl) ?_ (by assumption) ?_
      rotate_left
      · intro w hSw
        (try dsimp only at hSw)
        go_simp
        try with_reducible rfl
      try simp only [Act.put, List.setIfInBounds_toArray, List.set_cons_zero, List.set_cons_succ]
      refine takeD 9 (some 49) (v := ?_) rfl rfl (by kernel_rfl) (by kernel_rfl) (by kernel_rfl) (fun _ _ _ h => h) (by rfl) ?_ (by assumption) ?_
      rotate_left
      · intro w hSw
        (try dsimp only at hSw)
        go_simp
        try with_reducible rfl
      try simp only [Act.put, List.setIfInBounds_toArray, List.set_cons_zero, List.set_cons_succ]
      refine takeD 10 (some 50) (v := ?_) rfl rfl (by kernel_rfl) (by kernel_rfl) (by kernel_rfl) (fun _ _ _ h => h) (by rfl) ?_ (by assumption) ?_
      rotate_left
      · intro w hSw
        (try dsimp only at hSw)
        go_simp
        try with_reducible rfl
      try simp only [Act.put, List.setIfInBounds_toArray, List.set_cons_zero, List.set_cons_succ]
      refine takeD 11 (some 51) (v := ?_) rfl rfl (by kernel_rfl) (by kernel_rfl) (by kernel_rfl) (fun _ _ _ h => h) (by rfl) ?_ (by assumption) ?_
      rotate_left
      · intro w hSw
        (try dsimp only at hSw)
        go_simp
        try with_reducible rfl
      try simp only [Act.put, List.setIfInBounds_toArray, List.set_cons_zero, List.set_cons_succ]
      refine takeD 12 (some 52) (v := ?_) rfl rfl (by kernel_rfl) (by kernel_rfl) (by kernel_rfl) (fun _ _ _ h => h) (by rfl) ?_ (by assumption) ?_
      rotate_left
      · intro w hSw
        (try dsimp only at hSw)
        go_simp
        try with_reducible rfl
      try simp only [Act.put, List.setIfInBounds_toArray, List.set_cons_zero, List.set_cons_succ]
      refine wpAnyH_ready (rs := [6]) (by kernel_rfl) (by simp) ?_
      refine AllReadyH.cons rfl (fun K hK => ?_) AllReadyH.nil
      rw [if_pos (by rfl)]
      go_simp
      go_at_call 16
      refine (SS.ackR o.R HSc.out (by rw [HLl.out]; omega)).mono ?_
      rintro e W1 ⟨rfl, hs2, fr⟩
      rw [show decide (0 ≤ o.R ∧ o.R < (L.length : Int)) = dr by rw [HDR.out, HLl.out]]
      have hb2 := fr.below HBc.out (Nat.le_refl _) (Nat.le_of_lt hlo)
      have hr2 := HRc.out.fr fr hdis
      clear HBc HSc HRc
      have HBc := Lib.hid hb2
      have HSc := Lib.hid hs2
      have HRc := Lib.hid hr2
      clear hb2 hs2 hr2 fr
      have hS := HBc.out
      go_wp2_with fail
      refine hK.out _ _ ?_ (fun hHeld2 => ?_)
      · clear hK; exact hS
      clear hK K hHeld hS
      have hHeld := hHeld2
      clear hHeld2
      try simp only [Act.put, List.setIfInBounds_toArray, List.set_cons_zero, List.set_cons_succ]
      refine wpAnyH_ready (rs := [13]) (by kernel_rfl) (by simp) ?_
      refine AllReadyH.cons rfl (fun K hK => ?_) AllReadyH.nil
      rw [if_pos (by rfl)]
      go_simp
      go_at_call 17
      refine (rackR_any _ lo2 pb2 rq c.St R Ch ar ac o.R HRc.out (by rw [HT.out.nA]; omega)).mono ?_
      rintro e W2 ⟨rfl, hr2, hon⟩
      rw [show decide (0 ≤ o.R ∧ o.R < (ar.length : Int)) = dr by rw [HDR.out, HT.out.nA, HLQ.out]]
      have fr := Fr.one hon
      have hb2 := fr.below HBc.out (Nat.le_refl _) (by omega)
      have hs2 := HSc.out.fr fr (.inr (by omega))
      clear HBc HSc HRc
      have HBc := Lib.hid hb2
      have HSc := Lib.hid hs2
      have HRc := Lib.hid hr2
      clear hb2 hs2 hr2 fr hon
      have hS := HBc.out
      go_wp2_with fail
      refine hK.out _ _ ?_ (fun hHeld2 => ?_)
      · clear hK; exact hS
      clear hK K hHeld hS
      have hHeld := hHeld2
      clear hHeld2
      try simp only [Act.put, List.setIfInBounds_toArray, List.set_cons_zero, List.set_cons_succ]
      refine takeD 14 (some 54) (v := ?_) rfl rfl (by kernel_rfl) (by kernel_rfl) (by kernel_rfl) (fun _ _ _ h => h) (by rfl) ?_ (by assumption) ?_
      rotate_left
      · intro w hSw
        (try dsimp only at hSw)
        go_simp
        try with_reducible rfl
      try simp only [Act.put, List.setIfInBounds_toArray, List.set_cons_zero, List.set_cons_succ]
      refine takeD 15 (some 55) (v := ?_) rfl rfl (by kernel_rfl) (by kernel_rfl) (by kernel_rfl) (fun _ _ _ h => h) (by rfl) ?_ (by assumption) ?_
      rotate_left
      · intro w hSw
        (try dsimp only at hSw)
        go_simp
        try with_reducible rfl
      try simp only [Act.put, List.setIfInBounds_toArray, List.set_cons_zero, List.set_cons_succ]
      refine takeD 16 (some 56) (v := ?_) rfl rfl (by kernel_rfl) (by kernel_rfl) (by kernel_rfl) (fun _ _ _ h => h) (by rfl) ?_ (by assumption) ?_
      rotate_left
      · intro w hSw
        (try dsimp only at hSw)
        go_simp
        try with_reducible rfl
      try simp only [Act.put, List.setIfInBounds_toArray, List.set_cons_zero, List.set_cons_succ]
      refine takeD 17 (some 57) (v := ?_) rfl rfl (by kernel_rfl) (by kernel_rfl) (by kernel_rfl) (fun _ _ _ h => h) (by rfl) ?_ (by assumption) ?_
      rotate_left
      · intro w hSw
        (try dsimp only at hSw)
        go_simp
        try with_reducible rfl
      try simp only [Act.put, List.setIfInBounds_toArray, List.set_cons_zero, List.set_cons_succ]
      refine takeD 18 (some 58) (v := ?_) rfl rfl (by kernel_rfl) (by kernel_rfl) (by kernel_rfl) (fun _ _ _ h => h) (by rfl) ?_ (by assumption) ?_
      rotate_left
      · intro w hSw
        (try dsimp only at hSw)
        go_simp
        try with_reducible rfl
      try simp only [Act.put, List.setIfInBounds_toArray, List.set_cons_zero, List.set_cons_succ]
      refine takeD 19 (some 59) (v := ?_) rfl rfl (by kernel_rfl) (by kernel_rfl) (by kernel_rfl) (fun _ _ _ h => h) (by rfl) ?_ (by assumption) ?_
      rotate_left
      · intro w hSw
        (try dsimp only at hSw)
        go_simp
        try with_reducible rfl
      try simp only [Act.put, List.setIfInBounds_toArray, List.set_cons_zero, List.set_cons_succ]
      refine takeD 20 (some 60) (v := ?_) rfl rfl (by kernel_rfl) (by kernel_rfl) (by kernel_rfl) (fun _ _ _ h => h) (by rfl) ?_ (by assumption) ?_
      rotate_left
      · intro w hSw
        (try dsimp only at hSw)
        go_simp
        try with_reducible rfl
      try simp only [Act.put, List.setIfInBounds_toArray, List.set_cons_zero, List.set_cons_succ]
      refine takeD 21 (some 61) (v := ?_) rfl rfl (by kernel_rfl) (by kernel_rfl) (by kernel_rfl) (fun _ _ _ h => h) (by rfl) ?_ (by assumption) ?_
      rotate_left
      · intro w hSw
        (try dsimp only at hSw)
        go_simp
        try with_reducible rfl
      try simp only [Act.put, List.setIfInBounds_toArray, List.set_cons_zero, List.set_cons_succ]
      refine takeD 23 (some 63) (v := ?_) rfl rfl (by kernel_rfl) (by kernel_rfl) (by kernel_rfl) (fun _ _ _ h => h) (by rfl) ?_ (by assumption) ?_
      rotate_left
      · intro w hSw
        (try dsimp only at hSw)
        go_simp
        try with_reducible rfl
      try simp only [Act.put, List.setIfInBounds_toArray, List.set_cons_zero, List.set_cons_succ]
      refine takeD 24 (some 64) (v := ?_) rfl rfl (by kernel_rfl) (by kernel_rfl) (by kernel_rfl) (fun _ _ _ h => h) (by rfl) ?_ (by assumption) ?_
      rotate_left
      · intro w hSw
        (try dsimp only at hSw)
        go_simp
        try with_reducible rfl
      try simp only [Act.put, List.setIfInBounds_toArray, List.set_cons_zero, List.set_cons_succ]
      refine takeD 25 (some 65) (v := ?_) rfl rfl (by kernel_rfl) (by kernel_rfl) (by kernel_rfl) (fun _ _ _ h => h) (by rfl) ?_ (by assumption) ?_
      rotate_left
      · intro w hSw
        (try dsimp only at hSw)
        go_simp
        try with_reducible rfl
      try simp only [Act.put, List.setIfInBounds_toArray, List.set_cons_zero, List.set_cons_succ]
      refine takeD 26 (some 66) (v := ?_) rfl rfl (by kernel_rfl) (by kernel_rfl) (by kernel_rfl) (fun _ _ _ h => h) (by rfl) ?_ (by assumption) ?_
      rotate_left
      · intro w hSw
        (try dsimp only at hSw)
        go_simp
        try with_reducible rfl
      try simp only [Act.put, List.setIfInBounds_toArray, List.set_cons_zero, List.set_cons_succ]
      refine takeD 27 (some 67) (v := ?_) rfl rfl (by kernel_rfl) (by kernel_rfl) (by kernel_rfl) (fun _ _ _ h => h) (by rfl) ?_ (by assumption) ?_
      rotate_left
      · intro w hSw
        (try dsimp only at hSw)
        go_simp
        try with_reducible rfl
      try simp only [Act.put, List.setIfInBounds_toArray, List.set_cons_zero, List.set_cons_succ]
      refine takeD 28 (some 68) (v := ?_) rfl rfl (by kernel_rfl) (by kernel_rfl) (by kernel_rfl) (fun _ _ _ h => h) (by rfl) ?_ (by assumption) ?_
      rotate_left
      · intro w hSw
        (try dsimp only at hSw)
        go_simp
        try with_reducible rfl
      try simp only [Act.put, List.setIfInBounds_toArray, List.set_cons_zero, List.set_cons_succ]
      refine wpAnyH_ready (rs := [22]) (by kernel_rfl) (by simp) ?_
      refine AllReadyH.cons rfl (fun K hK => ?_) AllReadyH.nil
      rw [if_pos (by rfl)]
      go_simp
      go_at_call 18
      refine (SS.ackC o.C HSc.out (by rw [HMl.out]; omega)).mono ?_
      rintro e W3 ⟨rfl, hs2, fr⟩
      rw [show decide (0 ≤ o.C ∧ o.C < (M.length : Int)) = dc by rw [HDC.out, HMl.out]]
      have hb2 := fr.below HBc.out (Nat.le_refl _) (Nat.le_of_lt hlo)
      have hr2 := HRc.out.fr fr hdis
      clear HBc HSc HRc
      have HBc := Lib.hid hb2
      have HSc := Lib.hid hs2
      have HRc := Lib.hid hr2
      clear hb2 hs2 hr2 fr
      have hS := HBc.out
      go_wp2_with fail
      refine hK.out _ _ ?_ (fun hHeld2 => ?_)
      · clear hK; exact hS
      clear hK K hHeld hS
      have hHeld := hHeld2
      clear hHeld2
      try simp only [Act.put, List.setIfInBounds_toArray, List.set_cons_zero, List.set_cons_succ]
      refine wpAnyH_ready (rs := [29]) (by kernel_rfl) (by simp) ?_
      refine AllReadyH.cons rfl (fun K hK => ?_) AllReadyH.nil
      rw [if_pos (by rfl)]
      go_simp
      go_at_call 19
      refine (rackC_any _ lo2 pb2 rq c.St R Ch (ackO o.R ar ar.length) ac o.C HRc.out (by rw [HT.out.nC, ← HT.out.nM, HMl.out]; omega)).mono ?_
      rintro e W4 ⟨rfl, hr2, hon⟩
      rw [show decide (0 ≤ o.C ∧ o.C < (ac.length : Int)) = dc by rw [HDC.out, HT.out.nC, ← HT.out.nM, HMl.out]]
      have fr := Fr.one hon
      have hb2 := fr.below HBc.out (Nat.le_refl _) (by omega)
      have hs2 := HSc.out.fr fr (.inr (by omega))
      clear HBc HSc HRc
      have HBc := Lib.hid hb2
      have HSc := Lib.hid hs2
      have HRc := Lib.hid hr2
      clear hb2 hs2 hr2 fr hon
      have hS := HBc.out
      go_wp2_with fail
      refine hK.out _ _ ?_ (fun hHeld2 => ?_)
      · clear hK; exact hS
      clear hK K hHeld hS
      have hHeld := hHeld2
      clear hHeld2
      try simp only [Act.put, List.setIfInBounds_toArray, List.set_cons_zero, List.set_cons_succ]
      refine takeD 30 (some 70) (v := ?_) rfl rfl (by kernel_rfl) (by kernel_rfl) (by kernel_rfl) (fun _ _ _ h => h) (by rfl) ?_ (by assumption) ?_
      rotate_left
      · intro w hSw
        (try dsimp only at hSw)
        go_simp
        try with_reducible rfl
      try simp only [Act.put, List.setIfInBounds_toArray, List.set_cons_zero, List.set_cons_succ]
      refine takeD 31 (some 71) (v := ?_) rfl rfl (by kernel_rfl) (by kernel_rfl) (by kernel_rfl) (fun _ _ _ h => h) (by rfl) ?_ (by assumption) ?_
      rotate_left
      · intro w hSw
        (try dsimp only at hSw)
        go_simp
        try with_reducible rfl
      try simp only [Act.put, List.setIfInBounds_toArray, List.set_cons_zero, List.set_cons_succ]
      refine wpAnyH_done (by kernel_rfl) ?_ _
      clear hHeld dO0 dO1
      have HT2 := Lib.hid ((HT.out.ackR o.R).ackC o.C)
      have HL2 := Lib.hid (ack_oks o.R HLr.out)
      have HM2 := Lib.hid (ack_oks o.C HMr.out)
      obtain ⟨oc0, oc1, oc2⟩ := HOP.out _ HBc.out
      go_wp2_with fail
      by_cases hcn : o.cs.length = N
      · have HCNE := Lib.hid hcn
        have hcl : o.cs.length ≤ N ∧ N ≤ o.cs.length := by omega
        clear hcn
        have hz1 := HRc.out.head.2
        refine (SS.tick o.A o.cc o.cs HSc.out (by rw [HCNE.out]; exact HL2.out) (by rw [HCNE.out]; exact HM2.out) (HCR.out.below HBc.out) (FrC.of HCR.out (by omega) (Nat.le_of_lt hlo)) (by rw [ackL_len, HMl.out]; exact HCNE.out) HBc.out (by rw [ackL_len, HLl.out]; omega) (by rw [ackL_len, HMl.out]; omega)).mono ?_
        rintro e W5 ⟨va, vb, rfl, ra, rb, hs2, fr⟩
        clear oc0 oc1 oc2
        have hb2 := fr.below HBc.out (Nat.le_refl _) (Nat.le_of_lt hlo)
        have hr2 := HRc.out.fr fr hdis
        clear HBc HSc HRc
        have HBc := Lib.hid hb2
        have HSc := Lib.hid hs2
        have HRc := Lib.hid hr2
        have HRA := Lib.hid ra
        have HRB := Lib.hid rb
        clear hb2 hs2 hr2 fr ra rb
        obtain ⟨oc0, oc1, oc2⟩ := HOP.out _ HBc.out
        go_wp2_with fail
        refine (rtick21_any _ lo2 pb2 rq c.St R Ch _ _ o.A o.cc o.cs HRc.out (HCR.out.below HBc.out) (fun ad e => by have := FrC.of (lo := pb2) (hi := pb2 + 1) HCR.out (by omega) (by omega) ad e; omega) (by rw [HCNE.out, ← HMl.out, HT.out.nM]) HT2.out.nR HT2.out.nA HT2.out.nC (by omega) (by rw [← HT.out.nM, HMl.out]; omega) (HT2.out.okR (by rw [HCNE.out]; exact HL2.out)) hst (HT2.out.bdR HL2.out) (HT2.out.bdC HM2.out)).mono ?_
        rintro e W6 ⟨ua, ub, rfl, ra, rb, hr2, hon⟩
        clear oc0 oc1 oc2
        have fr := Fr.one hon
        have hb2 := fr.below HBc.out (Nat.le_refl _) (by omega)
        have hs2 := HSc.out.fr fr (.inr (by omega))
        have HRA2 := Lib.hid (HRA.out.only hon (by simp; omega))
        have HRB2 := Lib.hid (HRB.out.only hon (by simp; omega))
        clear HBc HSc HRc
        have HBc := Lib.hid hb2
        have HSc := Lib.hid hs2
        have HRc := Lib.hid hr2
        have HUA := Lib.hid ra
        have HUB := Lib.hid rb
        clear hb2 hs2 hr2 fr ra rb hon HRA HRB
        go_wp2_with fail
        refine (same_any _ _ _ _ _ _ _ HRA2.out.1 HUA.out.1).mono ?_
        rintro e W7 ⟨rfl, hk⟩
        rw [decide_eq_true (HT2.out.alR2 o.cs)]
        have hb2 := Btrans HBc.out hk
        have hs2 := HSc.out.below hk
        have hr2 := HRc.out.below hk
        have HRB3 := Lib.hid (HRB2.out.1.below hk)
        have HUB3 := Lib.hid (HUB.out.1.below hk)
        clear HBc HSc HRc
        have HBc := Lib.hid hb2
        have HSc := Lib.hid hs2
        have HRc := Lib.hid hr2
        clear hb2 hs2 hr2 hk HRA2 HUA HRB2 HUB
        go_wp2_with fail
        refine (same_any _ _ _ _ _ _ _ HRB3.out HUB3.out).mono ?_
        rintro e W8 ⟨rfl, hk⟩
        rw [decide_eq_true (HT2.out.alM2 o.cs)]
        have hb2 := Btrans HBc.out hk
        have hs2 := HSc.out.below hk
        have hr2 := HRc.out.below hk
        clear HBc HSc HRc
        have HBc := Lib.hid hb2
        have HSc := Lib.hid hs2
        have HRc := Lib.hid hr2
        clear hb2 hs2 hr2 hk HRB3 HUB3
        go_wp2
        go_roundw
        case rel => exact ⟨j + 1, by omega, by go_num, HBc.out, _, _, _, _, _, _, HSc.out, HRc.out, HT2.out.next o.cs, next_oks _ HL2.out, next_oks _ HM2.out, by rw [List.length_map, ackL_len, HMl.out], by rw [List.length_map, ackL_len, HLl.out]⟩
        case measure => simp [intOf]; omega
      · refine (SS.tick_no o.A o.cc o.cs HSc.out (by rw [ackL_len, HMl.out]; exact hcn)).mono ?_
        rintro e W5 ⟨rfl, hk⟩
        clear oc0 oc1 oc2
        have hb2 := Btrans HBc.out hk
        have hs2 := HSc.out.below hk
        have hr2 := HRc.out.below hk
        clear HBc HSc HRc
        have HBc := Lib.hid hb2
        have HSc := Lib.hid hs2
        have HRc := Lib.hid hr2
        clear hb2 hs2 hr2 hk
        obtain ⟨oc0, oc1, oc2⟩ := HOP.out _ HBc.out
        go_wp2_with fail
        refine (rtick21_no _ lo2 pb2 rq c.St R Ch _ _ o.A o.cc o.cs HRc.out (by rw [← HT.out.nM, HMl.out]; exact hcn)).mono ?_
        rintro e W6 ⟨rfl, rfl⟩
        clear oc0 oc1 oc2
        go_wp2_with fail
        refine (same_any _ _ 0 0 [] [] _ (nil2 _) (nil2 _)).mono ?_
        rintro e W7 ⟨rfl, hk⟩
        rw [decide_eq_true rfl]
        have hb2 := Btrans HBc.out hk
        have hs2 := HSc.out.below hk
        have hr2 := HRc.out.below hk
        clear HBc HSc HRc
        have HBc := Lib.hid hb2
        have HSc := Lib.hid hs2
        have HRc := Lib.hid hr2
        clear hb2 hs2 hr2 hk
        go_wp2_with fail
        refine (same_any _ _ 0 0 [] [] _ (nil2 _) (nil2 _)).mono ?_
        rintro e W8 ⟨rfl, hk⟩
        rw [decide_eq_true rfl]
        have hb2 := Btrans HBc.out hk
        have hs2 := HSc.out.below hk
        have hr2 := HRc.out.below hk
        clear HBc HSc HRc
        have HBc := Lib.hid hb2
        have HSc := Lib.hid hs2
        have HRc := Lib.hid hr2
        clear hb2 hs2 hr2 hk
        go_wp2
        go_roundw
        case rel => exact ⟨j + 1, by omega, by go_num, HBc.out, _, _, _, _, _, _, HSc.out, HRc.out, HT2.out, HL2.out, HM2.out, by rw [ackL_len, HMl.out], by rw [ackL_len, HLl.out]⟩
        case measure => simp [intOf]; omega
    · obtain rfl : j = l.length := by omega
      go_wp2
      go_ret
      exact ⟨by first | rfl | simp, HBc.out⟩
theorem walk_AlarmTells (vc : Value) (z : Cf × List Rl) (vl : Value) (l : List Ol) (w : World) (h0 : ConfV w vc z) (h1 : OpsV w vl l) :
    Calls Try.prog 3 #[vc, vl] w fun e w' => e = .returned (.bool true) ∧ Below w.heap.size w w' := walkH_AlarmTells head_any vc z vl l w h0 h1
end Go.Proofs.Ytcdmojimdiiepaa
