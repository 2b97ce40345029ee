/- Layer 18: channels, by the document. -/
import Derived.Test.YtkipocfdgekkfaaRuleU
import Derived.Test.YtkipocfdgekkfaaRuleF
import Derived.Test.YtkipocfdgekkfaaRuleT
import Derived.Test.YtkipocfdgekkfaaKthreeN
import Derived.StillTailTactics
namespace Go.Proofs.Ytkipocfdgekkfaa
open Go.ChangeShapes Go.WideShapes Go.ChangeAt Go.RowKit
set_option linter.unusedVariables false
set_option linter.unusedSimpArgs false

theorem insU_at (x : Int) : ∀ (o : List Int) (k : Nat), k ≤ o.length → (∀ y ∈ o.take k, y < x) → (∀ y, o[k]? = some y → ¬ y < x) → insU o x = if o[k]? = some x then o else o.take k ++ [x] ++ o.drop k
  | [], k, _, _, _ => by simp [insU]
  | y :: o, 0, _, _, h => by
    have hy := h y rfl
    unfold insU
    by_cases h1 : x < y
    · rw [if_pos h1, if_neg (by simp; omega)]; rfl
    · rw [if_neg h1]
      by_cases h2 : x = y
      · rw [if_pos h2, if_pos (by simp [h2])]
      · exact absurd (show y < x by omega) hy
  | y :: o, k + 1, hk, ht, h => by
    have hy : y < x := ht y (by simp)
    have ih := insU_at x o k (by simpa using hk) (fun z hz => ht z (by simp [hz])) (fun z hz => h z (by simpa using hz))
    unfold insU
    rw [if_neg (by omega), if_neg (by omega), ih]
    simp only [List.getElem?_cons_succ]
    split
    · rfl
    · simp
theorem row3_c {w : World} {ad : Addr} {c m : Nat} {ks : List Cl} {a : Cl} (h : RowN 3 w (.slice (some ad) ks.length c) ks.length (c3c ks)) (hm : ks[m]? = some a) :
    w.cell? (ad.add (m * 3)) = some (.int .i64 a.1) ∧ w.cell? ⟨(ad.add (m * 3)).block, (ad.add (m * 3)).off + 1, none⟩ = some (.int .i64 a.2.1) ∧ w.cell? ⟨(ad.add (m * 3)).block, (ad.add (m * 3)).off + 2, none⟩ = some (.int .i64 a.2.2) := by
  obtain ⟨ad', e, _, h⟩ := row3_at h hm
  injection e with e
  subst e
  exact h
theorem row_c {w : World} {od : Addr} {n c k : Nat} {xs : List Int} {x : Int} (h : Row w (.slice (some od) n c) (xs.map (.int .i64))) (hx : xs[k]? = some x) : w.cell? (od.add k) = some (.int .i64 x) := by
  obtain ⟨A, c', e, _, _, hA⟩ := h
  injection e with e1 _ _
  rcases hA with ⟨rfl, _⟩ | ⟨ad, rfl, _, hc⟩
  · cases e1
  · injection e1 with e1
    subst e1
    exact hc k _ (by rw [List.getElem?_map, hx]; rfl)
theorem row_pre {w : World} {A : Option Addr} {n c k : Nat} {xs : List Int} (h : Row w (.slice A n c) (xs.map (.int .i64))) (hk : k ≤ xs.length) : Row w (.slice A k c) ((xs.take k).map (.int .i64)) := by
  obtain ⟨A', c', e, h1, h2, hA⟩ := h
  injection e with e1 e2 e3
  subst e1 e3
  rw [List.length_map] at h1 hA
  have hl : ((xs.take k).map (Value.int .i64)).length = k := by simp; omega
  refine ⟨A, c, by rw [hl], by rw [hl]; omega, h2, ?_⟩
  rcases hA with h | ⟨ad, rfl, hb, hc⟩
  · exact .inl h
  · refine .inr ⟨ad, rfl, fun hp => hb (by rw [hl] at hp; omega), fun i x hx => hc i x ?_⟩
    rw [List.map_take, List.getElem?_take] at hx
    split at hx
    · exact hx
    · cases hx
theorem row_suf {w : World} {od : Addr} {n c k : Nat} {xs : List Int} (h : Row w (.slice (some od) n c) (xs.map (.int .i64))) (hk : k ≤ xs.length) : Row w (.slice (if c = k then some od else some (od.add k)) (n - k) (c - k)) ((xs.drop k).map (.int .i64)) := by
  obtain ⟨A', c', e, h1, h2, hA⟩ := h
  injection e with e1 e2 e3
  subst e1 e3
  rw [List.length_map] at h1 e2
  subst e2
  have hl : ((xs.drop k).map (Value.int .i64)).length = xs.length - k := by simp
  by_cases hck : c = k
  · rw [if_pos hck]
    have hz : (xs.drop k).map (Value.int .i64) = [] := by
      apply List.eq_nil_of_length_eq_zero
      omega
    rw [hz]
    refine ⟨_, _, by rw [show xs.length - k = 0 by omega]; rfl, by simp, by omega, .inr ⟨od, rfl, fun hp => by simp at hp, fun i x hx => by simp at hx⟩⟩
  rw [if_neg hck]
  refine ⟨_, _, by rw [hl], by rw [hl]; omega, by omega, ?_⟩
  rcases hA with ⟨h, _⟩ | ⟨ad, h, hb, hc⟩
  · cases h
  · injection h with h
    subst h
    refine .inr ⟨_, rfl, fun hp => ?_, fun i x hx => ?_⟩
    · rw [block_add]; exact hb (by rw [hl] at hp; rw [List.length_map]; omega)
    · rw [Go.Deep.add_add]
      refine hc (k + i) x ?_
      rw [List.map_drop, List.getElem?_drop] at hx
      exact hx
theorem row_sufN {w : World} {n c k : Nat} {xs : List Int} (h : Row w (.slice none n c) (xs.map (.int .i64))) (hk : k ≤ xs.length) : Row w (.slice none (n - k) (c - k)) ((xs.drop k).map (.int .i64)) := by
  obtain ⟨A', c', e, h1, h2, hA⟩ := h
  injection e with e1 e2 e3
  subst e1 e3
  rw [List.length_map] at h1 e2
  subst e2
  rcases hA with ⟨_, h0⟩ | ⟨ad, h, _⟩
  · subst h0
    have hz : xs = [] := List.eq_nil_of_length_eq_zero (by omega)
    subst hz
    simp
    exact Row.nil_
  · cases h
theorem row_len {w : World} {A : Option Addr} {n c : Nat} {xs : List Int} (h : Row w (.slice A n c) (xs.map (.int .i64))) : n = xs.length ∧ n ≤ c ∧ c ≤ maxLen := by
  obtain ⟨A', c', e, h1, h2, hA⟩ := h
  injection e with e1 e2 e3
  rw [List.length_map] at h1 e2
  omega
theorem chO_next {l : List T} {t : T} {j : Nat} (ht : l[j]? = some t) : chO (l.take (j + 1)) = if isLim t then insU (chO (l.take j)) t.2.1 else chO (l.take j) := by
  rw [List.take_add_one, ht]
  exact chO_snoc _ t
theorem own_of_row {w : World} {A : Option Addr} {c n base : Nat} {xs : List Int} (h : w.ownsRow base 3 1 (.slice A n c) n (xs.map (.int .i64))) : Row w (.slice A n c) (xs.map (.int .i64)) := Row.of_own h
set_option maxRecDepth 100000 in
set_option maxHeartbeats 32000000 in
theorem rchannels_any (v : Value) (hold : Int) (latch : Bool) (l : List T) (w : World) (h : IsRule w v hold latch l) (hl : l.length ≤ 100) :
    Calls Try.prog 14 #[v] w fun e w' => ∃ A c, e = .returned (.slice A (chO l).length c) ∧ Row w' (.slice A (chO l).length c) ((chO l).map (.int .i64)) ∧ Below w.heap.size w w' := by
  obtain ⟨RA, rc, rfl, hrow⟩ := h.ex
  have HROW0 := Lib.hid hrow
  clear h hrow
  go_enter Try.func14, Try.ntmps14
  go_wp2_with fail
  refine wp_world (fun W => Below w.heap.size w W ∧ Blk W w.heap.size 24 #[.slice RA l.length rc, .int .i64 hold, .bool latch]) ⟨by go_grown, Blk.new _ _ _ _ rfl⟩ fun W ⟨hbW, hBW⟩ => ?_
  have HBW0 := Lib.hid hBW
  have HW := Lib.hid hbW
  have HROWW := Lib.hid (HROW0.out.below hbW)
  clear hbW hBW HROW0
  go_loopw [3, 4, 5] (fun out i at_ wr => ∃ j : Nat, j ≤ l.length ∧ i = .int .i64 j ∧ Below W.heap.size W wr ∧ ∃ A c, out = .slice A (chO (l.take j)).length c ∧ Row wr (.slice A (chO (l.take j)).length c) ((chO (l.take j)).map (.int .i64))) (fun _ i _ _ => l.length - (intOf i).toNat)
  case atStart => exact ⟨0, by omega, rfl, Below.refl _ _, none, 0, rfl, Row.nil_⟩
  case round =>
    obtain ⟨j, hj, rfl, hbj, OA, oc, rfl, hro⟩ := hrel
    by_cases hlt : j < l.length
    · obtain ⟨t, ht⟩ : ∃ t, l[j]? = some t := ⟨_, List.getElem?_eq_getElem hlt⟩
      obtain ⟨ad, rfl, had, _, _, _⟩ := row3_at HROWW.out ht
      have HROW := Lib.hid HROWW.out
      have HBW := Lib.hid HBW0.out
      have HT := Lib.hid ht
      have HNX := Lib.hid (chO_next ht)
      obtain ⟨e0, e1, e2⟩ := row3_c (HROW.out.below hbj) ht
      have cB := (HBW.out.below hbj).cells
      have lB := (HBW.out.below hbj).lt
      have hjl : (j : Int) < (l.length : Int) := by omega
      have hol := chO_len (l.take j)
      rw [List.length_take] at hol
      obtain ⟨o, ho⟩ : ∃ o, o = chO (l.take j) := ⟨_, rfl⟩
      rw [← ho] at hro HNX hol ⊢
      have HRU := Lib.hid hro
      have HBU := Lib.hid hbj
      clear ht had hro hbj ho
      go_wp2_with fail
      refine (rlimit_any t _).mono ?_
      rintro e U1 ⟨rfl, hk⟩
      have hb1 := Btrans HBU.out hk
      have hr1 := HRU.out.below hk
      clear HBU HRU e0 e1 e2 cB lB hk
      have HBU := Lib.hid hb1
      have HRU := Lib.hid hr1
      clear hb1 hr1
      have cB := (HBW.out.below HBU.out).cells
      have lB := (HBW.out.below HBU.out).lt
      cases hlm : isLim t with
      | false =>
        rw [hlm, if_neg (by decide)] at HNX
        clear hlm
        have HRF := Lib.hid (show ∃ A c, Value.slice OA o.length oc = .slice A (chO (l.take (j + 1))).length c ∧ Row U1 (.slice A (chO (l.take (j + 1))).length c) ((chO (l.take (j + 1))).map (.int .i64)) from by rw [HNX.out]; exact ⟨_, _, rfl, HRU.out⟩)
        go_wp2
        go_roundw
        case rel => exact ⟨j + 1, by omega, by go_num, HBU.out, HRF.out⟩
        case measure => simp [intOf]; omega
      | true =>
        rw [hlm, if_pos rfl] at HNX
        clear hlm
        go_wp2_with fail
        go_loopw [5] (fun a wr => ∃ k : Nat, k ≤ o.length ∧ a = .int .i64 k ∧ Below W.heap.size W wr ∧ Row wr (.slice OA o.length oc) (o.map (.int .i64)) ∧ ∀ y ∈ o.take k, y < t.2.1) (fun a _ => o.length - (intOf a).toNat)
        case atStart => exact ⟨0, by omega, rfl, HBU.out, HRU.out, by simp⟩
        case round =>
          clear HBU HRU cB lB
          obtain ⟨k, hkn, rfl, hbk, hrk, hlk⟩ := hrel
          obtain ⟨_, hocp, hocm⟩ := row_len hrk
          have HLK := Lib.hid hlk
          refine wp_world (fun W' => Below W.heap.size W W' ∧ Row W' (.slice OA o.length oc) (o.map (.int .i64))) ⟨hbk, hrk⟩ fun U7 ⟨hb7, hr7⟩ => ?_
          have HBU := Lib.hid hb7
          have HRU := Lib.hid hr7
          clear hbk hrk hlk
          by_cases hk : k < o.length
          · obtain ⟨y, hy⟩ : ∃ y, o[k]? = some y := ⟨_, List.getElem?_eq_getElem hk⟩
            obtain ⟨od, rfl⟩ : ∃ od, OA = some od := by
              obtain ⟨A', c', e, _, _, hA⟩ := hr7
              injection e with e1 _ e3
              rcases hA with ⟨_, h0⟩ | ⟨od, h1, _⟩
              · omega
              · exact ⟨od, e1.trans h1⟩
            have HY := Lib.hid hy
            have qk : decide ((k : Int) < (o.length : Int)) = true := decide_eq_true (by omega)
            have qk3 : decide (k < o.length) = true := decide_eq_true (by omega)
            have qk4 : (k : Int) < (o.length : Int) := by omega
            by_cases hyl : y < t.2.1
            · have ql : decide (y < t.2.1) = true := decide_eq_true hyl
              have HLT2 := Lib.hid (show ∀ z ∈ o.take (k + 1), z < t.2.1 by
                intro z hz
                rw [List.take_add_one, hy] at hz
                rcases List.mem_append.1 hz with hz | hz
                · exact HLK.out z hz
                · simp at hz; subst hz; exact hyl)
              clear hy hyl hb7 hr7
              go_wp2_with fail
              have dB : ∀ w', Below U7.heap.size U7 w' → ∀ i, w'.cell? ⟨w.heap.size, i, none⟩ = (#[.slice (some ad) l.length rc, .int .i64 hold, .bool latch] : Array Value)[i]? := fun w' hb => (HBW.out.below (Btrans HBU.out hb)).cells
              have dT : ∀ w', Below U7.heap.size U7 w' → w'.cell? ⟨(ad.add (j * 3)).block, (ad.add (j * 3)).off + 1, none⟩ = some (.int .i64 t.2.1) := fun w' hb => (row3_c (HROW.out.below (Btrans HBU.out hb)) HT.out).2.1
              have dO : ∀ w', Below U7.heap.size U7 w' → w'.cell? (od.add k) = some (.int .i64 y) := fun w' hb => row_c (HRU.out.below hb) HY.out
              refine wp_region_held_drew (S := fun w' => Below U7.heap.size U7 w') (by kernel_rfl) ((Below.refl _ _).drew) (fun hHeld => ?_)
              refine takeD 0 (some 20) (v := ?_) rfl rfl (by kernel_rfl) (by kernel_rfl) (by kernel_rfl) (fun _ _ _ h => h) (by rfl) ?_ (by assumption) ?_
              rotate_left
              · intro w hSw
                (try dsimp only at hSw)
                go_simp
                try with_reducible rfl
              try simp only [Act.put, List.setIfInBounds_toArray, List.set_cons_zero, List.set_cons_succ]
              refine takeD 1 (some 21) (v := ?_) rfl rfl (by kernel_rfl) (by kernel_rfl) (by kernel_rfl) (fun _ _ _ h => h) (by rfl) ?_ (by assumption) ?_
              rotate_left
              · intro w hSw
                (try dsimp only at hSw)
                go_simp
                try with_reducible rfl
              try simp only [Act.put, List.setIfInBounds_toArray, List.set_cons_zero, List.set_cons_succ]
              refine takeD 2 (some 22) (v := ?_) rfl rfl (by kernel_rfl) (by kernel_rfl) (by kernel_rfl) (fun _ _ _ h => h) (by rfl) ?_ (by assumption) ?_
              rotate_left
              · intro w hSw
                (try dsimp only at hSw)
                go_simp
                try with_reducible rfl
              try simp only [Act.put, List.setIfInBounds_toArray, List.set_cons_zero, List.set_cons_succ]
              refine takeD 3 (some 23) (v := ?_) rfl rfl (by kernel_rfl) (by kernel_rfl) (by kernel_rfl) (fun _ _ _ h => h) (by rfl) ?_ (by assumption) ?_
              rotate_left
              · intro w hSw
                (try dsimp only at hSw)
                go_simp
                try with_reducible rfl
              try simp only [Act.put, List.setIfInBounds_toArray, List.set_cons_zero, List.set_cons_succ]
              refine takeD 4 (some 24) (v := ?_) rfl rfl (by kernel_rfl) (by kernel_rfl) (by kernel_rfl) (fun _ _ _ h => h) (by rfl) ?_ (by assumption) ?_
              rotate_left
              · intro w hSw
                (try dsimp only at hSw)
                go_simp
                try with_reducible rfl
              try simp only [Act.put, List.setIfInBounds_toArray, List.set_cons_zero, List.set_cons_succ]
              refine takeD 5 (some 25) (v := ?_) rfl rfl (by kernel_rfl) (by kernel_rfl) (by kernel_rfl) (fun _ _ _ h => h) (by rfl) ?_ (by assumption) ?_
              rotate_left
              · intro w hSw
                (try dsimp only at hSw)
                go_simp
                try with_reducible rfl
              try simp only [Act.put, List.setIfInBounds_toArray, List.set_cons_zero, List.set_cons_succ]
              refine takeD 6 (some 26) (v := ?_) rfl rfl (by kernel_rfl) (by kernel_rfl) (by kernel_rfl) (fun _ _ _ h => h) (by rfl) ?_ (by assumption) ?_
              rotate_left
              · intro w hSw
                (try dsimp only at hSw)
                go_simp
                try with_reducible rfl
              try simp only [Act.put, List.setIfInBounds_toArray, List.set_cons_zero, List.set_cons_succ]
              refine takeD 7 (some 27) (v := ?_) rfl rfl (by kernel_rfl) (by kernel_rfl) (by kernel_rfl) (fun _ _ _ h => h) (by rfl) ?_ (by assumption) ?_
              rotate_left
              · intro w hSw
                (try dsimp only at hSw)
                go_simp
                try with_reducible rfl
              try simp only [Act.put, List.setIfInBounds_toArray, List.set_cons_zero, List.set_cons_succ]
              refine takeD 8 (some 28) (v := ?_) rfl rfl (by kernel_rfl) (by kernel_rfl) (by kernel_rfl) (fun _ _ _ h => h) (by rfl) ?_ (by assumption) ?_
              rotate_left
              · intro w hSw
                (try dsimp only at hSw)
                go_simp
                try with_reducible rfl
              try simp only [Act.put, List.setIfInBounds_toArray, List.set_cons_zero, List.set_cons_succ]
              refine takeD 9 (some 29) (v := ?_) rfl rfl (by kernel_rfl) (by kernel_rfl) (by kernel_rfl) (fun _ _ _ h => h) (by rfl) ?_ (by assumption) ?_
              rotate_left
              · intro w hSw
                (try dsimp only at hSw)
                go_simp
                try with_reducible rfl
              try simp only [Act.put, List.setIfInBounds_toArray, List.set_cons_zero, List.set_cons_succ]
              refine takeD 10 (some 30) (v := ?_) rfl rfl (by kernel_rfl) (by kernel_rfl) (by kernel_rfl) (fun _ _ _ h => h) (by rfl) ?_ (by assumption) ?_
              rotate_left
              · intro w hSw
                (try dsimp only at hSw)
                go_simp
                try with_reducible rfl
              try simp only [Act.put, List.setIfInBounds_toArray, List.set_cons_zero, List.set_cons_succ]
              refine takeD 11 (some 31) (v := ?_) rfl rfl (by kernel_rfl) (by kernel_rfl) (by kernel_rfl) (fun _ _ _ h => h) (by rfl) ?_ (by assumption) ?_
              rotate_left
              · intro w hSw
                (try dsimp only at hSw)
                go_simp
                try with_reducible rfl
              try simp only [Act.put, List.setIfInBounds_toArray, List.set_cons_zero, List.set_cons_succ]
              refine takeD 12 (some 32) (v := ?_) rfl rfl (by kernel_rfl) (by kernel_rfl) (by kernel_rfl) (fun _ _ _ h => h) (by rfl) ?_ (by assumption) ?_
              rotate_left
              · intro w hSw
                (try dsimp only at hSw)
                go_simp
                try with_reducible rfl
              try simp only [Act.put, List.setIfInBounds_toArray, List.set_cons_zero, List.set_cons_succ]
              refine takeD 13 (some 33) (v := ?_) rfl rfl (by kernel_rfl) (by kernel_rfl) (by kernel_rfl) (fun _ _ _ h => h) (by rfl) ?_ (by assumption) ?_
              rotate_left
              · intro w hSw
                (try dsimp only at hSw)
                go_simp
                try with_reducible rfl
              try simp only [Act.put, List.setIfInBounds_toArray, List.set_cons_zero, List.set_cons_succ]
              refine takeD 14 (some 34) (v := ?_) rfl rfl (by kernel_rfl) (by kernel_rfl) (by kernel_rfl) (fun _ _ _ h => h) (by rfl) ?_ (by assumption) ?_
              rotate_left
              · intro w hSw
                (try dsimp only at hSw)
                go_simp
                try with_reducible rfl
              try simp only [Act.put, List.setIfInBounds_toArray, List.set_cons_zero, List.set_cons_succ]
              refine takeD 15 (some 35) (v := ?_) rfl rfl (by kernel_rfl) (by kernel_rfl) (by kernel_rfl) (fun _ _ _ h => h) (by rfl) ?_ (by assumption) ?_
              rotate_left
              · intro w hSw
                (try dsimp only at hSw)
                go_simp
                try with_reducible rfl
              try simp only [Act.put, List.setIfInBounds_toArray, List.set_cons_zero, List.set_cons_succ]
              refine takeD 16 (some 36) (v := ?_) rfl rfl (by kernel_rfl) (by kernel_rfl) (by kernel_rfl) (fun _ _ _ h => h) (by rfl) ?_ (by assumption) ?_
              rotate_left
              · intro w hSw
                (try dsimp only at hSw)
                go_simp
                try with_reducible rfl
              try simp only [Act.put, List.setIfInBounds_toArray, List.set_cons_zero, List.set_cons_succ]
              refine wpAnyH_done (by kernel_rfl) ?_ _
              refine nmW (fun V => Below W.heap.size W V ∧ Row V (.slice (some od) o.length oc) (o.map (.int .i64))) ⟨HBU.out.drew, HRU.out.below ((Below.refl _ _).drew)⟩ fun U8 ⟨hbV, hrV⟩ => ?_
              clear HBU HRU
              have HBU := Lib.hid hbV
              have HRU := Lib.hid hrV
              clear hbV hrV hHeld
              clear dB dT dO
              go_wp2
              go_roundw
              case rel => exact ⟨k + 1, by omega, by go_num, HBU.out, HRU.out, HLT2.out⟩
              case measure => simp [intOf]; omega
            · have ql : decide (y < t.2.1) = false := decide_eq_false hyl
              have HST := Lib.hid (HNX.out.trans (insU_at t.2.1 o k (by omega) HLK.out (fun z hz => by rw [hy] at hz; injection hz with hz; subst hz; exact hyl)))
              clear hy hyl hb7 hr7
              go_wp2_with fail
              have dB : ∀ w', Below U7.heap.size U7 w' → ∀ i, w'.cell? ⟨w.heap.size, i, none⟩ = (#[.slice (some ad) l.length rc, .int .i64 hold, .bool latch] : Array Value)[i]? := fun w' hb => (HBW.out.below (Btrans HBU.out hb)).cells
              have dT : ∀ w', Below U7.heap.size U7 w' → w'.cell? ⟨(ad.add (j * 3)).block, (ad.add (j * 3)).off + 1, none⟩ = some (.int .i64 t.2.1) := fun w' hb => (row3_c (HROW.out.below (Btrans HBU.out hb)) HT.out).2.1
              have dO : ∀ w', Below U7.heap.size U7 w' → w'.cell? (od.add k) = some (.int .i64 y) := fun w' hb => row_c (HRU.out.below hb) HY.out
              refine wp_region_held_drew (S := fun w' => Below U7.heap.size U7 w') (by kernel_rfl) ((Below.refl _ _).drew) (fun hHeld => ?_)
              refine takeD 0 (some 20) (v := ?_) rfl rfl (by kernel_rfl) (by kernel_rfl) (by kernel_rfl) (fun _ _ _ h => h) (by rfl) ?_ (by assumption) ?_
              rotate_left
              · intro w hSw
                (try dsimp only at hSw)
                go_simp
                try with_reducible rfl
              try simp only [Act.put, List.setIfInBounds_toArray, List.set_cons_zero, List.set_cons_succ]
              refine takeD 1 (some 21) (v := ?_) rfl rfl (by kernel_rfl) (by kernel_rfl) (by kernel_rfl) (fun _ _ _ h => h) (by rfl) ?_ (by assumption) ?_
              rotate_left
              · intro w hSw
                (try dsimp only at hSw)
                go_simp
                try with_reducible rfl
              try simp only [Act.put, List.setIfInBounds_toArray, List.set_cons_zero, List.set_cons_succ]
              refine takeD 2 (some 22) (v := ?_) rfl rfl (by kernel_rfl) (by kernel_rfl) (by kernel_rfl) (fun _ _ _ h => h) (by rfl) ?_ (by assumption) ?_
              rotate_left
              · intro w hSw
                (try dsimp only at hSw)
                go_simp
                try with_reducible rfl
              try simp only [Act.put, List.setIfInBounds_toArray, List.set_cons_zero, List.set_cons_succ]
              refine takeD 3 (some 23) (v := ?_) rfl rfl (by kernel_rfl) (by kernel_rfl) (by kernel_rfl) (fun _ _ _ h => h) (by rfl) ?_ (by assumption) ?_
              rotate_left
              · intro w hSw
                (try dsimp only at hSw)
                go_simp
                try with_reducible rfl
              try simp only [Act.put, List.setIfInBounds_toArray, List.set_cons_zero, List.set_cons_succ]
              refine takeD 4 (some 24) (v := ?_) rfl rfl (by kernel_rfl) (by kernel_rfl) (by kernel_rfl) (fun _ _ _ h => h) (by rfl) ?_ (by assumption) ?_
              rotate_left
              · intro w hSw
                (try dsimp only at hSw)
                go_simp
                try with_reducible rfl
              try simp only [Act.put, List.setIfInBounds_toArray, List.set_cons_zero, List.set_cons_succ]
              refine takeD 5 (some 25) (v := ?_) rfl rfl (by kernel_rfl) (by kernel_rfl) (by kernel_rfl) (fun _ _ _ h => h) (by rfl) ?_ (by assumption) ?_
              rotate_left
              · intro w hSw
                (try dsimp only at hSw)
                go_simp
                try with_reducible rfl
              try simp only [Act.put, List.setIfInBounds_toArray, List.set_cons_zero, List.set_cons_succ]
              refine takeD 6 (some 26) (v := ?_) rfl rfl (by kernel_rfl) (by kernel_rfl) (by kernel_rfl) (fun _ _ _ h => h) (by rfl) ?_ (by assumption) ?_
              rotate_left
              · intro w hSw
                (try dsimp only at hSw)
                go_simp
                try with_reducible rfl
              try simp only [Act.put, List.setIfInBounds_toArray, List.set_cons_zero, List.set_cons_succ]
              refine takeD 7 (some 27) (v := ?_) rfl rfl (by kernel_rfl) (by kernel_rfl) (by kernel_rfl) (fun _ _ _ h => h) (by rfl) ?_ (by assumption) ?_
              rotate_left
              · intro w hSw
                (try dsimp only at hSw)
                go_simp
                try with_reducible rfl
              try simp only [Act.put, List.setIfInBounds_toArray, List.set_cons_zero, List.set_cons_succ]
              refine takeD 8 (some 28) (v := ?_) rfl rfl (by kernel_rfl) (by kernel_rfl) (by kernel_rfl) (fun _ _ _ h => h) (by rfl) ?_ (by assumption) ?_
              rotate_left
              · intro w hSw
                (try dsimp only at hSw)
                go_simp
                try with_reducible rfl
              try simp only [Act.put, List.setIfInBounds_toArray, List.set_cons_zero, List.set_cons_succ]
              refine takeD 9 (some 29) (v := ?_) rfl rfl (by kernel_rfl) (by kernel_rfl) (by kernel_rfl) (fun _ _ _ h => h) (by rfl) ?_ (by assumption) ?_
              rotate_left
              · intro w hSw
                (try dsimp only at hSw)
                go_simp
                try with_reducible rfl
              try simp only [Act.put, List.setIfInBounds_toArray, List.set_cons_zero, List.set_cons_succ]
              refine takeD 10 (some 30) (v := ?_) rfl rfl (by kernel_rfl) (by kernel_rfl) (by kernel_rfl) (fun _ _ _ h => h) (by rfl) ?_ (by assumption) ?_
              rotate_left
              · intro w hSw
                (try dsimp only at hSw)
                go_simp
                try with_reducible rfl
              try simp only [Act.put, List.setIfInBounds_toArray, List.set_cons_zero, List.set_cons_succ]
              refine takeD 11 (some 31) (v := ?_) rfl rfl (by kernel_rfl) (by kernel_rfl) (by kernel_rfl) (fun _ _ _ h => h) (by rfl) ?_ (by assumption) ?_
              rotate_left
              · intro w hSw
                (try dsimp only at hSw)
                go_simp
                try with_reducible rfl
              try simp only [Act.put, List.setIfInBounds_toArray, List.set_cons_zero, List.set_cons_succ]
              refine takeD 12 (some 32) (v := ?_) rfl rfl (by kernel_rfl) (by kernel_rfl) (by kernel_rfl) (fun _ _ _ h => h) (by rfl) ?_ (by assumption) ?_
              rotate_left
              · intro w hSw
                (try dsimp only at hSw)
                go_simp
                try with_reducible rfl
              try simp only [Act.put, List.setIfInBounds_toArray, List.set_cons_zero, List.set_cons_succ]
              refine takeD 13 (some 33) (v := ?_) rfl rfl (by kernel_rfl) (by kernel_rfl) (by kernel_rfl) (fun _ _ _ h => h) (by rfl) ?_ (by assumption) ?_
              rotate_left
              · intro w hSw
                (try dsimp only at hSw)
                go_simp
                try with_reducible rfl
              try simp only [Act.put, List.setIfInBounds_toArray, List.set_cons_zero, List.set_cons_succ]
              refine takeD 14 (some 34) (v := ?_) rfl rfl (by kernel_rfl) (by kernel_rfl) (by kernel_rfl) (fun _ _ _ h => h) (by rfl) ?_ (by assumption) ?_
              rotate_left
              · intro w hSw
                (try dsimp only at hSw)
                go_simp
                try with_reducible rfl
              try simp only [Act.put, List.setIfInBounds_toArray, List.set_cons_zero, List.set_cons_succ]
              refine takeD 15 (some 35) (v := ?_) rfl rfl (by kernel_rfl) (by kernel_rfl) (by kernel_rfl) (fun _ _ _ h => h) (by rfl) ?_ (by assumption) ?_
              rotate_left
              · intro w hSw
                (try dsimp only at hSw)
                go_simp
                try with_reducible rfl
              try simp only [Act.put, List.setIfInBounds_toArray, List.set_cons_zero, List.set_cons_succ]
              refine takeD 16 (some 36) (v := ?_) rfl rfl (by kernel_rfl) (by kernel_rfl) (by kernel_rfl) (fun _ _ _ h => h) (by rfl) ?_ (by assumption) ?_
              rotate_left
              · intro w hSw
                (try dsimp only at hSw)
                go_simp
                try with_reducible rfl
              try simp only [Act.put, List.setIfInBounds_toArray, List.set_cons_zero, List.set_cons_succ]
              refine wpAnyH_done (by kernel_rfl) ?_ _
              refine nmW (fun V => Below W.heap.size W V ∧ Row V (.slice (some od) o.length oc) (o.map (.int .i64))) ⟨HBU.out.drew, HRU.out.below ((Below.refl _ _).drew)⟩ fun U8 ⟨hbV, hrV⟩ => ?_
              clear HBU HRU
              have HBU := Lib.hid hbV
              have HRU := Lib.hid hrV
              clear hbV hrV hHeld
              clear dB dT dO
              go_wp2_with fail
              have qe : ((k : Int) == (o.length : Int)) = false := beq_false_of_ne (by omega)
              have qe3 : (k == o.length) = false := beq_false_of_ne (by omega)
              by_cases hyx : y = t.2.1
              · have qy : (y == t.2.1) = true := by rw [beq_iff_eq]; exact hyx
                have HINS := Lib.hid (HST.out.trans (if_pos (by rw [HY.out, hyx])))
                clear hyx
                have dB : ∀ w', Below U8.heap.size U8 w' → ∀ i, w'.cell? ⟨w.heap.size, i, none⟩ = (#[.slice (some ad) l.length rc, .int .i64 hold, .bool latch] : Array Value)[i]? := fun w' hb => (HBW.out.below (Btrans HBU.out hb)).cells
                have dT : ∀ w', Below U8.heap.size U8 w' → w'.cell? ⟨(ad.add (j * 3)).block, (ad.add (j * 3)).off + 1, none⟩ = some (.int .i64 t.2.1) := fun w' hb => (row3_c (HROW.out.below (Btrans HBU.out hb)) HT.out).2.1
                have dO : ∀ w', Below U8.heap.size U8 w' → w'.cell? (od.add k) = some (.int .i64 y) := fun w' hb => row_c (HRU.out.below hb) HY.out
                refine wp_region_held_drew (S := fun w' => Below U8.heap.size U8 w') (by kernel_rfl) ((Below.refl _ _).drew) (fun hHeld => ?_)
                refine takeD 0 (some 39) (v := ?_) rfl rfl (by kernel_rfl) (by kernel_rfl) (by kernel_rfl) (fun _ _ _ h => h) (by rfl) ?_ (by assumption) ?_
                rotate_left
                · intro w hSw
                  (try dsimp only at hSw)
                  go_simp
                  try with_reducible rfl
                try simp only [Act.put, List.setIfInBounds_toArray, List.set_cons_zero, List.set_cons_succ]
                refine takeD 1 (some 40) (v := ?_) rfl rfl (by kernel_rfl) (by kernel_rfl) (by kernel_rfl) (fun _ _ _ h => h) (by rfl) ?_ (by assumption) ?_
                rotate_left
                · intro w hSw
                  (try dsimp only at hSw)
                  go_simp
                  try with_reducible rfl
                try simp only [Act.put, List.setIfInBounds_toArray, List.set_cons_zero, List.set_cons_succ]
                refine takeD 2 (some 41) (v := ?_) rfl rfl (by kernel_rfl) (by kernel_rfl) (by kernel_rfl) (fun _ _ _ h => h) (by rfl) ?_ (by assumption) ?_
                rotate_left
                · intro w hSw
                  (try dsimp only at hSw)
                  go_simp
                  try with_reducible rfl
                try simp only [Act.put, List.setIfInBounds_toArray, List.set_cons_zero, List.set_cons_succ]
                refine takeD 3 (some 42) (v := ?_) rfl rfl (by kernel_rfl) (by kernel_rfl) (by kernel_rfl) (fun _ _ _ h => h) (by rfl) ?_ (by assumption) ?_
                rotate_left
                · intro w hSw
                  (try dsimp only at hSw)
                  go_simp
                  try with_reducible rfl
                try simp only [Act.put, List.setIfInBounds_toArray, List.set_cons_zero, List.set_cons_succ]
                refine takeD 4 (some 43) (v := ?_) rfl rfl (by kernel_rfl) (by kernel_rfl) (by kernel_rfl) (fun _ _ _ h => h) (by rfl) ?_ (by assumption) ?_
                rotate_left
                · intro w hSw
                  (try dsimp only at hSw)
                  go_simp
                  try with_reducible rfl
                try simp only [Act.put, List.setIfInBounds_toArray, List.set_cons_zero, List.set_cons_succ]
                refine takeD 5 (some 44) (v := ?_) rfl rfl (by kernel_rfl) (by kernel_rfl) (by kernel_rfl) (fun _ _ _ h => h) (by rfl) ?_ (by assumption) ?_
                rotate_left
                · intro w hSw
                  (try dsimp only at hSw)
                  go_simp
                  try with_reducible rfl
                try simp only [Act.put, List.setIfInBounds_toArray, List.set_cons_zero, List.set_cons_succ]
                refine takeD 6 (some 45) (v := ?_) rfl rfl (by kernel_rfl) (by kernel_rfl) (by kernel_rfl) (fun _ _ _ h => h) (by rfl) ?_ (by assumption) ?_
                rotate_left
                · intro w hSw
                  (try dsimp only at hSw)
                  go_simp
                  try with_reducible rfl
                try simp only [Act.put, List.setIfInBounds_toArray, List.set_cons_zero, List.set_cons_succ]
                refine takeD 7 (some 46) (v := ?_) rfl rfl (by kernel_rfl) (by kernel_rfl) (by kernel_rfl) (fun _ _ _ h => h) (by rfl) ?_ (by assumption) ?_
                rotate_left
                · intro w hSw
                  (try dsimp only at hSw)
                  go_simp
                  try with_reducible rfl
                try simp only [Act.put, List.setIfInBounds_toArray, List.set_cons_zero, List.set_cons_succ]
                refine takeD 8 (some 47) (v := ?_) rfl rfl (by kernel_rfl) (by kernel_rfl) (by kernel_rfl) (fun _ _ _ h => h) (by rfl) ?_ (by assumption) ?_
                rotate_left
                · intro w hSw
                  (try dsimp only at hSw)
                  go_simp
                  try with_reducible rfl
                try simp only [Act.put, List.setIfInBounds_toArray, List.set_cons_zero, List.set_cons_succ]
                refine takeD 9 (some 48) (v := ?_) rfl rfl (by kernel_rfl) (by kernel_rfl) (by kernel_rfl) (fun _ _ _ h => h) (by rfl) ?_ (by assumption) ?_
                rotate_left
                · intro w hSw
                  (try dsimp only at hSw)
                  go_simp
                  try with_reducible rfl
                try simp only [Act.put, List.setIfInBounds_toArray, List.set_cons_zero, List.set_cons_succ]
                refine takeD 10 (some 49) (v := ?_) rfl rfl (by kernel_rfl) (by kernel_rfl) (by kernel_rfl) (fun _ _ _ h => h) (by rfl) ?_ (by assumption) ?_
                rotate_left
                · intro w hSw
                  (try dsimp only at hSw)
                  go_simp
                  try with_reducible rfl
                try simp only [Act.put, List.setIfInBounds_toArray, List.set_cons_zero, List.set_cons_succ]
                refine takeD 11 (some 50) (v := ?_) rfl rfl (by kernel_rfl) (by kernel_rfl) (by kernel_rfl) (fun _ _ _ h => h) (by rfl) ?_ (by assumption) ?_
                rotate_left
                · intro w hSw
                  (try dsimp only at hSw)
                  go_simp
                  try with_reducible rfl
                try simp only [Act.put, List.setIfInBounds_toArray, List.set_cons_zero, List.set_cons_succ]
                refine takeD 12 (some 51) (v := ?_) rfl rfl (by kernel_rfl) (by kernel_rfl) (by kernel_rfl) (fun _ _ _ h => h) (by rfl) ?_ (by assumption) ?_
                rotate_left
                · intro w hSw
                  (try dsimp only at hSw)
                  go_simp
                  try with_reducible rfl
                try simp only [Act.put, List.setIfInBounds_toArray, List.set_cons_zero, List.set_cons_succ]
                refine takeD 13 (some 52) (v := ?_) rfl rfl (by kernel_rfl) (by kernel_rfl) (by kernel_rfl) (fun _ _ _ h => h) (by rfl) ?_ (by assumption) ?_
                rotate_left
                · intro w hSw
                  (try dsimp only at hSw)
                  go_simp
                  try with_reducible rfl
                try simp only [Act.put, List.setIfInBounds_toArray, List.set_cons_zero, List.set_cons_succ]
                refine takeD 14 (some 53) (v := ?_) rfl rfl (by kernel_rfl) (by kernel_rfl) (by kernel_rfl) (fun _ _ _ h => h) (by rfl) ?_ (by assumption) ?_
                rotate_left
                · intro w hSw
                  (try dsimp only at hSw)
                  go_simp
                  try with_reducible rfl
                try simp only [Act.put, List.setIfInBounds_toArray, List.set_cons_zero, List.set_cons_succ]
                refine takeD 15 (some 54) (v := ?_) rfl rfl (by kernel_rfl) (by kernel_rfl) (by kernel_rfl) (fun _ _ _ h => h) (by rfl) ?_ (by assumption) ?_
                rotate_left
                · intro w hSw
                  (try dsimp only at hSw)
                  go_simp
                  try with_reducible rfl
                try simp only [Act.put, List.setIfInBounds_toArray, List.set_cons_zero, List.set_cons_succ]
                refine takeD 16 (some 55) (v := ?_) rfl rfl (by kernel_rfl) (by kernel_rfl) (by kernel_rfl) (fun _ _ _ h => h) (by rfl) ?_ (by assumption) ?_
                rotate_left
                · intro w hSw
                  (try dsimp only at hSw)
                  go_simp
                  try with_reducible rfl
                try simp only [Act.put, List.setIfInBounds_toArray, List.set_cons_zero, List.set_cons_succ]
                refine wpAnyH_done (by kernel_rfl) ?_ _
                refine nmW (fun V => Below W.heap.size W V ∧ Row V (.slice (some od) o.length oc) (o.map (.int .i64))) ⟨HBU.out.drew, HRU.out.below ((Below.refl _ _).drew)⟩ fun U9 ⟨hbV, hrV⟩ => ?_
                clear HBU HRU
                have HBU := Lib.hid hbV
                have HRU := Lib.hid hrV
                clear hbV hrV hHeld
                clear dB dT dO
                have HRF := Lib.hid (show ∃ A c, Value.slice (some od) o.length oc = .slice A (chO (l.take (j + 1))).length c ∧ Row U9 (.slice A (chO (l.take (j + 1))).length c) ((chO (l.take (j + 1))).map (.int .i64)) from by rw [HINS.out]; exact ⟨_, _, rfl, HRU.out⟩)
                go_wp2
                go_roundw
                case rel => exact ⟨j + 1, by omega, by go_num, HBU.out, HRF.out⟩
                case measure => simp [intOf]; omega
              · have qy : (y == t.2.1) = false := beq_false_of_ne hyx
                have HINS := Lib.hid (HST.out.trans (if_neg (by rw [HY.out]; intro e; injection e with e; exact hyx e)))
                clear hyx
                have dB : ∀ w', Below U8.heap.size U8 w' → ∀ i, w'.cell? ⟨w.heap.size, i, none⟩ = (#[.slice (some ad) l.length rc, .int .i64 hold, .bool latch] : Array Value)[i]? := fun w' hb => (HBW.out.below (Btrans HBU.out hb)).cells
                have dT : ∀ w', Below U8.heap.size U8 w' → w'.cell? ⟨(ad.add (j * 3)).block, (ad.add (j * 3)).off + 1, none⟩ = some (.int .i64 t.2.1) := fun w' hb => (row3_c (HROW.out.below (Btrans HBU.out hb)) HT.out).2.1
                have dO : ∀ w', Below U8.heap.size U8 w' → w'.cell? (od.add k) = some (.int .i64 y) := fun w' hb => row_c (HRU.out.below hb) HY.out
                refine wp_region_held_drew (S := fun w' => Below U8.heap.size U8 w') (by kernel_rfl) ((Below.refl _ _).drew) (fun hHeld => ?_)
                refine takeD 0 (some 39) (v := ?_) rfl rfl (by kernel_rfl) (by kernel_rfl) (by kernel_rfl) (fun _ _ _ h => h) (by rfl) ?_ (by assumption) ?_
                rotate_left
                · intro w hSw
                  (try dsimp only at hSw)
                  go_simp
                  try with_reducible rfl
                try simp only [Act.put, List.setIfInBounds_toArray, List.set_cons_zero, List.set_cons_succ]
                refine takeD 1 (some 40) (v := ?_) rfl rfl (by kernel_rfl) (by kernel_rfl) (by kernel_rfl) (fun _ _ _ h => h) (by rfl) ?_ (by assumption) ?_
                rotate_left
                · intro w hSw
                  (try dsimp only at hSw)
                  go_simp
                  try with_reducible rfl
                try simp only [Act.put, List.setIfInBounds_toArray, List.set_cons_zero, List.set_cons_succ]
                refine takeD 2 (some 41) (v := ?_) rfl rfl (by kernel_rfl) (by kernel_rfl) (by kernel_rfl) (fun _ _ _ h => h) (by rfl) ?_ (by assumption) ?_
                rotate_left
                · intro w hSw
                  (try dsimp only at hSw)
                  go_simp
                  try with_reducible rfl
                try simp only [Act.put, List.setIfInBounds_toArray, List.set_cons_zero, List.set_cons_succ]
                refine takeD 3 (some 42) (v := ?_) rfl rfl (by kernel_rfl) (by kernel_rfl) (by kernel_rfl) (fun _ _ _ h => h) (by rfl) ?_ (by assumption) ?_
                rotate_left
                · intro w hSw
                  (try dsimp only at hSw)
                  go_simp
                  try with_reducible rfl
                try simp only [Act.put, List.setIfInBounds_toArray, List.set_cons_zero, List.set_cons_succ]
                refine takeD 4 (some 43) (v := ?_) rfl rfl (by kernel_rfl) (by kernel_rfl) (by kernel_rfl) (fun _ _ _ h => h) (by rfl) ?_ (by assumption) ?_
                rotate_left
                · intro w hSw
                  (try dsimp only at hSw)
                  go_simp
                  try with_reducible rfl
                try simp only [Act.put, List.setIfInBounds_toArray, List.set_cons_zero, List.set_cons_succ]
                refine takeD 5 (some 44) (v := ?_) rfl rfl (by kernel_rfl) (by kernel_rfl) (by kernel_rfl) (fun _ _ _ h => h) (by rfl) ?_ (by assumption) ?_
                rotate_left
                · intro w hSw
                  (try dsimp only at hSw)
                  go_simp
                  try with_reducible rfl
                try simp only [Act.put, List.setIfInBounds_toArray, List.set_cons_zero, List.set_cons_succ]
                refine takeD 6 (some 45) (v := ?_) rfl rfl (by kernel_rfl) (by kernel_rfl) (by kernel_rfl) (fun _ _ _ h => h) (by rfl) ?_ (by assumption) ?_
                rotate_left
                · intro w hSw
                  (try dsimp only at hSw)
                  go_simp
                  try with_reducible rfl
                try simp only [Act.put, List.setIfInBounds_toArray, List.set_cons_zero, List.set_cons_succ]
                refine takeD 7 (some 46) (v := ?_) rfl rfl (by kernel_rfl) (by kernel_rfl) (by kernel_rfl) (fun _ _ _ h => h) (by rfl) ?_ (by assumption) ?_
                rotate_left
                · intro w hSw
                  (try dsimp only at hSw)
                  go_simp
                  try with_reducible rfl
                try simp only [Act.put, List.setIfInBounds_toArray, List.set_cons_zero, List.set_cons_succ]
                refine takeD 8 (some 47) (v := ?_) rfl rfl (by kernel_rfl) (by kernel_rfl) (by kernel_rfl) (fun _ _ _ h => h) (by rfl) ?_ (by assumption) ?_
                rotate_left
                · intro w hSw
                  (try dsimp only at hSw)
                  go_simp
                  try with_reducible rfl
                try simp only [Act.put, List.setIfInBounds_toArray, List.set_cons_zero, List.set_cons_succ]
                refine takeD 9 (some 48) (v := ?_) rfl rfl (by kernel_rfl) (by kernel_rfl) (by kernel_rfl) (fun _ _ _ h => h) (by rfl) ?_ (by assumption) ?_
                rotate_left
                · intro w hSw
                  (try dsimp only at hSw)
                  go_simp
                  try with_reducible rfl
                try simp only [Act.put, List.setIfInBounds_toArray, List.set_cons_zero, List.set_cons_succ]
                refine takeD 10 (some 49) (v := ?_) rfl rfl (by kernel_rfl) (by kernel_rfl) (by kernel_rfl) (fun _ _ _ h => h) (by rfl) ?_ (by assumption) ?_
                rotate_left
                · intro w hSw
                  (try dsimp only at hSw)
                  go_simp
                  try with_reducible rfl
                try simp only [Act.put, List.setIfInBounds_toArray, List.set_cons_zero, List.set_cons_succ]
                refine takeD 11 (some 50) (v := ?_) rfl rfl (by kernel_rfl) (by kernel_rfl) (by kernel_rfl) (fun _ _ _ h => h) (by rfl) ?_ (by assumption) ?_
                rotate_left
                · intro w hSw
                  (try dsimp only at hSw)
                  go_simp
                  try with_reducible rfl
                try simp only [Act.put, List.setIfInBounds_toArray, List.set_cons_zero, List.set_cons_succ]
                refine takeD 12 (some 51) (v := ?_) rfl rfl (by kernel_rfl) (by kernel_rfl) (by kernel_rfl) (fun _ _ _ h => h) (by rfl) ?_ (by assumption) ?_
                rotate_left
                · intro w hSw
                  (try dsimp only at hSw)
                  go_simp
                  try with_reducible rfl
                try simp only [Act.put, List.setIfInBounds_toArray, List.set_cons_zero, List.set_cons_succ]
                refine takeD 13 (some 52) (v := ?_) rfl rfl (by kernel_rfl) (by kernel_rfl) (by kernel_rfl) (fun _ _ _ h => h) (by rfl) ?_ (by assumption) ?_
                rotate_left
                · intro w hSw
                  (try dsimp only at hSw)
                  go_simp
                  try with_reducible rfl
                try simp only [Act.put, List.setIfInBounds_toArray, List.set_cons_zero, List.set_cons_succ]
                refine takeD 14 (some 53) (v := ?_) rfl rfl (by kernel_rfl) (by kernel_rfl) (by kernel_rfl) (fun _ _ _ h => h) (by rfl) ?_ (by assumption) ?_
                rotate_left
                · intro w hSw
                  (try dsimp only at hSw)
                  go_simp
                  try with_reducible rfl
                try simp only [Act.put, List.setIfInBounds_toArray, List.set_cons_zero, List.set_cons_succ]
                refine takeD 15 (some 54) (v := ?_) rfl rfl (by kernel_rfl) (by kernel_rfl) (by kernel_rfl) (fun _ _ _ h => h) (by rfl) ?_ (by assumption) ?_
                rotate_left
                · intro w hSw
                  (try dsimp only at hSw)
                  go_simp
                  try with_reducible rfl
                try simp only [Act.put, List.setIfInBounds_toArray, List.set_cons_zero, List.set_cons_succ]
                refine takeD 16 (some 55) (v := ?_) rfl rfl (by kernel_rfl) (by kernel_rfl) (by kernel_rfl) (fun _ _ _ h => h) (by rfl) ?_ (by assumption) ?_
                rotate_left
                · intro w hSw
                  (try dsimp only at hSw)
                  go_simp
                  try with_reducible rfl
                try simp only [Act.put, List.setIfInBounds_toArray, List.set_cons_zero, List.set_cons_succ]
                refine wpAnyH_done (by kernel_rfl) ?_ _
                refine nmW (fun V => Below W.heap.size W V ∧ Row V (.slice (some od) o.length oc) (o.map (.int .i64))) ⟨HBU.out.drew, HRU.out.below ((Below.refl _ _).drew)⟩ fun U9 ⟨hbV, hrV⟩ => ?_
                clear HBU HRU
                have HBU := Lib.hid hbV
                have HRU := Lib.hid hrV
                clear hbV hrV hHeld
                clear dB dT dO
                go_wp2_with fail
                have HPRE := Lib.hid (row_pre HRU.out (k := k) (by omega))
                have HLP := Lib.hid (show ((o.take k).map (Value.int .i64)).length = k by simp; omega)
                have HLS := Lib.hid (show ((o.drop k).map (Value.int .i64)).length = o.length - k by simp)
                have HSUF := Lib.hid (row_suf HRU.out (k := k) (by omega))
                have hbX := Below.refl U9.heap.size U9
                have hkn : (k : Int) ≤ (o.length : Int) := by omega
                have hkc : (k : Int) ≤ (oc : Int) := by omega
                have hnc : (o.length : Int) ≤ (oc : Int) := by omega
                have dB : ∀ w', Below U9.heap.size U9 w' → ∀ i, w'.cell? ⟨w.heap.size, i, none⟩ = (#[.slice (some ad) l.length rc, .int .i64 hold, .bool latch] : Array Value)[i]? := fun w' hb => (HBW.out.below (Btrans HBU.out hb)).cells
                have dT : ∀ w', Below U9.heap.size U9 w' → w'.cell? ⟨(ad.add (j * 3)).block, (ad.add (j * 3)).off + 1, none⟩ = some (.int .i64 t.2.1) := fun w' hb => (row3_c (HROW.out.below (Btrans HBU.out hb)) HT.out).2.1
                refine wp_region_held_drew (S := fun w' => Below U9.heap.size U9 w') (by kernel_rfl) ((Below.refl _ _).drew) (fun hHeld => ?_)
                refine takeD 1 (some 57) (v := ?_) rfl rfl (by kernel_rfl) (by kernel_rfl) (by kernel_rfl) (fun _ _ _ h => h) (by rfl) ?_ (by assumption) ?_
                rotate_left
                · intro w hSw
                  (try dsimp only at hSw)
                  go_simp
                  try with_reducible rfl
                try simp only [Act.put, List.setIfInBounds_toArray, List.set_cons_zero, List.set_cons_succ]
                refine takeD 2 (some 58) (v := ?_) rfl rfl (by kernel_rfl) (by kernel_rfl) (by kernel_rfl) (fun _ _ _ h => h) (by rfl) ?_ (by assumption) ?_
                rotate_left
                · intro w hSw
                  (try dsimp only at hSw)
                  go_simp
                  try with_reducible rfl
                try simp only [Act.put, List.setIfInBounds_toArray, List.set_cons_zero, List.set_cons_succ]
                refine takeD 3 (some 59) (v := ?_) rfl rfl (by kernel_rfl) (by kernel_rfl) (by kernel_rfl) (fun _ _ _ h => h) (by rfl) ?_ (by assumption) ?_
                rotate_left
                · intro w hSw
                  (try dsimp only at hSw)
                  go_simp
                  try with_reducible rfl
                try simp only [Act.put, List.setIfInBounds_toArray, List.set_cons_zero, List.set_cons_succ]
                refine takeD 5 (some 61) (v := ?_) rfl rfl (by kernel_rfl) (by kernel_rfl) (by kernel_rfl) (fun _ _ _ h => h) (by rfl) ?_ (by assumption) ?_
                rotate_left
                · intro w hSw
                  (try dsimp only at hSw)
                  go_simp
                  try with_reducible rfl
                try simp only [Act.put, List.setIfInBounds_toArray, List.set_cons_zero, List.set_cons_succ]
                refine takeD 6 (some 62) (v := ?_) rfl rfl (by kernel_rfl) (by kernel_rfl) (by kernel_rfl) (fun _ _ _ h => h) (by rfl) ?_ (by assumption) ?_
                rotate_left
                · intro w hSw
                  (try dsimp only at hSw)
                  go_simp
                  try with_reducible rfl
                try simp only [Act.put, List.setIfInBounds_toArray, List.set_cons_zero, List.set_cons_succ]
                refine takeD 7 (some 63) (v := ?_) rfl rfl (by kernel_rfl) (by kernel_rfl) (by kernel_rfl) (fun _ _ _ h => h) (by rfl) ?_ (by assumption) ?_
                rotate_left
                · intro w hSw
                  (try dsimp only at hSw)
                  go_simp
                  try with_reducible rfl
                try simp only [Act.put, List.setIfInBounds_toArray, List.set_cons_zero, List.set_cons_succ]
                refine takeD 8 (some 64) (v := ?_) rfl rfl (by kernel_rfl) (by kernel_rfl) (by kernel_rfl) (fun _ _ _ h => h) (by rfl) ?_ (by assumption) ?_
                rotate_left
                · intro w hSw
                  (try dsimp only at hSw)
                  go_simp
                  try with_reducible rfl
                try simp only [Act.put, List.setIfInBounds_toArray, List.set_cons_zero, List.set_cons_succ]
                refine takeD 9 (some 65) (v := ?_) rfl rfl (by kernel_rfl) (by kernel_rfl) (by kernel_rfl) (fun _ _ _ h => h) (by rfl) ?_ (by assumption) ?_
                rotate_left
                · intro w hSw
                  (try dsimp only at hSw)
                  go_simp
                  try with_reducible rfl
                try simp only [Act.put, List.setIfInBounds_toArray, List.set_cons_zero, List.set_cons_succ]
                refine takeD 10 (some 66) (v := ?_) rfl rfl (by kernel_rfl) (by kernel_rfl) (by kernel_rfl) (fun _ _ _ h => h) (by rfl) ?_ (by assumption) ?_
                rotate_left
                · intro w hSw
                  (try dsimp only at hSw)
                  go_simp
                  try with_reducible rfl
                try simp only [Act.put, List.setIfInBounds_toArray, List.set_cons_zero, List.set_cons_succ]
                refine takeD 13 (some 69) (v := ?_) rfl rfl (by kernel_rfl) (by kernel_rfl) (by kernel_rfl) (fun _ _ _ h => h) (by rfl) ?_ (by assumption) ?_
                rotate_left
                · intro w hSw
                  (try dsimp only at hSw)
                  go_simp
                  try with_reducible rfl
                try simp only [Act.put, List.setIfInBounds_toArray, List.set_cons_zero, List.set_cons_succ]
                refine takeD 14 (some 70) (v := ?_) rfl rfl (by kernel_rfl) (by kernel_rfl) (by kernel_rfl) (fun _ _ _ h => h) (by rfl) ?_ (by assumption) ?_
                rotate_left
                · intro w hSw
                  (try dsimp only at hSw)
                  go_simp
                  try with_reducible rfl
                try simp only [Act.put, List.setIfInBounds_toArray, List.set_cons_zero, List.set_cons_succ]
                refine takeD 15 (some 71) (v := ?_) rfl rfl (by kernel_rfl) (by kernel_rfl) (by kernel_rfl) (fun _ _ _ h => h) (by rfl) ?_ (by assumption) ?_
                rotate_left
                · intro w hSw
                  (try dsimp only at hSw)
                  go_simp
                  try with_reducible rfl
                try simp only [Act.put, List.setIfInBounds_toArray, List.set_cons_zero, List.set_cons_succ]
                refine wpAnyH_ready (rs := [0, 11]) (by kernel_rfl) (by simp) ?_
                refine AllReadyH.cons rfl (fun K hK => ?_) (AllReadyH.cons rfl (fun K hK => ?_) AllReadyH.nil)
                · rw [if_pos (by rfl)]
                  go_simp
                  refine nmW (fun X1 => Below U9.heap.size U9 X1 ∧ World.ownsRow X1 U9.heap.size 3 1 (.slice (some ⟨U9.heap.size, 0, none⟩) 0 0) 0 []) ⟨(hbX.alloc hbX.size _).drew, (World.ownsRow.drew (own_empty _ _ _ _ hbX.size rfl))⟩ fun X1 ⟨hbX2, qHC⟩ => ?_
                  have hbX := hbX2
                  clear hbX2
                  have HC := Lib.hid qHC
                  clear qHC
                  have hS := hbX
                  refine hK.out _ _ ?_ (fun hHeld2 => ?_)
                  · clear hK; exact hS
                  clear hK K hHeld hS
                  have hHeld := hHeld2
                  clear hHeld2
                  try simp only [Act.put, List.setIfInBounds_toArray, List.set_cons_zero, List.set_cons_succ]
                  refine wpAnyH_ready (rs := [4, 11]) (by kernel_rfl) (by simp) ?_
                  refine AllReadyH.cons rfl (fun K hK => ?_) (AllReadyH.cons rfl (fun K hK => ?_) AllReadyH.nil)
                  · rw [if_pos (by rfl)]
                    refine wp_app el64 (.tmp 56) (.tmp 59) rfl U9.heap.size (.slice (some ⟨U9.heap.size, 0, none⟩) 0 0) 0 [] rfl HC.out _ ((o.take k).map (Value.int .i64)) rfl (HPRE.out.below hbX) (one_ints _ _) (by rw [HLP.out]; unfold maxLen; omega) (by rw [HLP.out]; omega) hbX.size ?_
                    intro v2 X2 hO hg hor
                    rw [HLP.out] at hO
                    have hbX2 := below_app hbX hbX.size HC.out hg (Nat.le_refl _)
                    rw [Nat.zero_add, List.nil_append] at hO
                    clear HC
                    have HC := Lib.hid hO
                    clear hO hg hor hbX
                    have hbX := hbX2
                    clear hbX2
                    have hS := hbX
                    refine hK.out _ _ ?_ (fun hHeld2 => ?_)
                    · clear hK; exact hS
                    clear hK K hHeld hS
                    have hHeld := hHeld2
                    clear hHeld2
                    try simp only [Act.put, List.setIfInBounds_toArray, List.set_cons_zero, List.set_cons_succ]
                    refine wpAnyH_ready (rs := [11]) (by kernel_rfl) (by simp) ?_
                    refine AllReadyH.cons rfl (fun K hK => ?_) AllReadyH.nil
                    rw [if_pos (by rfl)]
                    go_simp
                    have HNE := Lib.hid (show some X2.heap.size ≠ Value.ownBlock v2 from ne_some HC.out rfl)
                    refine nmW (fun X3 => Below U9.heap.size U9 X3 ∧ World.ownsRow X3 U9.heap.size 3 1 v2 k ((o.take k).map (.int .i64)) ∧ Blk X3 X2.heap.size 3 #[.int .i64 t.2.1]) ⟨hbX.alloc hbX.size _, (own_below HC.out ((Below.refl _ _).alloc (Nat.le_refl _) _)), (Blk.new _ _ _ _ rfl)⟩ fun X3 ⟨hbX2, qHC, qHN⟩ => ?_
                    clear HC
                    have hbX := hbX2
                    clear hbX2
                    have HC := Lib.hid qHC
                    clear qHC
                    have HN := Lib.hid qHN
                    clear qHN
                    have hS := hbX
                    refine hK.out _ _ ?_ (fun hHeld2 => ?_)
                    · clear hK; exact hS
                    clear hK K hHeld hS
                    have hHeld := hHeld2
                    clear hHeld2
                    try simp only [Act.put, List.setIfInBounds_toArray, List.set_cons_zero, List.set_cons_succ]
                    refine wpAnyH_ready (rs := [12]) (by kernel_rfl) (by simp) ?_
                    refine AllReadyH.cons rfl (fun K hK => ?_) AllReadyH.nil
                    rw [if_pos (by rfl)]
                    refine wp_app el64 (.tmp 60) (.tmp 67) rfl U9.heap.size v2 k ((o.take k).map (Value.int .i64)) rfl HC.out _ [Value.int .i64 t.2.1] rfl (Row.of_block HN.out rfl rfl (Nat.le_refl _) (by decide)) (one_ints _ [t.2.1]) (by rw [(show ([Value.int .i64 t.2.1] : List Value).length = 1 from rfl)]; unfold maxLen; omega) (by rw [(show ([Value.int .i64 t.2.1] : List Value).length = 1 from rfl)]; omega) hbX.size ?_
                    intro v3 X4 hO hg hor
                    rw [(show ([Value.int .i64 t.2.1] : List Value).length = 1 from rfl)] at hO
                    have hbX2 := below_app hbX hbX.size HC.out hg (Nat.le_refl _)
                    clear HN HNE
                    clear HC
                    have HC := Lib.hid hO
                    clear hO hg hor hbX
                    have hbX := hbX2
                    clear hbX2
                    have hS := hbX
                    refine hK.out _ _ ?_ (fun hHeld2 => ?_)
                    · clear hK; exact hS
                    clear hK K hHeld hS
                    have hHeld := hHeld2
                    clear hHeld2
                    try simp only [Act.put, List.setIfInBounds_toArray, List.set_cons_zero, List.set_cons_succ]
                    refine wpAnyH_ready (rs := [16]) (by kernel_rfl) (by simp) ?_
                    refine AllReadyH.cons rfl (fun K hK => ?_) AllReadyH.nil
                    rw [if_pos (by rfl)]
                    refine wp_app el64 (.tmp 68) (.tmp 71) rfl U9.heap.size v3 (k + 1) ((o.take k).map (Value.int .i64) ++ [Value.int .i64 t.2.1]) rfl HC.out _ ((o.drop k).map (Value.int .i64)) rfl (HSUF.out.below hbX) (one_ints _ _) (by rw [HLS.out]; unfold maxLen; omega) (by rw [HLS.out]; omega) hbX.size ?_
                    intro v4 X5 hO hg hor
                    rw [HLS.out] at hO
                    have hbX2 := below_app hbX hbX.size HC.out hg (Nat.le_refl _)
                    obtain ⟨A4, c4, rfl⟩ := own_shape hO
                    clear HC
                    have HC := Lib.hid hO
                    clear hO hg hor hbX
                    have hbX := hbX2
                    clear hbX2
                    have hS := hbX
                    refine hK.out _ _ ?_ (fun hHeld2 => ?_)
                    · clear hK; exact hS
                    clear hK K hHeld hS
                    have hHeld := hHeld2
                    clear hHeld2
                    try simp only [Act.put, List.setIfInBounds_toArray, List.set_cons_zero, List.set_cons_succ]
                    refine takeD 17 (some 3) (v := ?_) rfl rfl (by kernel_rfl) (by kernel_rfl) (by kernel_rfl) (fun _ _ _ h => h) (by rfl) ?_ (by assumption) ?_
                    rotate_left
                    · intro w hSw
                      (try dsimp only at hSw)
                      go_simp
                      try with_reducible rfl
                    try simp only [Act.put, List.setIfInBounds_toArray, List.set_cons_zero, List.set_cons_succ]
                    refine wpAnyH_done (by kernel_rfl) ?_ _
                    have HRF := Lib.hid (show ∃ A c, Value.slice A4 (k + 1 + (o.length - k)) c4 = .slice A (chO (l.take (j + 1))).length c ∧ Row X5 (.slice A (chO (l.take (j + 1))).length c) ((chO (l.take (j + 1))).map (.int .i64)) from by
                      have hr := Row.of_own HC.out
                      have he : k + 1 + (o.length - k) = (chO (l.take (j + 1))).length := by rw [HINS.out]; simp; omega
                      rw [he] at hr ⊢
                      rw [HINS.out] at hr ⊢
                      refine ⟨A4, c4, rfl, ?_⟩
                      simpa using hr)
                    have HBF := Lib.hid (Btrans HBU.out hbX)
                    clear dB dT hHeld
                    go_wp2
                    go_roundw
                    case rel => exact ⟨j + 1, by omega, by go_num, HBF.out, HRF.out⟩
                    case measure => simp [intOf]; omega
                  · rw [if_pos (by rfl)]
                    go_simp
                    have HNE := Lib.hid (show some X1.heap.size ≠ Value.ownBlock (.slice (some ⟨U9.heap.size, 0, none⟩) 0 0) from ne_some HC.out rfl)
                    refine nmW (fun X2 => Below U9.heap.size U9 X2 ∧ World.ownsRow X2 U9.heap.size 3 1 (.slice (some ⟨U9.heap.size, 0, none⟩) 0 0) 0 [] ∧ Blk X2 X1.heap.size 3 #[.int .i64 t.2.1]) ⟨hbX.alloc hbX.size _, (own_below HC.out ((Below.refl _ _).alloc (Nat.le_refl _) _)), (Blk.new _ _ _ _ rfl)⟩ fun X2 ⟨hbX2, qHC, qHN⟩ => ?_
                    clear HC
                    have hbX := hbX2
                    clear hbX2
                    have HC := Lib.hid qHC
                    clear qHC
                    have HN := Lib.hid qHN
                    clear qHN
                    have hS := hbX
                    refine hK.out _ _ ?_ (fun hHeld2 => ?_)
                    · clear hK; exact hS
                    clear hK K hHeld hS
                    have hHeld := hHeld2
                    clear hHeld2
                    try simp only [Act.put, List.setIfInBounds_toArray, List.set_cons_zero, List.set_cons_succ]
                    refine wpAnyH_ready (rs := [4]) (by kernel_rfl) (by simp) ?_
                    refine AllReadyH.cons rfl (fun K hK => ?_) AllReadyH.nil
                    rw [if_pos (by rfl)]
                    refine wp_app el64 (.tmp 56) (.tmp 59) rfl U9.heap.size (.slice (some ⟨U9.heap.size, 0, none⟩) 0 0) 0 [] rfl HC.out _ ((o.take k).map (Value.int .i64)) rfl (HPRE.out.below hbX) (one_ints _ _) (by rw [HLP.out]; unfold maxLen; omega) (by rw [HLP.out]; omega) hbX.size ?_
                    intro v2 X3 hO hg hor
                    rw [HLP.out] at hO
                    have hbX2 := below_app hbX hbX.size HC.out hg (Nat.le_refl _)
                    rw [Nat.zero_add, List.nil_append] at hO
                    have HN2 := Lib.hid (show Blk _ _ _ _ from (hg.block _ HN.out.lt HNE.out).trans HN.out)
                    have HNE2 := Lib.hid (show some X1.heap.size ≠ Value.ownBlock v2 by rcases hor with e | e <;> rw [e] <;> first | exact HNE.out | (intro he; injection he with he; have := HN.out.lt; omega))
                    clear HN HNE
                    have HN := Lib.hid HN2.out
                    have HNE := Lib.hid HNE2.out
                    clear HN2 HNE2
                    clear HC
                    have HC := Lib.hid hO
                    clear hO hg hor hbX
                    have hbX := hbX2
                    clear hbX2
                    have hS := hbX
                    refine hK.out _ _ ?_ (fun hHeld2 => ?_)
                    · clear hK; exact hS
                    clear hK K hHeld hS
                    have hHeld := hHeld2
                    clear hHeld2
                    try simp only [Act.put, List.setIfInBounds_toArray, List.set_cons_zero, List.set_cons_succ]
                    refine wpAnyH_ready (rs := [12]) (by kernel_rfl) (by simp) ?_
                    refine AllReadyH.cons rfl (fun K hK => ?_) AllReadyH.nil
                    rw [if_pos (by rfl)]
                    refine wp_app el64 (.tmp 60) (.tmp 67) rfl U9.heap.size v2 k ((o.take k).map (Value.int .i64)) rfl HC.out _ [Value.int .i64 t.2.1] rfl (Row.of_block HN.out rfl rfl (Nat.le_refl _) (by decide)) (one_ints _ [t.2.1]) (by rw [(show ([Value.int .i64 t.2.1] : List Value).length = 1 from rfl)]; unfold maxLen; omega) (by rw [(show ([Value.int .i64 t.2.1] : List Value).length = 1 from rfl)]; omega) hbX.size ?_
                    intro v3 X4 hO hg hor
                    rw [(show ([Value.int .i64 t.2.1] : List Value).length = 1 from rfl)] at hO
                    have hbX2 := below_app hbX hbX.size HC.out hg (Nat.le_refl _)
                    clear HN HNE
                    clear HC
                    have HC := Lib.hid hO
                    clear hO hg hor hbX
                    have hbX := hbX2
                    clear hbX2
                    have hS := hbX
                    refine hK.out _ _ ?_ (fun hHeld2 => ?_)
                    · clear hK; exact hS
                    clear hK K hHeld hS
                    have hHeld := hHeld2
                    clear hHeld2
                    try simp only [Act.put, List.setIfInBounds_toArray, List.set_cons_zero, List.set_cons_succ]
                    refine wpAnyH_ready (rs := [16]) (by kernel_rfl) (by simp) ?_
                    refine AllReadyH.cons rfl (fun K hK => ?_) AllReadyH.nil
                    rw [if_pos (by rfl)]
                    refine wp_app el64 (.tmp 68) (.tmp 71) rfl U9.heap.size v3 (k + 1) ((o.take k).map (Value.int .i64) ++ [Value.int .i64 t.2.1]) rfl HC.out _ ((o.drop k).map (Value.int .i64)) rfl (HSUF.out.below hbX) (one_ints _ _) (by rw [HLS.out]; unfold maxLen; omega) (by rw [HLS.out]; omega) hbX.size ?_
                    intro v4 X5 hO hg hor
                    rw [HLS.out] at hO
                    have hbX2 := below_app hbX hbX.size HC.out hg (Nat.le_refl _)
                    obtain ⟨A4, c4, rfl⟩ := own_shape hO
                    clear HC
                    have HC := Lib.hid hO
                    clear hO hg hor hbX
                    have hbX := hbX2
                    clear hbX2
                    have hS := hbX
                    refine hK.out _ _ ?_ (fun hHeld2 => ?_)
                    · clear hK; exact hS
                    clear hK K hHeld hS
                    have hHeld := hHeld2
                    clear hHeld2
                    try simp only [Act.put, List.setIfInBounds_toArray, List.set_cons_zero, List.set_cons_succ]
                    refine takeD 17 (some 3) (v := ?_) rfl rfl (by kernel_rfl) (by kernel_rfl) (by kernel_rfl) (fun _ _ _ h => h) (by rfl) ?_ (by assumption) ?_
                    rotate_left
                    · intro w hSw
                      (try dsimp only at hSw)
                      go_simp
                      try with_reducible rfl
                    try simp only [Act.put, List.setIfInBounds_toArray, List.set_cons_zero, List.set_cons_succ]
                    refine wpAnyH_done (by kernel_rfl) ?_ _
                    have HRF := Lib.hid (show ∃ A c, Value.slice A4 (k + 1 + (o.length - k)) c4 = .slice A (chO (l.take (j + 1))).length c ∧ Row X5 (.slice A (chO (l.take (j + 1))).length c) ((chO (l.take (j + 1))).map (.int .i64)) from by
                      have hr := Row.of_own HC.out
                      have he : k + 1 + (o.length - k) = (chO (l.take (j + 1))).length := by rw [HINS.out]; simp; omega
                      rw [he] at hr ⊢
                      rw [HINS.out] at hr ⊢
                      refine ⟨A4, c4, rfl, ?_⟩
                      simpa using hr)
                    have HBF := Lib.hid (Btrans HBU.out hbX)
                    clear dB dT hHeld
                    go_wp2
                    go_roundw
                    case rel => exact ⟨j + 1, by omega, by go_num, HBF.out, HRF.out⟩
                    case measure => simp [intOf]; omega
                · rw [if_pos (by rfl)]
                  go_simp
                  refine nmW (fun X1 => Below U9.heap.size U9 X1 ∧ Blk X1 U9.heap.size 3 #[.int .i64 t.2.1]) ⟨(hbX.alloc hbX.size _).drew, (Blk.drw (Blk.new _ _ _ _ rfl))⟩ fun X1 ⟨hbX2, qHN⟩ => ?_
                  have hbX := hbX2
                  clear hbX2
                  have HN := Lib.hid qHN
                  clear qHN
                  have hS := hbX
                  refine hK.out _ _ ?_ (fun hHeld2 => ?_)
                  · clear hK; exact hS
                  clear hK K hHeld hS
                  have hHeld := hHeld2
                  clear hHeld2
                  try simp only [Act.put, List.setIfInBounds_toArray, List.set_cons_zero, List.set_cons_succ]
                  refine wpAnyH_ready (rs := [0]) (by kernel_rfl) (by simp) ?_
                  refine AllReadyH.cons rfl (fun K hK => ?_) AllReadyH.nil
                  rw [if_pos (by rfl)]
                  go_simp
                  have HNE := Lib.hid (show some U9.heap.size ≠ Value.ownBlock (.slice (some ⟨X1.heap.size, 0, none⟩) 0 0) from (by intro he; have := HN.out.lt; simp [Value.ownBlock] at he; omega))
                  refine nmW (fun X2 => Below U9.heap.size U9 X2 ∧ World.ownsRow X2 U9.heap.size 3 1 (.slice (some ⟨X1.heap.size, 0, none⟩) 0 0) 0 [] ∧ Blk X2 U9.heap.size 3 #[.int .i64 t.2.1]) ⟨hbX.alloc hbX.size _, (own_empty _ _ _ _ hbX.size rfl), (HN.out.al _)⟩ fun X2 ⟨hbX2, qHC, qHN⟩ => ?_
                  clear HN
                  have hbX := hbX2
                  clear hbX2
                  have HC := Lib.hid qHC
                  clear qHC
                  have HN := Lib.hid qHN
                  clear qHN
                  have hS := hbX
                  refine hK.out _ _ ?_ (fun hHeld2 => ?_)
                  · clear hK; exact hS
                  clear hK K hHeld hS
                  have hHeld := hHeld2
                  clear hHeld2
                  try simp only [Act.put, List.setIfInBounds_toArray, List.set_cons_zero, List.set_cons_succ]
                  refine wpAnyH_ready (rs := [4]) (by kernel_rfl) (by simp) ?_
                  refine AllReadyH.cons rfl (fun K hK => ?_) AllReadyH.nil
                  rw [if_pos (by rfl)]
                  refine wp_app el64 (.tmp 56) (.tmp 59) rfl U9.heap.size (.slice (some ⟨X1.heap.size, 0, none⟩) 0 0) 0 [] rfl HC.out _ ((o.take k).map (Value.int .i64)) rfl (HPRE.out.below hbX) (one_ints _ _) (by rw [HLP.out]; unfold maxLen; omega) (by rw [HLP.out]; omega) hbX.size ?_
                  intro v2 X3 hO hg hor
                  rw [HLP.out] at hO
                  have hbX2 := below_app hbX hbX.size HC.out hg (Nat.le_refl _)
                  rw [Nat.zero_add, List.nil_append] at hO
                  have HN2 := Lib.hid (show Blk _ _ _ _ from (hg.block _ HN.out.lt HNE.out).trans HN.out)
                  have HNE2 := Lib.hid (show some U9.heap.size ≠ Value.ownBlock v2 by rcases hor with e | e <;> rw [e] <;> first | exact HNE.out | (intro he; injection he with he; have := HN.out.lt; omega))
                  clear HN HNE
                  have HN := Lib.hid HN2.out
                  have HNE := Lib.hid HNE2.out
                  clear HN2 HNE2
                  clear HC
                  have HC := Lib.hid hO
                  clear hO hg hor hbX
                  have hbX := hbX2
                  clear hbX2
                  have hS := hbX
                  refine hK.out _ _ ?_ (fun hHeld2 => ?_)
                  · clear hK; exact hS
                  clear hK K hHeld hS
                  have hHeld := hHeld2
                  clear hHeld2
                  try simp only [Act.put, List.setIfInBounds_toArray, List.set_cons_zero, List.set_cons_succ]
                  refine wpAnyH_ready (rs := [12]) (by kernel_rfl) (by simp) ?_
                  refine AllReadyH.cons rfl (fun K hK => ?_) AllReadyH.nil
                  rw [if_pos (by rfl)]
                  refine wp_app el64 (.tmp 60) (.tmp 67) rfl U9.heap.size v2 k ((o.take k).map (Value.int .i64)) rfl HC.out _ [Value.int .i64 t.2.1] rfl (Row.of_block HN.out rfl rfl (Nat.le_refl _) (by decide)) (one_ints _ [t.2.1]) (by rw [(show ([Value.int .i64 t.2.1] : List Value).length = 1 from rfl)]; unfold maxLen; omega) (by rw [(show ([Value.int .i64 t.2.1] : List Value).length = 1 from rfl)]; omega) hbX.size ?_
                  intro v3 X4 hO hg hor
                  rw [(show ([Value.int .i64 t.2.1] : List Value).length = 1 from rfl)] at hO
                  have hbX2 := below_app hbX hbX.size HC.out hg (Nat.le_refl _)
                  clear HN HNE
                  clear HC
                  have HC := Lib.hid hO
                  clear hO hg hor hbX
                  have hbX := hbX2
                  clear hbX2
                  have hS := hbX
                  refine hK.out _ _ ?_ (fun hHeld2 => ?_)
                  · clear hK; exact hS
                  clear hK K hHeld hS
                  have hHeld := hHeld2
                  clear hHeld2
                  try simp only [Act.put, List.setIfInBounds_toArray, List.set_cons_zero, List.set_cons_succ]
                  refine wpAnyH_ready (rs := [16]) (by kernel_rfl) (by simp) ?_
                  refine AllReadyH.cons rfl (fun K hK => ?_) AllReadyH.nil
                  rw [if_pos (by rfl)]
                  refine wp_app el64 (.tmp 68) (.tmp 71) rfl U9.heap.size v3 (k + 1) ((o.take k).map (Value.int .i64) ++ [Value.int .i64 t.2.1]) rfl HC.out _ ((o.drop k).map (Value.int .i64)) rfl (HSUF.out.below hbX) (one_ints _ _) (by rw [HLS.out]; unfold maxLen; omega) (by rw [HLS.out]; omega) hbX.size ?_
                  intro v4 X5 hO hg hor
                  rw [HLS.out] at hO
                  have hbX2 := below_app hbX hbX.size HC.out hg (Nat.le_refl _)
                  obtain ⟨A4, c4, rfl⟩ := own_shape hO
                  clear HC
                  have HC := Lib.hid hO
                  clear hO hg hor hbX
                  have hbX := hbX2
                  clear hbX2
                  have hS := hbX
                  refine hK.out _ _ ?_ (fun hHeld2 => ?_)
                  · clear hK; exact hS
                  clear hK K hHeld hS
                  have hHeld := hHeld2
                  clear hHeld2
                  try simp only [Act.put, List.setIfInBounds_toArray, List.set_cons_zero, List.set_cons_succ]
                  refine takeD 17 (some 3) (v := ?_) rfl rfl (by kernel_rfl) (by kernel_rfl) (by kernel_rfl) (fun _ _ _ h => h) (by rfl) ?_ (by assumption) ?_
                  rotate_left
                  · intro w hSw
                    (try dsimp only at hSw)
                    go_simp
                    try with_reducible rfl
                  try simp only [Act.put, List.setIfInBounds_toArray, List.set_cons_zero, List.set_cons_succ]
                  refine wpAnyH_done (by kernel_rfl) ?_ _
                  have HRF := Lib.hid (show ∃ A c, Value.slice A4 (k + 1 + (o.length - k)) c4 = .slice A (chO (l.take (j + 1))).length c ∧ Row X5 (.slice A (chO (l.take (j + 1))).length c) ((chO (l.take (j + 1))).map (.int .i64)) from by
                    have hr := Row.of_own HC.out
                    have he : k + 1 + (o.length - k) = (chO (l.take (j + 1))).length := by rw [HINS.out]; simp; omega
                    rw [he] at hr ⊢
                    rw [HINS.out] at hr ⊢
                    refine ⟨A4, c4, rfl, ?_⟩
                    simpa using hr)
                  have HBF := Lib.hid (Btrans HBU.out hbX)
                  clear dB dT hHeld
                  go_wp2
                  go_roundw
                  case rel => exact ⟨j + 1, by omega, by go_num, HBF.out, HRF.out⟩
                  case measure => simp [intOf]; omega
          · have qk : decide ((k : Int) < (o.length : Int)) = false := decide_eq_false (by omega)
            have qk3 : decide (k < o.length) = false := decide_eq_false (by omega)
            have HINS := Lib.hid (show chO (l.take (j + 1)) = o.take k ++ [t.2.1] ++ o.drop k from HNX.out.trans ((insU_at t.2.1 o k (by omega) HLK.out (fun z hz => by rw [List.getElem?_eq_none (by omega)] at hz; cases hz)).trans (if_neg (by rw [List.getElem?_eq_none (by omega)]; intro e; cases e))))
            clear hb7 hr7
            cases OA with
            | none =>
              go_wp2_with fail
              have dB : ∀ w', Below U7.heap.size U7 w' → ∀ i, w'.cell? ⟨w.heap.size, i, none⟩ = (#[.slice (some ad) l.length rc, .int .i64 hold, .bool latch] : Array Value)[i]? := fun w' hb => (HBW.out.below (Btrans HBU.out hb)).cells
              have dT : ∀ w', Below U7.heap.size U7 w' → w'.cell? ⟨(ad.add (j * 3)).block, (ad.add (j * 3)).off + 1, none⟩ = some (.int .i64 t.2.1) := fun w' hb => (row3_c (HROW.out.below (Btrans HBU.out hb)) HT.out).2.1
              refine wp_region_held_drew (S := fun w' => Below U7.heap.size U7 w') (by kernel_rfl) ((Below.refl _ _).drew) (fun hHeld => ?_)
              refine takeD 0 (some 20) (v := ?_) rfl rfl (by kernel_rfl) (by kernel_rfl) (by kernel_rfl) (fun _ _ _ h => h) (by rfl) ?_ (by assumption) ?_
              rotate_left
              · intro w hSw
                (try dsimp only at hSw)
                go_simp
                try with_reducible rfl
              try simp only [Act.put, List.setIfInBounds_toArray, List.set_cons_zero, List.set_cons_succ]
              refine takeD 1 (some 21) (v := ?_) rfl rfl (by kernel_rfl) (by kernel_rfl) (by kernel_rfl) (fun _ _ _ h => h) (by rfl) ?_ (by assumption) ?_
              rotate_left
              · intro w hSw
                (try dsimp only at hSw)
                go_simp
                try with_reducible rfl
              try simp only [Act.put, List.setIfInBounds_toArray, List.set_cons_zero, List.set_cons_succ]
              refine takeD 2 (some 22) (v := ?_) rfl rfl (by kernel_rfl) (by kernel_rfl) (by kernel_rfl) (fun _ _ _ h => h) (by rfl) ?_ (by assumption) ?_
              rotate_left
              · intro w hSw
                (try dsimp only at hSw)
                go_simp
                try with_reducible rfl
              try simp only [Act.put, List.setIfInBounds_toArray, List.set_cons_zero, List.set_cons_succ]
              refine takeD 3 (some 23) (v := ?_) rfl rfl (by kernel_rfl) (by kernel_rfl) (by kernel_rfl) (fun _ _ _ h => h) (by rfl) ?_ (by assumption) ?_
              rotate_left
              · intro w hSw
                (try dsimp only at hSw)
                go_simp
                try with_reducible rfl
              try simp only [Act.put, List.setIfInBounds_toArray, List.set_cons_zero, List.set_cons_succ]
              refine takeD 4 (some 24) (v := ?_) rfl rfl (by kernel_rfl) (by kernel_rfl) (by kernel_rfl) (fun _ _ _ h => h) (by rfl) ?_ (by assumption) ?_
              rotate_left
              · intro w hSw
                (try dsimp only at hSw)
                go_simp
                try with_reducible rfl
              try simp only [Act.put, List.setIfInBounds_toArray, List.set_cons_zero, List.set_cons_succ]
              refine skipD 5 (some 25) rfl rfl (by kernel_rfl) (by kernel_rfl) (by kernel_rfl) (fun _ _ _ h => h) (by rfl) (by assumption) ?_
              try simp only [Act.put, List.setIfInBounds_toArray, List.set_cons_zero, List.set_cons_succ]
              refine skipD 6 (some 26) rfl rfl (by kernel_rfl) (by kernel_rfl) (by kernel_rfl) (fun _ _ _ h => h) (by rfl) (by assumption) ?_
              try simp only [Act.put, List.setIfInBounds_toArray, List.set_cons_zero, List.set_cons_succ]
              refine skipD 7 (some 27) rfl rfl (by kernel_rfl) (by kernel_rfl) (by kernel_rfl) (fun _ _ _ h => h) (by rfl) (by assumption) ?_
              try simp only [Act.put, List.setIfInBounds_toArray, List.set_cons_zero, List.set_cons_succ]
              refine skipD 8 (some 28) rfl rfl (by kernel_rfl) (by kernel_rfl) (by kernel_rfl) (fun _ _ _ h => h) (by rfl) (by assumption) ?_
              try simp only [Act.put, List.setIfInBounds_toArray, List.set_cons_zero, List.set_cons_succ]
              refine skipD 9 (some 29) rfl rfl (by kernel_rfl) (by kernel_rfl) (by kernel_rfl) (fun _ _ _ h => h) (by rfl) (by assumption) ?_
              try simp only [Act.put, List.setIfInBounds_toArray, List.set_cons_zero, List.set_cons_succ]
              refine skipD 10 (some 30) rfl rfl (by kernel_rfl) (by kernel_rfl) (by kernel_rfl) (fun _ _ _ h => h) (by rfl) (by assumption) ?_
              try simp only [Act.put, List.setIfInBounds_toArray, List.set_cons_zero, List.set_cons_succ]
              refine skipD 11 (some 31) rfl rfl (by kernel_rfl) (by kernel_rfl) (by kernel_rfl) (fun _ _ _ h => h) (by rfl) (by assumption) ?_
              try simp only [Act.put, List.setIfInBounds_toArray, List.set_cons_zero, List.set_cons_succ]
              refine skipD 12 (some 32) rfl rfl (by kernel_rfl) (by kernel_rfl) (by kernel_rfl) (fun _ _ _ h => h) (by rfl) (by assumption) ?_
              try simp only [Act.put, List.setIfInBounds_toArray, List.set_cons_zero, List.set_cons_succ]
              refine skipD 13 (some 33) rfl rfl (by kernel_rfl) (by kernel_rfl) (by kernel_rfl) (fun _ _ _ h => h) (by rfl) (by assumption) ?_
              try simp only [Act.put, List.setIfInBounds_toArray, List.set_cons_zero, List.set_cons_succ]
              refine skipD 14 (some 34) rfl rfl (by kernel_rfl) (by kernel_rfl) (by kernel_rfl) (fun _ _ _ h => h) (by rfl) (by assumption) ?_
              try simp only [Act.put, List.setIfInBounds_toArray, List.set_cons_zero, List.set_cons_succ]
              refine skipD 15 (some 35) rfl rfl (by kernel_rfl) (by kernel_rfl) (by kernel_rfl) (fun _ _ _ h => h) (by rfl) (by assumption) ?_
              try simp only [Act.put, List.setIfInBounds_toArray, List.set_cons_zero, List.set_cons_succ]
              refine takeD 16 (some 36) (v := ?_) rfl rfl (by kernel_rfl) (by kernel_rfl) (by kernel_rfl) (fun _ _ _ h => h) (by rfl) ?_ (by assumption) ?_
              rotate_left
              · intro w hSw
                (try dsimp only at hSw)
                go_simp
                try with_reducible rfl
              try simp only [Act.put, List.setIfInBounds_toArray, List.set_cons_zero, List.set_cons_succ]
              refine wpAnyH_done (by kernel_rfl) ?_ _
              refine nmW (fun V => Below W.heap.size W V ∧ Row V (.slice none o.length oc) (o.map (.int .i64))) ⟨HBU.out.drew, HRU.out.below ((Below.refl _ _).drew)⟩ fun U8 ⟨hbV, hrV⟩ => ?_
              clear HBU HRU
              have HBU := Lib.hid hbV
              have HRU := Lib.hid hrV
              clear hbV hrV hHeld
              clear dB dT
              go_wp2_with fail
              have qe : ((k : Int) == (o.length : Int)) = true := by rw [beq_iff_eq]; omega
              have qe3 : (k == o.length) = true := by rw [beq_iff_eq]; omega
              have dB : ∀ w', Below U8.heap.size U8 w' → ∀ i, w'.cell? ⟨w.heap.size, i, none⟩ = (#[.slice (some ad) l.length rc, .int .i64 hold, .bool latch] : Array Value)[i]? := fun w' hb => (HBW.out.below (Btrans HBU.out hb)).cells
              have dT : ∀ w', Below U8.heap.size U8 w' → w'.cell? ⟨(ad.add (j * 3)).block, (ad.add (j * 3)).off + 1, none⟩ = some (.int .i64 t.2.1) := fun w' hb => (row3_c (HROW.out.below (Btrans HBU.out hb)) HT.out).2.1
              refine wp_region_held_drew (S := fun w' => Below U8.heap.size U8 w') (by kernel_rfl) ((Below.refl _ _).drew) (fun hHeld => ?_)
              refine takeD 0 (some 39) (v := ?_) rfl rfl (by kernel_rfl) (by kernel_rfl) (by kernel_rfl) (fun _ _ _ h => h) (by rfl) ?_ (by assumption) ?_
              rotate_left
              · intro w hSw
                (try dsimp only at hSw)
                go_simp
                try with_reducible rfl
              try simp only [Act.put, List.setIfInBounds_toArray, List.set_cons_zero, List.set_cons_succ]
              refine takeD 1 (some 40) (v := ?_) rfl rfl (by kernel_rfl) (by kernel_rfl) (by kernel_rfl) (fun _ _ _ h => h) (by rfl) ?_ (by assumption) ?_
              rotate_left
              · intro w hSw
                (try dsimp only at hSw)
                go_simp
                try with_reducible rfl
              try simp only [Act.put, List.setIfInBounds_toArray, List.set_cons_zero, List.set_cons_succ]
              refine takeD 2 (some 41) (v := ?_) rfl rfl (by kernel_rfl) (by kernel_rfl) (by kernel_rfl) (fun _ _ _ h => h) (by rfl) ?_ (by assumption) ?_
              rotate_left
              · intro w hSw
                (try dsimp only at hSw)
                go_simp
                try with_reducible rfl
              try simp only [Act.put, List.setIfInBounds_toArray, List.set_cons_zero, List.set_cons_succ]
              refine takeD 3 (some 42) (v := ?_) rfl rfl (by kernel_rfl) (by kernel_rfl) (by kernel_rfl) (fun _ _ _ h => h) (by rfl) ?_ (by assumption) ?_
              rotate_left
              · intro w hSw
                (try dsimp only at hSw)
                go_simp
                try with_reducible rfl
              try simp only [Act.put, List.setIfInBounds_toArray, List.set_cons_zero, List.set_cons_succ]
              refine takeD 4 (some 43) (v := ?_) rfl rfl (by kernel_rfl) (by kernel_rfl) (by kernel_rfl) (fun _ _ _ h => h) (by rfl) ?_ (by assumption) ?_
              rotate_left
              · intro w hSw
                (try dsimp only at hSw)
                go_simp
                try with_reducible rfl
              try simp only [Act.put, List.setIfInBounds_toArray, List.set_cons_zero, List.set_cons_succ]
              refine skipD 5 (some 44) rfl rfl (by kernel_rfl) (by kernel_rfl) (by kernel_rfl) (fun _ _ _ h => h) (by rfl) (by assumption) ?_
              try simp only [Act.put, List.setIfInBounds_toArray, List.set_cons_zero, List.set_cons_succ]
              refine skipD 6 (some 45) rfl rfl (by kernel_rfl) (by kernel_rfl) (by kernel_rfl) (fun _ _ _ h => h) (by rfl) (by assumption) ?_
              try simp only [Act.put, List.setIfInBounds_toArray, List.set_cons_zero, List.set_cons_succ]
              refine skipD 7 (some 46) rfl rfl (by kernel_rfl) (by kernel_rfl) (by kernel_rfl) (fun _ _ _ h => h) (by rfl) (by assumption) ?_
              try simp only [Act.put, List.setIfInBounds_toArray, List.set_cons_zero, List.set_cons_succ]
              refine skipD 8 (some 47) rfl rfl (by kernel_rfl) (by kernel_rfl) (by kernel_rfl) (fun _ _ _ h => h) (by rfl) (by assumption) ?_
              try simp only [Act.put, List.setIfInBounds_toArray, List.set_cons_zero, List.set_cons_succ]
              refine skipD 9 (some 48) rfl rfl (by kernel_rfl) (by kernel_rfl) (by kernel_rfl) (fun _ _ _ h => h) (by rfl) (by assumption) ?_
              try simp only [Act.put, List.setIfInBounds_toArray, List.set_cons_zero, List.set_cons_succ]
              refine skipD 10 (some 49) rfl rfl (by kernel_rfl) (by kernel_rfl) (by kernel_rfl) (fun _ _ _ h => h) (by rfl) (by assumption) ?_
              try simp only [Act.put, List.setIfInBounds_toArray, List.set_cons_zero, List.set_cons_succ]
              refine skipD 11 (some 50) rfl rfl (by kernel_rfl) (by kernel_rfl) (by kernel_rfl) (fun _ _ _ h => h) (by rfl) (by assumption) ?_
              try simp only [Act.put, List.setIfInBounds_toArray, List.set_cons_zero, List.set_cons_succ]
              refine skipD 12 (some 51) rfl rfl (by kernel_rfl) (by kernel_rfl) (by kernel_rfl) (fun _ _ _ h => h) (by rfl) (by assumption) ?_
              try simp only [Act.put, List.setIfInBounds_toArray, List.set_cons_zero, List.set_cons_succ]
              refine skipD 13 (some 52) rfl rfl (by kernel_rfl) (by kernel_rfl) (by kernel_rfl) (fun _ _ _ h => h) (by rfl) (by assumption) ?_
              try simp only [Act.put, List.setIfInBounds_toArray, List.set_cons_zero, List.set_cons_succ]
              refine skipD 14 (some 53) rfl rfl (by kernel_rfl) (by kernel_rfl) (by kernel_rfl) (fun _ _ _ h => h) (by rfl) (by assumption) ?_
              try simp only [Act.put, List.setIfInBounds_toArray, List.set_cons_zero, List.set_cons_succ]
              refine skipD 15 (some 54) rfl rfl (by kernel_rfl) (by kernel_rfl) (by kernel_rfl) (fun _ _ _ h => h) (by rfl) (by assumption) ?_
              try simp only [Act.put, List.setIfInBounds_toArray, List.set_cons_zero, List.set_cons_succ]
              refine takeD 16 (some 55) (v := ?_) rfl rfl (by kernel_rfl) (by kernel_rfl) (by kernel_rfl) (fun _ _ _ h => h) (by rfl) ?_ (by assumption) ?_
              rotate_left
              · intro w hSw
                (try dsimp only at hSw)
                go_simp
                try with_reducible rfl
              try simp only [Act.put, List.setIfInBounds_toArray, List.set_cons_zero, List.set_cons_succ]
              refine wpAnyH_done (by kernel_rfl) ?_ _
              refine nmW (fun V => Below W.heap.size W V ∧ Row V (.slice none o.length oc) (o.map (.int .i64))) ⟨HBU.out.drew, HRU.out.below ((Below.refl _ _).drew)⟩ fun U9 ⟨hbV, hrV⟩ => ?_
              clear HBU HRU
              have HBU := Lib.hid hbV
              have HRU := Lib.hid hrV
              clear hbV hrV hHeld
              clear dB dT
              go_wp2_with fail
              have HPRE := Lib.hid (row_pre HRU.out (k := k) (by omega))
              have HLP := Lib.hid (show ((o.take k).map (Value.int .i64)).length = k by simp; omega)
              have HLS := Lib.hid (show ((o.drop k).map (Value.int .i64)).length = o.length - k by simp)
              have HSUF := Lib.hid (row_sufN HRU.out (k := k) (by omega))
              have hbX := Below.refl U9.heap.size U9
              have hkn : (k : Int) ≤ (o.length : Int) := by omega
              have hkc : (k : Int) ≤ (oc : Int) := by omega
              have hnc : (o.length : Int) ≤ (oc : Int) := by omega
              have dB : ∀ w', Below U9.heap.size U9 w' → ∀ i, w'.cell? ⟨w.heap.size, i, none⟩ = (#[.slice (some ad) l.length rc, .int .i64 hold, .bool latch] : Array Value)[i]? := fun w' hb => (HBW.out.below (Btrans HBU.out hb)).cells
              have dT : ∀ w', Below U9.heap.size U9 w' → w'.cell? ⟨(ad.add (j * 3)).block, (ad.add (j * 3)).off + 1, none⟩ = some (.int .i64 t.2.1) := fun w' hb => (row3_c (HROW.out.below (Btrans HBU.out hb)) HT.out).2.1
              refine wp_region_held_drew (S := fun w' => Below U9.heap.size U9 w') (by kernel_rfl) ((Below.refl _ _).drew) (fun hHeld => ?_)
              refine takeD 1 (some 57) (v := ?_) rfl rfl (by kernel_rfl) (by kernel_rfl) (by kernel_rfl) (fun _ _ _ h => h) (by rfl) ?_ (by assumption) ?_
              rotate_left
              · intro w hSw
                (try dsimp only at hSw)
                go_simp
                try with_reducible rfl
              try simp only [Act.put, List.setIfInBounds_toArray, List.set_cons_zero, List.set_cons_succ]
              refine takeD 2 (some 58) (v := ?_) rfl rfl (by kernel_rfl) (by kernel_rfl) (by kernel_rfl) (fun _ _ _ h => h) (by rfl) ?_ (by assumption) ?_
              rotate_left
              · intro w hSw
                (try dsimp only at hSw)
                go_simp
                try with_reducible rfl
              try simp only [Act.put, List.setIfInBounds_toArray, List.set_cons_zero, List.set_cons_succ]
              refine takeD 3 (some 59) (v := ?_) rfl rfl (by kernel_rfl) (by kernel_rfl) (by kernel_rfl) (fun _ _ _ h => h) (by rfl) ?_ (by assumption) ?_
              rotate_left
              · intro w hSw
                (try dsimp only at hSw)
                go_simp
                try with_reducible rfl
              try simp only [Act.put, List.setIfInBounds_toArray, List.set_cons_zero, List.set_cons_succ]
              refine takeD 5 (some 61) (v := ?_) rfl rfl (by kernel_rfl) (by kernel_rfl) (by kernel_rfl) (fun _ _ _ h => h) (by rfl) ?_ (by assumption) ?_
              rotate_left
              · intro w hSw
                (try dsimp only at hSw)
                go_simp
                try with_reducible rfl
              try simp only [Act.put, List.setIfInBounds_toArray, List.set_cons_zero, List.set_cons_succ]
              refine takeD 6 (some 62) (v := ?_) rfl rfl (by kernel_rfl) (by kernel_rfl) (by kernel_rfl) (fun _ _ _ h => h) (by rfl) ?_ (by assumption) ?_
              rotate_left
              · intro w hSw
                (try dsimp only at hSw)
                go_simp
                try with_reducible rfl
              try simp only [Act.put, List.setIfInBounds_toArray, List.set_cons_zero, List.set_cons_succ]
              refine takeD 7 (some 63) (v := ?_) rfl rfl (by kernel_rfl) (by kernel_rfl) (by kernel_rfl) (fun _ _ _ h => h) (by rfl) ?_ (by assumption) ?_
              rotate_left
              · intro w hSw
                (try dsimp only at hSw)
                go_simp
                try with_reducible rfl
              try simp only [Act.put, List.setIfInBounds_toArray, List.set_cons_zero, List.set_cons_succ]
              refine takeD 8 (some 64) (v := ?_) rfl rfl (by kernel_rfl) (by kernel_rfl) (by kernel_rfl) (fun _ _ _ h => h) (by rfl) ?_ (by assumption) ?_
              rotate_left
              · intro w hSw
                (try dsimp only at hSw)
                go_simp
                try with_reducible rfl
              try simp only [Act.put, List.setIfInBounds_toArray, List.set_cons_zero, List.set_cons_succ]
              refine takeD 9 (some 65) (v := ?_) rfl rfl (by kernel_rfl) (by kernel_rfl) (by kernel_rfl) (fun _ _ _ h => h) (by rfl) ?_ (by assumption) ?_
              rotate_left
              · intro w hSw
                (try dsimp only at hSw)
                go_simp
                try with_reducible rfl
              try simp only [Act.put, List.setIfInBounds_toArray, List.set_cons_zero, List.set_cons_succ]
              refine takeD 10 (some 66) (v := ?_) rfl rfl (by kernel_rfl) (by kernel_rfl) (by kernel_rfl) (fun _ _ _ h => h) (by rfl) ?_ (by assumption) ?_
              rotate_left
              · intro w hSw
                (try dsimp only at hSw)
                go_simp
                try with_reducible rfl
              try simp only [Act.put, List.setIfInBounds_toArray, List.set_cons_zero, List.set_cons_succ]
              refine takeD 13 (some 69) (v := ?_) rfl rfl (by kernel_rfl) (by kernel_rfl) (by kernel_rfl) (fun _ _ _ h => h) (by rfl) ?_ (by assumption) ?_
              rotate_left
              · intro w hSw
                (try dsimp only at hSw)
                go_simp
                try with_reducible rfl
              try simp only [Act.put, List.setIfInBounds_toArray, List.set_cons_zero, List.set_cons_succ]
              refine takeD 14 (some 70) (v := ?_) rfl rfl (by kernel_rfl) (by kernel_rfl) (by kernel_rfl) (fun _ _ _ h => h) (by rfl) ?_ (by assumption) ?_
              rotate_left
              · intro w hSw
                (try dsimp only at hSw)
                go_simp
                try with_reducible rfl
              try simp only [Act.put, List.setIfInBounds_toArray, List.set_cons_zero, List.set_cons_succ]
              refine takeD 15 (some 71) (v := ?_) rfl rfl (by kernel_rfl) (by kernel_rfl) (by kernel_rfl) (fun _ _ _ h => h) (by rfl) ?_ (by assumption) ?_
              rotate_left
              · intro w hSw
                (try dsimp only at hSw)
                go_simp
                try with_reducible rfl
              try simp only [Act.put, List.setIfInBounds_toArray, List.set_cons_zero, List.set_cons_succ]
              refine wpAnyH_ready (rs := [0, 11]) (by kernel_rfl) (by simp) ?_
              refine AllReadyH.cons rfl (fun K hK => ?_) (AllReadyH.cons rfl (fun K hK => ?_) AllReadyH.nil)
              · rw [if_pos (by rfl)]
                go_simp
                refine nmW (fun X1 => Below U9.heap.size U9 X1 ∧ World.ownsRow X1 U9.heap.size 3 1 (.slice (some ⟨U9.heap.size, 0, none⟩) 0 0) 0 []) ⟨(hbX.alloc hbX.size _).drew, (World.ownsRow.drew (own_empty _ _ _ _ hbX.size rfl))⟩ fun X1 ⟨hbX2, qHC⟩ => ?_
                have hbX := hbX2
                clear hbX2
                have HC := Lib.hid qHC
                clear qHC
                have hS := hbX
                refine hK.out _ _ ?_ (fun hHeld2 => ?_)
                · clear hK; exact hS
                clear hK K hHeld hS
                have hHeld := hHeld2
                clear hHeld2
                try simp only [Act.put, List.setIfInBounds_toArray, List.set_cons_zero, List.set_cons_succ]
                refine wpAnyH_ready (rs := [4, 11]) (by kernel_rfl) (by simp) ?_
                refine AllReadyH.cons rfl (fun K hK => ?_) (AllReadyH.cons rfl (fun K hK => ?_) AllReadyH.nil)
                · rw [if_pos (by rfl)]
                  refine wp_app el64 (.tmp 56) (.tmp 59) rfl U9.heap.size (.slice (some ⟨U9.heap.size, 0, none⟩) 0 0) 0 [] rfl HC.out _ ((o.take k).map (Value.int .i64)) rfl (HPRE.out.below hbX) (one_ints _ _) (by rw [HLP.out]; unfold maxLen; omega) (by rw [HLP.out]; omega) hbX.size ?_
                  intro v2 X2 hO hg hor
                  rw [HLP.out] at hO
                  have hbX2 := below_app hbX hbX.size HC.out hg (Nat.le_refl _)
                  rw [Nat.zero_add, List.nil_append] at hO
                  clear HC
                  have HC := Lib.hid hO
                  clear hO hg hor hbX
                  have hbX := hbX2
                  clear hbX2
                  have hS := hbX
                  refine hK.out _ _ ?_ (fun hHeld2 => ?_)
                  · clear hK; exact hS
                  clear hK K hHeld hS
                  have hHeld := hHeld2
                  clear hHeld2
                  try simp only [Act.put, List.setIfInBounds_toArray, List.set_cons_zero, List.set_cons_succ]
                  refine wpAnyH_ready (rs := [11]) (by kernel_rfl) (by simp) ?_
                  refine AllReadyH.cons rfl (fun K hK => ?_) AllReadyH.nil
                  rw [if_pos (by rfl)]
                  go_simp
                  have HNE := Lib.hid (show some X2.heap.size ≠ Value.ownBlock v2 from ne_some HC.out rfl)
                  refine nmW (fun X3 => Below U9.heap.size U9 X3 ∧ World.ownsRow X3 U9.heap.size 3 1 v2 k ((o.take k).map (.int .i64)) ∧ Blk X3 X2.heap.size 3 #[.int .i64 t.2.1]) ⟨hbX.alloc hbX.size _, (own_below HC.out ((Below.refl _ _).alloc (Nat.le_refl _) _)), (Blk.new _ _ _ _ rfl)⟩ fun X3 ⟨hbX2, qHC, qHN⟩ => ?_
                  clear HC
                  have hbX := hbX2
                  clear hbX2
                  have HC := Lib.hid qHC
                  clear qHC
                  have HN := Lib.hid qHN
                  clear qHN
                  have hS := hbX
                  refine hK.out _ _ ?_ (fun hHeld2 => ?_)
                  · clear hK; exact hS
                  clear hK K hHeld hS
                  have hHeld := hHeld2
                  clear hHeld2
                  try simp only [Act.put, List.setIfInBounds_toArray, List.set_cons_zero, List.set_cons_succ]
                  refine wpAnyH_ready (rs := [12]) (by kernel_rfl) (by simp) ?_
                  refine AllReadyH.cons rfl (fun K hK => ?_) AllReadyH.nil
                  rw [if_pos (by rfl)]
                  refine wp_app el64 (.tmp 60) (.tmp 67) rfl U9.heap.size v2 k ((o.take k).map (Value.int .i64)) rfl HC.out _ [Value.int .i64 t.2.1] rfl (Row.of_block HN.out rfl rfl (Nat.le_refl _) (by decide)) (one_ints _ [t.2.1]) (by rw [(show ([Value.int .i64 t.2.1] : List Value).length = 1 from rfl)]; unfold maxLen; omega) (by rw [(show ([Value.int .i64 t.2.1] : List Value).length = 1 from rfl)]; omega) hbX.size ?_
                  intro v3 X4 hO hg hor
                  rw [(show ([Value.int .i64 t.2.1] : List Value).length = 1 from rfl)] at hO
                  have hbX2 := below_app hbX hbX.size HC.out hg (Nat.le_refl _)
                  clear HN HNE
                  clear HC
                  have HC := Lib.hid hO
                  clear hO hg hor hbX
                  have hbX := hbX2
                  clear hbX2
                  have hS := hbX
                  refine hK.out _ _ ?_ (fun hHeld2 => ?_)
                  · clear hK; exact hS
                  clear hK K hHeld hS
                  have hHeld := hHeld2
                  clear hHeld2
                  try simp only [Act.put, List.setIfInBounds_toArray, List.set_cons_zero, List.set_cons_succ]
                  refine wpAnyH_ready (rs := [16]) (by kernel_rfl) (by simp) ?_
                  refine AllReadyH.cons rfl (fun K hK => ?_) AllReadyH.nil
                  rw [if_pos (by rfl)]
                  refine wp_app el64 (.tmp 68) (.tmp 71) rfl U9.heap.size v3 (k + 1) ((o.take k).map (Value.int .i64) ++ [Value.int .i64 t.2.1]) rfl HC.out _ ((o.drop k).map (Value.int .i64)) rfl (HSUF.out.below hbX) (one_ints _ _) (by rw [HLS.out]; unfold maxLen; omega) (by rw [HLS.out]; omega) hbX.size ?_
                  intro v4 X5 hO hg hor
                  rw [HLS.out] at hO
                  have hbX2 := below_app hbX hbX.size HC.out hg (Nat.le_refl _)
                  obtain ⟨A4, c4, rfl⟩ := own_shape hO
                  clear HC
                  have HC := Lib.hid hO
                  clear hO hg hor hbX
                  have hbX := hbX2
                  clear hbX2
                  have hS := hbX
                  refine hK.out _ _ ?_ (fun hHeld2 => ?_)
                  · clear hK; exact hS
                  clear hK K hHeld hS
                  have hHeld := hHeld2
                  clear hHeld2
                  try simp only [Act.put, List.setIfInBounds_toArray, List.set_cons_zero, List.set_cons_succ]
                  refine takeD 17 (some 3) (v := ?_) rfl rfl (by kernel_rfl) (by kernel_rfl) (by kernel_rfl) (fun _ _ _ h => h) (by rfl) ?_ (by assumption) ?_
                  rotate_left
                  · intro w hSw
                    (try dsimp only at hSw)
                    go_simp
                    try with_reducible rfl
                  try simp only [Act.put, List.setIfInBounds_toArray, List.set_cons_zero, List.set_cons_succ]
                  refine wpAnyH_done (by kernel_rfl) ?_ _
                  have HRF := Lib.hid (show ∃ A c, Value.slice A4 (k + 1 + (o.length - k)) c4 = .slice A (chO (l.take (j + 1))).length c ∧ Row X5 (.slice A (chO (l.take (j + 1))).length c) ((chO (l.take (j + 1))).map (.int .i64)) from by
                    have hr := Row.of_own HC.out
                    have he : k + 1 + (o.length - k) = (chO (l.take (j + 1))).length := by rw [HINS.out]; simp; omega
                    rw [he] at hr ⊢
                    rw [HINS.out] at hr ⊢
                    refine ⟨A4, c4, rfl, ?_⟩
                    simpa using hr)
                  have HBF := Lib.hid (Btrans HBU.out hbX)
                  clear dB dT hHeld
                  go_wp2
                  go_roundw
                  case rel => exact ⟨j + 1, by omega, by go_num, HBF.out, HRF.out⟩
                  case measure => simp [intOf]; omega
                · rw [if_pos (by rfl)]
                  go_simp
                  have HNE := Lib.hid (show some X1.heap.size ≠ Value.ownBlock (.slice (some ⟨U9.heap.size, 0, none⟩) 0 0) from ne_some HC.out rfl)
                  refine nmW (fun X2 => Below U9.heap.size U9 X2 ∧ World.ownsRow X2 U9.heap.size 3 1 (.slice (some ⟨U9.heap.size, 0, none⟩) 0 0) 0 [] ∧ Blk X2 X1.heap.size 3 #[.int .i64 t.2.1]) ⟨hbX.alloc hbX.size _, (own_below HC.out ((Below.refl _ _).alloc (Nat.le_refl _) _)), (Blk.new _ _ _ _ rfl)⟩ fun X2 ⟨hbX2, qHC, qHN⟩ => ?_
                  clear HC
                  have hbX := hbX2
                  clear hbX2
                  have HC := Lib.hid qHC
                  clear qHC
                  have HN := Lib.hid qHN
                  clear qHN
                  have hS := hbX
                  refine hK.out _ _ ?_ (fun hHeld2 => ?_)
                  · clear hK; exact hS
                  clear hK K hHeld hS
                  have hHeld := hHeld2
                  clear hHeld2
                  try simp only [Act.put, List.setIfInBounds_toArray, List.set_cons_zero, List.set_cons_succ]
                  refine wpAnyH_ready (rs := [4]) (by kernel_rfl) (by simp) ?_
                  refine AllReadyH.cons rfl (fun K hK => ?_) AllReadyH.nil
                  rw [if_pos (by rfl)]
                  refine wp_app el64 (.tmp 56) (.tmp 59) rfl U9.heap.size (.slice (some ⟨U9.heap.size, 0, none⟩) 0 0) 0 [] rfl HC.out _ ((o.take k).map (Value.int .i64)) rfl (HPRE.out.below hbX) (one_ints _ _) (by rw [HLP.out]; unfold maxLen; omega) (by rw [HLP.out]; omega) hbX.size ?_
                  intro v2 X3 hO hg hor
                  rw [HLP.out] at hO
                  have hbX2 := below_app hbX hbX.size HC.out hg (Nat.le_refl _)
                  rw [Nat.zero_add, List.nil_append] at hO
                  have HN2 := Lib.hid (show Blk _ _ _ _ from (hg.block _ HN.out.lt HNE.out).trans HN.out)
                  have HNE2 := Lib.hid (show some X1.heap.size ≠ Value.ownBlock v2 by rcases hor with e | e <;> rw [e] <;> first | exact HNE.out | (intro he; injection he with he; have := HN.out.lt; omega))
                  clear HN HNE
                  have HN := Lib.hid HN2.out
                  have HNE := Lib.hid HNE2.out
                  clear HN2 HNE2
                  clear HC
                  have HC := Lib.hid hO
                  clear hO hg hor hbX
                  have hbX := hbX2
                  clear hbX2
                  have hS := hbX
                  refine hK.out _ _ ?_ (fun hHeld2 => ?_)
                  · clear hK; exact hS
                  clear hK K hHeld hS
                  have hHeld := hHeld2
                  clear hHeld2
                  try simp only [Act.put, List.setIfInBounds_toArray, List.set_cons_zero, List.set_cons_succ]
                  refine wpAnyH_ready (rs := [12]) (by kernel_rfl) (by simp) ?_
                  refine AllReadyH.cons rfl (fun K hK => ?_) AllReadyH.nil
                  rw [if_pos (by rfl)]
                  refine wp_app el64 (.tmp 60) (.tmp 67) rfl U9.heap.size v2 k ((o.take k).map (Value.int .i64)) rfl HC.out _ [Value.int .i64 t.2.1] rfl (Row.of_block HN.out rfl rfl (Nat.le_refl _) (by decide)) (one_ints _ [t.2.1]) (by rw [(show ([Value.int .i64 t.2.1] : List Value).length = 1 from rfl)]; unfold maxLen; omega) (by rw [(show ([Value.int .i64 t.2.1] : List Value).length = 1 from rfl)]; omega) hbX.size ?_
                  intro v3 X4 hO hg hor
                  rw [(show ([Value.int .i64 t.2.1] : List Value).length = 1 from rfl)] at hO
                  have hbX2 := below_app hbX hbX.size HC.out hg (Nat.le_refl _)
                  clear HN HNE
                  clear HC
                  have HC := Lib.hid hO
                  clear hO hg hor hbX
                  have hbX := hbX2
                  clear hbX2
                  have hS := hbX
                  refine hK.out _ _ ?_ (fun hHeld2 => ?_)
                  · clear hK; exact hS
                  clear hK K hHeld hS
                  have hHeld := hHeld2
                  clear hHeld2
                  try simp only [Act.put, List.setIfInBounds_toArray, List.set_cons_zero, List.set_cons_succ]
                  refine wpAnyH_ready (rs := [16]) (by kernel_rfl) (by simp) ?_
                  refine AllReadyH.cons rfl (fun K hK => ?_) AllReadyH.nil
                  rw [if_pos (by rfl)]
                  refine wp_app el64 (.tmp 68) (.tmp 71) rfl U9.heap.size v3 (k + 1) ((o.take k).map (Value.int .i64) ++ [Value.int .i64 t.2.1]) rfl HC.out _ ((o.drop k).map (Value.int .i64)) rfl (HSUF.out.below hbX) (one_ints _ _) (by rw [HLS.out]; unfold maxLen; omega) (by rw [HLS.out]; omega) hbX.size ?_
                  intro v4 X5 hO hg hor
                  rw [HLS.out] at hO
                  have hbX2 := below_app hbX hbX.size HC.out hg (Nat.le_refl _)
                  obtain ⟨A4, c4, rfl⟩ := own_shape hO
                  clear HC
                  have HC := Lib.hid hO
                  clear hO hg hor hbX
                  have hbX := hbX2
                  clear hbX2
                  have hS := hbX
                  refine hK.out _ _ ?_ (fun hHeld2 => ?_)
                  · clear hK; exact hS
                  clear hK K hHeld hS
                  have hHeld := hHeld2
                  clear hHeld2
                  try simp only [Act.put, List.setIfInBounds_toArray, List.set_cons_zero, List.set_cons_succ]
                  refine takeD 17 (some 3) (v := ?_) rfl rfl (by kernel_rfl) (by kernel_rfl) (by kernel_rfl) (fun _ _ _ h => h) (by rfl) ?_ (by assumption) ?_
                  rotate_left
                  · intro w hSw
                    (try dsimp only at hSw)
                    go_simp
                    try with_reducible rfl
                  try simp only [Act.put, List.setIfInBounds_toArray, List.set_cons_zero, List.set_cons_succ]
                  refine wpAnyH_done (by kernel_rfl) ?_ _
                  have HRF := Lib.hid (show ∃ A c, Value.slice A4 (k + 1 + (o.length - k)) c4 = .slice A (chO (l.take (j + 1))).length c ∧ Row X5 (.slice A (chO (l.take (j + 1))).length c) ((chO (l.take (j + 1))).map (.int .i64)) from by
                    have hr := Row.of_own HC.out
                    have he : k + 1 + (o.length - k) = (chO (l.take (j + 1))).length := by rw [HINS.out]; simp; omega
                    rw [he] at hr ⊢
                    rw [HINS.out] at hr ⊢
                    refine ⟨A4, c4, rfl, ?_⟩
                    simpa using hr)
                  have HBF := Lib.hid (Btrans HBU.out hbX)
                  clear dB dT hHeld
                  go_wp2
                  go_roundw
                  case rel => exact ⟨j + 1, by omega, by go_num, HBF.out, HRF.out⟩
                  case measure => simp [intOf]; omega
              · rw [if_pos (by rfl)]
                go_simp
                refine nmW (fun X1 => Below U9.heap.size U9 X1 ∧ Blk X1 U9.heap.size 3 #[.int .i64 t.2.1]) ⟨(hbX.alloc hbX.size _).drew, (Blk.drw (Blk.new _ _ _ _ rfl))⟩ fun X1 ⟨hbX2, qHN⟩ => ?_
                have hbX := hbX2
                clear hbX2
                have HN := Lib.hid qHN
                clear qHN
                have hS := hbX
                refine hK.out _ _ ?_ (fun hHeld2 => ?_)
                · clear hK; exact hS
                clear hK K hHeld hS
                have hHeld := hHeld2
                clear hHeld2
                try simp only [Act.put, List.setIfInBounds_toArray, List.set_cons_zero, List.set_cons_succ]
                refine wpAnyH_ready (rs := [0]) (by kernel_rfl) (by simp) ?_
                refine AllReadyH.cons rfl (fun K hK => ?_) AllReadyH.nil
                rw [if_pos (by rfl)]
                go_simp
                have HNE := Lib.hid (show some U9.heap.size ≠ Value.ownBlock (.slice (some ⟨X1.heap.size, 0, none⟩) 0 0) from (by intro he; have := HN.out.lt; simp [Value.ownBlock] at he; omega))
                refine nmW (fun X2 => Below U9.heap.size U9 X2 ∧ World.ownsRow X2 U9.heap.size 3 1 (.slice (some ⟨X1.heap.size, 0, none⟩) 0 0) 0 [] ∧ Blk X2 U9.heap.size 3 #[.int .i64 t.2.1]) ⟨hbX.alloc hbX.size _, (own_empty _ _ _ _ hbX.size rfl), (HN.out.al _)⟩ fun X2 ⟨hbX2, qHC, qHN⟩ => ?_
                clear HN
                have hbX := hbX2
                clear hbX2
                have HC := Lib.hid qHC
                clear qHC
                have HN := Lib.hid qHN
                clear qHN
                have hS := hbX
                refine hK.out _ _ ?_ (fun hHeld2 => ?_)
                · clear hK; exact hS
                clear hK K hHeld hS
                have hHeld := hHeld2
                clear hHeld2
                try simp only [Act.put, List.setIfInBounds_toArray, List.set_cons_zero, List.set_cons_succ]
                refine wpAnyH_ready (rs := [4]) (by kernel_rfl) (by simp) ?_
                refine AllReadyH.cons rfl (fun K hK => ?_) AllReadyH.nil
                rw [if_pos (by rfl)]
                refine wp_app el64 (.tmp 56) (.tmp 59) rfl U9.heap.size (.slice (some ⟨X1.heap.size, 0, none⟩) 0 0) 0 [] rfl HC.out _ ((o.take k).map (Value.int .i64)) rfl (HPRE.out.below hbX) (one_ints _ _) (by rw [HLP.out]; unfold maxLen; omega) (by rw [HLP.out]; omega) hbX.size ?_
                intro v2 X3 hO hg hor
                rw [HLP.out] at hO
                have hbX2 := below_app hbX hbX.size HC.out hg (Nat.le_refl _)
                rw [Nat.zero_add, List.nil_append] at hO
                have HN2 := Lib.hid (show Blk _ _ _ _ from (hg.block _ HN.out.lt HNE.out).trans HN.out)
                have HNE2 := Lib.hid (show some U9.heap.size ≠ Value.ownBlock v2 by rcases hor with e | e <;> rw [e] <;> first | exact HNE.out | (intro he; injection he with he; have := HN.out.lt; omega))
                clear HN HNE
                have HN := Lib.hid HN2.out
                have HNE := Lib.hid HNE2.out
                clear HN2 HNE2
                clear HC
                have HC := Lib.hid hO
                clear hO hg hor hbX
                have hbX := hbX2
                clear hbX2
                have hS := hbX
                refine hK.out _ _ ?_ (fun hHeld2 => ?_)
                · clear hK; exact hS
                clear hK K hHeld hS
                have hHeld := hHeld2
                clear hHeld2
                try simp only [Act.put, List.setIfInBounds_toArray, List.set_cons_zero, List.set_cons_succ]
                refine wpAnyH_ready (rs := [12]) (by kernel_rfl) (by simp) ?_
                refine AllReadyH.cons rfl (fun K hK => ?_) AllReadyH.nil
                rw [if_pos (by rfl)]
                refine wp_app el64 (.tmp 60) (.tmp 67) rfl U9.heap.size v2 k ((o.take k).map (Value.int .i64)) rfl HC.out _ [Value.int .i64 t.2.1] rfl (Row.of_block HN.out rfl rfl (Nat.le_refl _) (by decide)) (one_ints _ [t.2.1]) (by rw [(show ([Value.int .i64 t.2.1] : List Value).length = 1 from rfl)]; unfold maxLen; omega) (by rw [(show ([Value.int .i64 t.2.1] : List Value).length = 1 from rfl)]; omega) hbX.size ?_
                intro v3 X4 hO hg hor
                rw [(show ([Value.int .i64 t.2.1] : List Value).length = 1 from rfl)] at hO
                have hbX2 := below_app hbX hbX.size HC.out hg (Nat.le_refl _)
                clear HN HNE
                clear HC
                have HC := Lib.hid hO
                clear hO hg hor hbX
                have hbX := hbX2
                clear hbX2
                have hS := hbX
                refine hK.out _ _ ?_ (fun hHeld2 => ?_)
                · clear hK; exact hS
                clear hK K hHeld hS
                have hHeld := hHeld2
                clear hHeld2
                try simp only [Act.put, List.setIfInBounds_toArray, List.set_cons_zero, List.set_cons_succ]
                refine wpAnyH_ready (rs := [16]) (by kernel_rfl) (by simp) ?_
                refine AllReadyH.cons rfl (fun K hK => ?_) AllReadyH.nil
                rw [if_pos (by rfl)]
                refine wp_app el64 (.tmp 68) (.tmp 71) rfl U9.heap.size v3 (k + 1) ((o.take k).map (Value.int .i64) ++ [Value.int .i64 t.2.1]) rfl HC.out _ ((o.drop k).map (Value.int .i64)) rfl (HSUF.out.below hbX) (one_ints _ _) (by rw [HLS.out]; unfold maxLen; omega) (by rw [HLS.out]; omega) hbX.size ?_
                intro v4 X5 hO hg hor
                rw [HLS.out] at hO
                have hbX2 := below_app hbX hbX.size HC.out hg (Nat.le_refl _)
                obtain ⟨A4, c4, rfl⟩ := own_shape hO
                clear HC
                have HC := Lib.hid hO
                clear hO hg hor hbX
                have hbX := hbX2
                clear hbX2
                have hS := hbX
                refine hK.out _ _ ?_ (fun hHeld2 => ?_)
                · clear hK; exact hS
                clear hK K hHeld hS
                have hHeld := hHeld2
                clear hHeld2
                try simp only [Act.put, List.setIfInBounds_toArray, List.set_cons_zero, List.set_cons_succ]
                refine takeD 17 (some 3) (v := ?_) rfl rfl (by kernel_rfl) (by kernel_rfl) (by kernel_rfl) (fun _ _ _ h => h) (by rfl) ?_ (by assumption) ?_
                rotate_left
                · intro w hSw
                  (try dsimp only at hSw)
                  go_simp
                  try with_reducible rfl
                try simp only [Act.put, List.setIfInBounds_toArray, List.set_cons_zero, List.set_cons_succ]
                refine wpAnyH_done (by kernel_rfl) ?_ _
                have HRF := Lib.hid (show ∃ A c, Value.slice A4 (k + 1 + (o.length - k)) c4 = .slice A (chO (l.take (j + 1))).length c ∧ Row X5 (.slice A (chO (l.take (j + 1))).length c) ((chO (l.take (j + 1))).map (.int .i64)) from by
                  have hr := Row.of_own HC.out
                  have he : k + 1 + (o.length - k) = (chO (l.take (j + 1))).length := by rw [HINS.out]; simp; omega
                  rw [he] at hr ⊢
                  rw [HINS.out] at hr ⊢
                  refine ⟨A4, c4, rfl, ?_⟩
                  simpa using hr)
                have HBF := Lib.hid (Btrans HBU.out hbX)
                clear dB dT hHeld
                go_wp2
                go_roundw
                case rel => exact ⟨j + 1, by omega, by go_num, HBF.out, HRF.out⟩
                case measure => simp [intOf]; omega
            | some od =>
              go_wp2_with fail
              have dB : ∀ w', Below U7.heap.size U7 w' → ∀ i, w'.cell? ⟨w.heap.size, i, none⟩ = (#[.slice (some ad) l.length rc, .int .i64 hold, .bool latch] : Array Value)[i]? := fun w' hb => (HBW.out.below (Btrans HBU.out hb)).cells
              have dT : ∀ w', Below U7.heap.size U7 w' → w'.cell? ⟨(ad.add (j * 3)).block, (ad.add (j * 3)).off + 1, none⟩ = some (.int .i64 t.2.1) := fun w' hb => (row3_c (HROW.out.below (Btrans HBU.out hb)) HT.out).2.1
              refine wp_region_held_drew (S := fun w' => Below U7.heap.size U7 w') (by kernel_rfl) ((Below.refl _ _).drew) (fun hHeld => ?_)
              refine takeD 0 (some 20) (v := ?_) rfl rfl (by kernel_rfl) (by kernel_rfl) (by kernel_rfl) (fun _ _ _ h => h) (by rfl) ?_ (by assumption) ?_
              rotate_left
              · intro w hSw
                (try dsimp only at hSw)
                go_simp
                try with_reducible rfl
              try simp only [Act.put, List.setIfInBounds_toArray, List.set_cons_zero, List.set_cons_succ]
              refine takeD 1 (some 21) (v := ?_) rfl rfl (by kernel_rfl) (by kernel_rfl) (by kernel_rfl) (fun _ _ _ h => h) (by rfl) ?_ (by assumption) ?_
              rotate_left
              · intro w hSw
                (try dsimp only at hSw)
                go_simp
                try with_reducible rfl
              try simp only [Act.put, List.setIfInBounds_toArray, List.set_cons_zero, List.set_cons_succ]
              refine takeD 2 (some 22) (v := ?_) rfl rfl (by kernel_rfl) (by kernel_rfl) (by kernel_rfl) (fun _ _ _ h => h) (by rfl) ?_ (by assumption) ?_
              rotate_left
              · intro w hSw
                (try dsimp only at hSw)
                go_simp
                try with_reducible rfl
              try simp only [Act.put, List.setIfInBounds_toArray, List.set_cons_zero, List.set_cons_succ]
              refine takeD 3 (some 23) (v := ?_) rfl rfl (by kernel_rfl) (by kernel_rfl) (by kernel_rfl) (fun _ _ _ h => h) (by rfl) ?_ (by assumption) ?_
              rotate_left
              · intro w hSw
                (try dsimp only at hSw)
                go_simp
                try with_reducible rfl
              try simp only [Act.put, List.setIfInBounds_toArray, List.set_cons_zero, List.set_cons_succ]
              refine takeD 4 (some 24) (v := ?_) rfl rfl (by kernel_rfl) (by kernel_rfl) (by kernel_rfl) (fun _ _ _ h => h) (by rfl) ?_ (by assumption) ?_
              rotate_left
              · intro w hSw
                (try dsimp only at hSw)
                go_simp
                try with_reducible rfl
              try simp only [Act.put, List.setIfInBounds_toArray, List.set_cons_zero, List.set_cons_succ]
              refine skipD 5 (some 25) rfl rfl (by kernel_rfl) (by kernel_rfl) (by kernel_rfl) (fun _ _ _ h => h) (by rfl) (by assumption) ?_
              try simp only [Act.put, List.setIfInBounds_toArray, List.set_cons_zero, List.set_cons_succ]
              refine skipD 6 (some 26) rfl rfl (by kernel_rfl) (by kernel_rfl) (by kernel_rfl) (fun _ _ _ h => h) (by rfl) (by assumption) ?_
              try simp only [Act.put, List.setIfInBounds_toArray, List.set_cons_zero, List.set_cons_succ]
              refine skipD 7 (some 27) rfl rfl (by kernel_rfl) (by kernel_rfl) (by kernel_rfl) (fun _ _ _ h => h) (by rfl) (by assumption) ?_
              try simp only [Act.put, List.setIfInBounds_toArray, List.set_cons_zero, List.set_cons_succ]
              refine skipD 8 (some 28) rfl rfl (by kernel_rfl) (by kernel_rfl) (by kernel_rfl) (fun _ _ _ h => h) (by rfl) (by assumption) ?_
              try simp only [Act.put, List.setIfInBounds_toArray, List.set_cons_zero, List.set_cons_succ]
              refine skipD 9 (some 29) rfl rfl (by kernel_rfl) (by kernel_rfl) (by kernel_rfl) (fun _ _ _ h => h) (by rfl) (by assumption) ?_
              try simp only [Act.put, List.setIfInBounds_toArray, List.set_cons_zero, List.set_cons_succ]
              refine skipD 10 (some 30) rfl rfl (by kernel_rfl) (by kernel_rfl) (by kernel_rfl) (fun _ _ _ h => h) (by rfl) (by assumption) ?_
              try simp only [Act.put, List.setIfInBounds_toArray, List.set_cons_zero, List.set_cons_succ]
              refine skipD 11 (some 31) rfl rfl (by kernel_rfl) (by kernel_rfl) (by kernel_rfl) (fun _ _ _ h => h) (by rfl) (by assumption) ?_
              try simp only [Act.put, List.setIfInBounds_toArray, List.set_cons_zero, List.set_cons_succ]
              refine skipD 12 (some 32) rfl rfl (by kernel_rfl) (by kernel_rfl) (by kernel_rfl) (fun _ _ _ h => h) (by rfl) (by assumption) ?_
              try simp only [Act.put, List.setIfInBounds_toArray, List.set_cons_zero, List.set_cons_succ]
              refine skipD 13 (some 33) rfl rfl (by kernel_rfl) (by kernel_rfl) (by kernel_rfl) (fun _ _ _ h => h) (by rfl) (by assumption) ?_
              try simp only [Act.put, List.setIfInBounds_toArray, List.set_cons_zero, List.set_cons_succ]
              refine skipD 14 (some 34) rfl rfl (by kernel_rfl) (by kernel_rfl) (by kernel_rfl) (fun _ _ _ h => h) (by rfl) (by assumption) ?_
              try simp only [Act.put, List.setIfInBounds_toArray, List.set_cons_zero, List.set_cons_succ]
              refine skipD 15 (some 35) rfl rfl (by kernel_rfl) (by kernel_rfl) (by kernel_rfl) (fun _ _ _ h => h) (by rfl) (by assumption) ?_
              try simp only [Act.put, List.setIfInBounds_toArray, List.set_cons_zero, List.set_cons_succ]
              refine takeD 16 (some 36) (v := ?_) rfl rfl (by kernel_rfl) (by kernel_rfl) (by kernel_rfl) (fun _ _ _ h => h) (by rfl) ?_ (by assumption) ?_
              rotate_left
              · intro w hSw
                (try dsimp only at hSw)
                go_simp
                try with_reducible rfl
              try simp only [Act.put, List.setIfInBounds_toArray, List.set_cons_zero, List.set_cons_succ]
              refine wpAnyH_done (by kernel_rfl) ?_ _
              refine nmW (fun V => Below W.heap.size W V ∧ Row V (.slice (some od) o.length oc) (o.map (.int .i64))) ⟨HBU.out.drew, HRU.out.below ((Below.refl _ _).drew)⟩ fun U8 ⟨hbV, hrV⟩ => ?_
              clear HBU HRU
              have HBU := Lib.hid hbV
              have HRU := Lib.hid hrV
              clear hbV hrV hHeld
              clear dB dT
              go_wp2_with fail
              have qe : ((k : Int) == (o.length : Int)) = true := by rw [beq_iff_eq]; omega
              have qe3 : (k == o.length) = true := by rw [beq_iff_eq]; omega
              have dB : ∀ w', Below U8.heap.size U8 w' → ∀ i, w'.cell? ⟨w.heap.size, i, none⟩ = (#[.slice (some ad) l.length rc, .int .i64 hold, .bool latch] : Array Value)[i]? := fun w' hb => (HBW.out.below (Btrans HBU.out hb)).cells
              have dT : ∀ w', Below U8.heap.size U8 w' → w'.cell? ⟨(ad.add (j * 3)).block, (ad.add (j * 3)).off + 1, none⟩ = some (.int .i64 t.2.1) := fun w' hb => (row3_c (HROW.out.below (Btrans HBU.out hb)) HT.out).2.1
              refine wp_region_held_drew (S := fun w' => Below U8.heap.size U8 w') (by kernel_rfl) ((Below.refl _ _).drew) (fun hHeld => ?_)
              refine takeD 0 (some 39) (v := ?_) rfl rfl (by kernel_rfl) (by kernel_rfl) (by kernel_rfl) (fun _ _ _ h => h) (by rfl) ?_ (by assumption) ?_
              rotate_left
              · intro w hSw
                (try dsimp only at hSw)
                go_simp
                try with_reducible rfl
              try simp only [Act.put, List.setIfInBounds_toArray, List.set_cons_zero, List.set_cons_succ]
              refine takeD 1 (some 40) (v := ?_) rfl rfl (by kernel_rfl) (by kernel_rfl) (by kernel_rfl) (fun _ _ _ h => h) (by rfl) ?_ (by assumption) ?_
              rotate_left
              · intro w hSw
                (try dsimp only at hSw)
                go_simp
                try with_reducible rfl
              try simp only [Act.put, List.setIfInBounds_toArray, List.set_cons_zero, List.set_cons_succ]
              refine takeD 2 (some 41) (v := ?_) rfl rfl (by kernel_rfl) (by kernel_rfl) (by kernel_rfl) (fun _ _ _ h => h) (by rfl) ?_ (by assumption) ?_
              rotate_left
              · intro w hSw
                (try dsimp only at hSw)
                go_simp
                try with_reducible rfl
              try simp only [Act.put, List.setIfInBounds_toArray, List.set_cons_zero, List.set_cons_succ]
              refine takeD 3 (some 42) (v := ?_) rfl rfl (by kernel_rfl) (by kernel_rfl) (by kernel_rfl) (fun _ _ _ h => h) (by rfl) ?_ (by assumption) ?_
              rotate_left
              · intro w hSw
                (try dsimp only at hSw)
                go_simp
                try with_reducible rfl
              try simp only [Act.put, List.setIfInBounds_toArray, List.set_cons_zero, List.set_cons_succ]
              refine takeD 4 (some 43) (v := ?_) rfl rfl (by kernel_rfl) (by kernel_rfl) (by kernel_rfl) (fun _ _ _ h => h) (by rfl) ?_ (by assumption) ?_
              rotate_left
              · intro w hSw
                (try dsimp only at hSw)
                go_simp
                try with_reducible rfl
              try simp only [Act.put, List.setIfInBounds_toArray, List.set_cons_zero, List.set_cons_succ]
              refine skipD 5 (some 44) rfl rfl (by kernel_rfl) (by kernel_rfl) (by kernel_rfl) (fun _ _ _ h => h) (by rfl) (by assumption) ?_
              try simp only [Act.put, List.setIfInBounds_toArray, List.set_cons_zero, List.set_cons_succ]
              refine skipD 6 (some 45) rfl rfl (by kernel_rfl) (by kernel_rfl) (by kernel_rfl) (fun _ _ _ h => h) (by rfl) (by assumption) ?_
              try simp only [Act.put, List.setIfInBounds_toArray, List.set_cons_zero, List.set_cons_succ]
              refine skipD 7 (some 46) rfl rfl (by kernel_rfl) (by kernel_rfl) (by kernel_rfl) (fun _ _ _ h => h) (by rfl) (by assumption) ?_
              try simp only [Act.put, List.setIfInBounds_toArray, List.set_cons_zero, List.set_cons_succ]
              refine skipD 8 (some 47) rfl rfl (by kernel_rfl) (by kernel_rfl) (by kernel_rfl) (fun _ _ _ h => h) (by rfl) (by assumption) ?_
              try simp only [Act.put, List.setIfInBounds_toArray, List.set_cons_zero, List.set_cons_succ]
              refine skipD 9 (some 48) rfl rfl (by kernel_rfl) (by kernel_rfl) (by kernel_rfl) (fun _ _ _ h => h) (by rfl) (by assumption) ?_
              try simp only [Act.put, List.setIfInBounds_toArray, List.set_cons_zero, List.set_cons_succ]
              refine skipD 10 (some 49) rfl rfl (by kernel_rfl) (by kernel_rfl) (by kernel_rfl) (fun _ _ _ h => h) (by rfl) (by assumption) ?_
              try simp only [Act.put, List.setIfInBounds_toArray, List.set_cons_zero, List.set_cons_succ]
              refine skipD 11 (some 50) rfl rfl (by kernel_rfl) (by kernel_rfl) (by kernel_rfl) (fun _ _ _ h => h) (by rfl) (by assumption) ?_
              try simp only [Act.put, List.setIfInBounds_toArray, List.set_cons_zero, List.set_cons_succ]
              refine skipD 12 (some 51) rfl rfl (by kernel_rfl) (by kernel_rfl) (by kernel_rfl) (fun _ _ _ h => h) (by rfl) (by assumption) ?_
              try simp only [Act.put, List.setIfInBounds_toArray, List.set_cons_zero, List.set_cons_succ]
              refine skipD 13 (some 52) rfl rfl (by kernel_rfl) (by kernel_rfl) (by kernel_rfl) (fun _ _ _ h => h) (by rfl) (by assumption) ?_
              try simp only [Act.put, List.setIfInBounds_toArray, List.set_cons_zero, List.set_cons_succ]
              refine skipD 14 (some 53) rfl rfl (by kernel_rfl) (by kernel_rfl) (by kernel_rfl) (fun _ _ _ h => h) (by rfl) (by assumption) ?_
              try simp only [Act.put, List.setIfInBounds_toArray, List.set_cons_zero, List.set_cons_succ]
              refine skipD 15 (some 54) rfl rfl (by kernel_rfl) (by kernel_rfl) (by kernel_rfl) (fun _ _ _ h => h) (by rfl) (by assumption) ?_
              try simp only [Act.put, List.setIfInBounds_toArray, List.set_cons_zero, List.set_cons_succ]
              refine takeD 16 (some 55) (v := ?_) rfl rfl (by kernel_rfl) (by kernel_rfl) (by kernel_rfl) (fun _ _ _ h => h) (by rfl) ?_ (by assumption) ?_
              rotate_left
              · intro w hSw
                (try dsimp only at hSw)
                go_simp
                try with_reducible rfl
              try simp only [Act.put, List.setIfInBounds_toArray, List.set_cons_zero, List.set_cons_succ]
              refine wpAnyH_done (by kernel_rfl) ?_ _
              refine nmW (fun V => Below W.heap.size W V ∧ Row V (.slice (some od) o.length oc) (o.map (.int .i64))) ⟨HBU.out.drew, HRU.out.below ((Below.refl _ _).drew)⟩ fun U9 ⟨hbV, hrV⟩ => ?_
              clear HBU HRU
              have HBU := Lib.hid hbV
              have HRU := Lib.hid hrV
              clear hbV hrV hHeld
              clear dB dT
              go_wp2_with fail
              have HPRE := Lib.hid (row_pre HRU.out (k := k) (by omega))
              have HLP := Lib.hid (show ((o.take k).map (Value.int .i64)).length = k by simp; omega)
              have HLS := Lib.hid (show ((o.drop k).map (Value.int .i64)).length = o.length - k by simp)
              have HSUF := Lib.hid (row_suf HRU.out (k := k) (by omega))
              have hbX := Below.refl U9.heap.size U9
              have hkn : (k : Int) ≤ (o.length : Int) := by omega
              have hkc : (k : Int) ≤ (oc : Int) := by omega
              have hnc : (o.length : Int) ≤ (oc : Int) := by omega
              have dB : ∀ w', Below U9.heap.size U9 w' → ∀ i, w'.cell? ⟨w.heap.size, i, none⟩ = (#[.slice (some ad) l.length rc, .int .i64 hold, .bool latch] : Array Value)[i]? := fun w' hb => (HBW.out.below (Btrans HBU.out hb)).cells
              have dT : ∀ w', Below U9.heap.size U9 w' → w'.cell? ⟨(ad.add (j * 3)).block, (ad.add (j * 3)).off + 1, none⟩ = some (.int .i64 t.2.1) := fun w' hb => (row3_c (HROW.out.below (Btrans HBU.out hb)) HT.out).2.1
              refine wp_region_held_drew (S := fun w' => Below U9.heap.size U9 w') (by kernel_rfl) ((Below.refl _ _).drew) (fun hHeld => ?_)
              refine takeD 1 (some 57) (v := ?_) rfl rfl (by kernel_rfl) (by kernel_rfl) (by kernel_rfl) (fun _ _ _ h => h) (by rfl) ?_ (by assumption) ?_
              rotate_left
              · intro w hSw
                (try dsimp only at hSw)
                go_simp
                try with_reducible rfl
              try simp only [Act.put, List.setIfInBounds_toArray, List.set_cons_zero, List.set_cons_succ]
              refine takeD 2 (some 58) (v := ?_) rfl rfl (by kernel_rfl) (by kernel_rfl) (by kernel_rfl) (fun _ _ _ h => h) (by rfl) ?_ (by assumption) ?_
              rotate_left
              · intro w hSw
                (try dsimp only at hSw)
                go_simp
                try with_reducible rfl
              try simp only [Act.put, List.setIfInBounds_toArray, List.set_cons_zero, List.set_cons_succ]
              refine takeD 3 (some 59) (v := ?_) rfl rfl (by kernel_rfl) (by kernel_rfl) (by kernel_rfl) (fun _ _ _ h => h) (by rfl) ?_ (by assumption) ?_
              rotate_left
              · intro w hSw
                (try dsimp only at hSw)
                go_simp
                try with_reducible rfl
              try simp only [Act.put, List.setIfInBounds_toArray, List.set_cons_zero, List.set_cons_succ]
              refine takeD 5 (some 61) (v := ?_) rfl rfl (by kernel_rfl) (by kernel_rfl) (by kernel_rfl) (fun _ _ _ h => h) (by rfl) ?_ (by assumption) ?_
              rotate_left
              · intro w hSw
                (try dsimp only at hSw)
                go_simp
                try with_reducible rfl
              try simp only [Act.put, List.setIfInBounds_toArray, List.set_cons_zero, List.set_cons_succ]
              refine takeD 6 (some 62) (v := ?_) rfl rfl (by kernel_rfl) (by kernel_rfl) (by kernel_rfl) (fun _ _ _ h => h) (by rfl) ?_ (by assumption) ?_
              rotate_left
              · intro w hSw
                (try dsimp only at hSw)
                go_simp
                try with_reducible rfl
              try simp only [Act.put, List.setIfInBounds_toArray, List.set_cons_zero, List.set_cons_succ]
              refine takeD 7 (some 63) (v := ?_) rfl rfl (by kernel_rfl) (by kernel_rfl) (by kernel_rfl) (fun _ _ _ h => h) (by rfl) ?_ (by assumption) ?_
              rotate_left
              · intro w hSw
                (try dsimp only at hSw)
                go_simp
                try with_reducible rfl
              try simp only [Act.put, List.setIfInBounds_toArray, List.set_cons_zero, List.set_cons_succ]
              refine takeD 8 (some 64) (v := ?_) rfl rfl (by kernel_rfl) (by kernel_rfl) (by kernel_rfl) (fun _ _ _ h => h) (by rfl) ?_ (by assumption) ?_
              rotate_left
              · intro w hSw
                (try dsimp only at hSw)
                go_simp
                try with_reducible rfl
              try simp only [Act.put, List.setIfInBounds_toArray, List.set_cons_zero, List.set_cons_succ]
              refine takeD 9 (some 65) (v := ?_) rfl rfl (by kernel_rfl) (by kernel_rfl) (by kernel_rfl) (fun _ _ _ h => h) (by rfl) ?_ (by assumption) ?_
              rotate_left
              · intro w hSw
                (try dsimp only at hSw)
                go_simp
                try with_reducible rfl
              try simp only [Act.put, List.setIfInBounds_toArray, List.set_cons_zero, List.set_cons_succ]
              refine takeD 10 (some 66) (v := ?_) rfl rfl (by kernel_rfl) (by kernel_rfl) (by kernel_rfl) (fun _ _ _ h => h) (by rfl) ?_ (by assumption) ?_
              rotate_left
              · intro w hSw
                (try dsimp only at hSw)
                go_simp
                try with_reducible rfl
              try simp only [Act.put, List.setIfInBounds_toArray, List.set_cons_zero, List.set_cons_succ]
              refine takeD 13 (some 69) (v := ?_) rfl rfl (by kernel_rfl) (by kernel_rfl) (by kernel_rfl) (fun _ _ _ h => h) (by rfl) ?_ (by assumption) ?_
              rotate_left
              · intro w hSw
                (try dsimp only at hSw)
                go_simp
                try with_reducible rfl
              try simp only [Act.put, List.setIfInBounds_toArray, List.set_cons_zero, List.set_cons_succ]
              refine takeD 14 (some 70) (v := ?_) rfl rfl (by kernel_rfl) (by kernel_rfl) (by kernel_rfl) (fun _ _ _ h => h) (by rfl) ?_ (by assumption) ?_
              rotate_left
              · intro w hSw
                (try dsimp only at hSw)
                go_simp
                try with_reducible rfl
              try simp only [Act.put, List.setIfInBounds_toArray, List.set_cons_zero, List.set_cons_succ]
              refine takeD 15 (some 71) (v := ?_) rfl rfl (by kernel_rfl) (by kernel_rfl) (by kernel_rfl) (fun _ _ _ h => h) (by rfl) ?_ (by assumption) ?_
              rotate_left
              · intro w hSw
                (try dsimp only at hSw)
                go_simp
                try with_reducible rfl
              try simp only [Act.put, List.setIfInBounds_toArray, List.set_cons_zero, List.set_cons_succ]
              refine wpAnyH_ready (rs := [0, 11]) (by kernel_rfl) (by simp) ?_
              refine AllReadyH.cons rfl (fun K hK => ?_) (AllReadyH.cons rfl (fun K hK => ?_) AllReadyH.nil)
              · rw [if_pos (by rfl)]
                go_simp
                refine nmW (fun X1 => Below U9.heap.size U9 X1 ∧ World.ownsRow X1 U9.heap.size 3 1 (.slice (some ⟨U9.heap.size, 0, none⟩) 0 0) 0 []) ⟨(hbX.alloc hbX.size _).drew, (World.ownsRow.drew (own_empty _ _ _ _ hbX.size rfl))⟩ fun X1 ⟨hbX2, qHC⟩ => ?_
                have hbX := hbX2
                clear hbX2
                have HC := Lib.hid qHC
                clear qHC
                have hS := hbX
                refine hK.out _ _ ?_ (fun hHeld2 => ?_)
                · clear hK; exact hS
                clear hK K hHeld hS
                have hHeld := hHeld2
                clear hHeld2
                try simp only [Act.put, List.setIfInBounds_toArray, List.set_cons_zero, List.set_cons_succ]
                refine wpAnyH_ready (rs := [4, 11]) (by kernel_rfl) (by simp) ?_
                refine AllReadyH.cons rfl (fun K hK => ?_) (AllReadyH.cons rfl (fun K hK => ?_) AllReadyH.nil)
                · rw [if_pos (by rfl)]
                  refine wp_app el64 (.tmp 56) (.tmp 59) rfl U9.heap.size (.slice (some ⟨U9.heap.size, 0, none⟩) 0 0) 0 [] rfl HC.out _ ((o.take k).map (Value.int .i64)) rfl (HPRE.out.below hbX) (one_ints _ _) (by rw [HLP.out]; unfold maxLen; omega) (by rw [HLP.out]; omega) hbX.size ?_
                  intro v2 X2 hO hg hor
                  rw [HLP.out] at hO
                  have hbX2 := below_app hbX hbX.size HC.out hg (Nat.le_refl _)
                  rw [Nat.zero_add, List.nil_append] at hO
                  clear HC
                  have HC := Lib.hid hO
                  clear hO hg hor hbX
                  have hbX := hbX2
                  clear hbX2
                  have hS := hbX
                  refine hK.out _ _ ?_ (fun hHeld2 => ?_)
                  · clear hK; exact hS
                  clear hK K hHeld hS
                  have hHeld := hHeld2
                  clear hHeld2
                  try simp only [Act.put, List.setIfInBounds_toArray, List.set_cons_zero, List.set_cons_succ]
                  refine wpAnyH_ready (rs := [11]) (by kernel_rfl) (by simp) ?_
                  refine AllReadyH.cons rfl (fun K hK => ?_) AllReadyH.nil
                  rw [if_pos (by rfl)]
                  go_simp
                  have HNE := Lib.hid (show some X2.heap.size ≠ Value.ownBlock v2 from ne_some HC.out rfl)
                  refine nmW (fun X3 => Below U9.heap.size U9 X3 ∧ World.ownsRow X3 U9.heap.size 3 1 v2 k ((o.take k).map (.int .i64)) ∧ Blk X3 X2.heap.size 3 #[.int .i64 t.2.1]) ⟨hbX.alloc hbX.size _, (own_below HC.out ((Below.refl _ _).alloc (Nat.le_refl _) _)), (Blk.new _ _ _ _ rfl)⟩ fun X3 ⟨hbX2, qHC, qHN⟩ => ?_
                  clear HC
                  have hbX := hbX2
                  clear hbX2
                  have HC := Lib.hid qHC
                  clear qHC
                  have HN := Lib.hid qHN
                  clear qHN
                  have hS := hbX
                  refine hK.out _ _ ?_ (fun hHeld2 => ?_)
                  · clear hK; exact hS
                  clear hK K hHeld hS
                  have hHeld := hHeld2
                  clear hHeld2
                  try simp only [Act.put, List.setIfInBounds_toArray, List.set_cons_zero, List.set_cons_succ]
                  refine wpAnyH_ready (rs := [12]) (by kernel_rfl) (by simp) ?_
                  refine AllReadyH.cons rfl (fun K hK => ?_) AllReadyH.nil
                  rw [if_pos (by rfl)]
                  refine wp_app el64 (.tmp 60) (.tmp 67) rfl U9.heap.size v2 k ((o.take k).map (Value.int .i64)) rfl HC.out _ [Value.int .i64 t.2.1] rfl (Row.of_block HN.out rfl rfl (Nat.le_refl _) (by decide)) (one_ints _ [t.2.1]) (by rw [(show ([Value.int .i64 t.2.1] : List Value).length = 1 from rfl)]; unfold maxLen; omega) (by rw [(show ([Value.int .i64 t.2.1] : List Value).length = 1 from rfl)]; omega) hbX.size ?_
                  intro v3 X4 hO hg hor
                  rw [(show ([Value.int .i64 t.2.1] : List Value).length = 1 from rfl)] at hO
                  have hbX2 := below_app hbX hbX.size HC.out hg (Nat.le_refl _)
                  clear HN HNE
                  clear HC
                  have HC := Lib.hid hO
                  clear hO hg hor hbX
                  have hbX := hbX2
                  clear hbX2
                  have hS := hbX
                  refine hK.out _ _ ?_ (fun hHeld2 => ?_)
                  · clear hK; exact hS
                  clear hK K hHeld hS
                  have hHeld := hHeld2
                  clear hHeld2
                  try simp only [Act.put, List.setIfInBounds_toArray, List.set_cons_zero, List.set_cons_succ]
                  refine wpAnyH_ready (rs := [16]) (by kernel_rfl) (by simp) ?_
                  refine AllReadyH.cons rfl (fun K hK => ?_) AllReadyH.nil
                  rw [if_pos (by rfl)]
                  refine wp_app el64 (.tmp 68) (.tmp 71) rfl U9.heap.size v3 (k + 1) ((o.take k).map (Value.int .i64) ++ [Value.int .i64 t.2.1]) rfl HC.out _ ((o.drop k).map (Value.int .i64)) rfl (HSUF.out.below hbX) (one_ints _ _) (by rw [HLS.out]; unfold maxLen; omega) (by rw [HLS.out]; omega) hbX.size ?_
                  intro v4 X5 hO hg hor
                  rw [HLS.out] at hO
                  have hbX2 := below_app hbX hbX.size HC.out hg (Nat.le_refl _)
                  obtain ⟨A4, c4, rfl⟩ := own_shape hO
                  clear HC
                  have HC := Lib.hid hO
                  clear hO hg hor hbX
                  have hbX := hbX2
                  clear hbX2
                  have hS := hbX
                  refine hK.out _ _ ?_ (fun hHeld2 => ?_)
                  · clear hK; exact hS
                  clear hK K hHeld hS
                  have hHeld := hHeld2
                  clear hHeld2
                  try simp only [Act.put, List.setIfInBounds_toArray, List.set_cons_zero, List.set_cons_succ]
                  refine takeD 17 (some 3) (v := ?_) rfl rfl (by kernel_rfl) (by kernel_rfl) (by kernel_rfl) (fun _ _ _ h => h) (by rfl) ?_ (by assumption) ?_
                  rotate_left
                  · intro w hSw
                    (try dsimp only at hSw)
                    go_simp
                    try with_reducible rfl
                  try simp only [Act.put, List.setIfInBounds_toArray, List.set_cons_zero, List.set_cons_succ]
                  refine wpAnyH_done (by kernel_rfl) ?_ _
                  have HRF := Lib.hid (show ∃ A c, Value.slice A4 (k + 1 + (o.length - k)) c4 = .slice A (chO (l.take (j + 1))).length c ∧ Row X5 (.slice A (chO (l.take (j + 1))).length c) ((chO (l.take (j + 1))).map (.int .i64)) from by
                    have hr := Row.of_own HC.out
                    have he : k + 1 + (o.length - k) = (chO (l.take (j + 1))).length := by rw [HINS.out]; simp; omega
                    rw [he] at hr ⊢
                    rw [HINS.out] at hr ⊢
                    refine ⟨A4, c4, rfl, ?_⟩
                    simpa using hr)
                  have HBF := Lib.hid (Btrans HBU.out hbX)
                  clear dB dT hHeld
                  go_wp2
                  go_roundw
                  case rel => exact ⟨j + 1, by omega, by go_num, HBF.out, HRF.out⟩
                  case measure => simp [intOf]; omega
                · rw [if_pos (by rfl)]
                  go_simp
                  have HNE := Lib.hid (show some X1.heap.size ≠ Value.ownBlock (.slice (some ⟨U9.heap.size, 0, none⟩) 0 0) from ne_some HC.out rfl)
                  refine nmW (fun X2 => Below U9.heap.size U9 X2 ∧ World.ownsRow X2 U9.heap.size 3 1 (.slice (some ⟨U9.heap.size, 0, none⟩) 0 0) 0 [] ∧ Blk X2 X1.heap.size 3 #[.int .i64 t.2.1]) ⟨hbX.alloc hbX.size _, (own_below HC.out ((Below.refl _ _).alloc (Nat.le_refl _) _)), (Blk.new _ _ _ _ rfl)⟩ fun X2 ⟨hbX2, qHC, qHN⟩ => ?_
                  clear HC
                  have hbX := hbX2
                  clear hbX2
                  have HC := Lib.hid qHC
                  clear qHC
                  have HN := Lib.hid qHN
                  clear qHN
                  have hS := hbX
                  refine hK.out _ _ ?_ (fun hHeld2 => ?_)
                  · clear hK; exact hS
                  clear hK K hHeld hS
                  have hHeld := hHeld2
                  clear hHeld2
                  try simp only [Act.put, List.setIfInBounds_toArray, List.set_cons_zero, List.set_cons_succ]
                  refine wpAnyH_ready (rs := [4]) (by kernel_rfl) (by simp) ?_
                  refine AllReadyH.cons rfl (fun K hK => ?_) AllReadyH.nil
                  rw [if_pos (by rfl)]
                  refine wp_app el64 (.tmp 56) (.tmp 59) rfl U9.heap.size (.slice (some ⟨U9.heap.size, 0, none⟩) 0 0) 0 [] rfl HC.out _ ((o.take k).map (Value.int .i64)) rfl (HPRE.out.below hbX) (one_ints _ _) (by rw [HLP.out]; unfold maxLen; omega) (by rw [HLP.out]; omega) hbX.size ?_
                  intro v2 X3 hO hg hor
                  rw [HLP.out] at hO
                  have hbX2 := below_app hbX hbX.size HC.out hg (Nat.le_refl _)
                  rw [Nat.zero_add, List.nil_append] at hO
                  have HN2 := Lib.hid (show Blk _ _ _ _ from (hg.block _ HN.out.lt HNE.out).trans HN.out)
                  have HNE2 := Lib.hid (show some X1.heap.size ≠ Value.ownBlock v2 by rcases hor with e | e <;> rw [e] <;> first | exact HNE.out | (intro he; injection he with he; have := HN.out.lt; omega))
                  clear HN HNE
                  have HN := Lib.hid HN2.out
                  have HNE := Lib.hid HNE2.out
                  clear HN2 HNE2
                  clear HC
                  have HC := Lib.hid hO
                  clear hO hg hor hbX
                  have hbX := hbX2
                  clear hbX2
                  have hS := hbX
                  refine hK.out _ _ ?_ (fun hHeld2 => ?_)
                  · clear hK; exact hS
                  clear hK K hHeld hS
                  have hHeld := hHeld2
                  clear hHeld2
                  try simp only [Act.put, List.setIfInBounds_toArray, List.set_cons_zero, List.set_cons_succ]
                  refine wpAnyH_ready (rs := [12]) (by kernel_rfl) (by simp) ?_
                  refine AllReadyH.cons rfl (fun K hK => ?_) AllReadyH.nil
                  rw [if_pos (by rfl)]
                  refine wp_app el64 (.tmp 60) (.tmp 67) rfl U9.heap.size v2 k ((o.take k).map (Value.int .i64)) rfl HC.out _ [Value.int .i64 t.2.1] rfl (Row.of_block HN.out rfl rfl (Nat.le_refl _) (by decide)) (one_ints _ [t.2.1]) (by rw [(show ([Value.int .i64 t.2.1] : List Value).length = 1 from rfl)]; unfold maxLen; omega) (by rw [(show ([Value.int .i64 t.2.1] : List Value).length = 1 from rfl)]; omega) hbX.size ?_
                  intro v3 X4 hO hg hor
                  rw [(show ([Value.int .i64 t.2.1] : List Value).length = 1 from rfl)] at hO
                  have hbX2 := below_app hbX hbX.size HC.out hg (Nat.le_refl _)
                  clear HN HNE
                  clear HC
                  have HC := Lib.hid hO
                  clear hO hg hor hbX
                  have hbX := hbX2
                  clear hbX2
                  have hS := hbX
                  refine hK.out _ _ ?_ (fun hHeld2 => ?_)
                  · clear hK; exact hS
                  clear hK K hHeld hS
                  have hHeld := hHeld2
                  clear hHeld2
                  try simp only [Act.put, List.setIfInBounds_toArray, List.set_cons_zero, List.set_cons_succ]
                  refine wpAnyH_ready (rs := [16]) (by kernel_rfl) (by simp) ?_
                  refine AllReadyH.cons rfl (fun K hK => ?_) AllReadyH.nil
                  rw [if_pos (by rfl)]
                  refine wp_app el64 (.tmp 68) (.tmp 71) rfl U9.heap.size v3 (k + 1) ((o.take k).map (Value.int .i64) ++ [Value.int .i64 t.2.1]) rfl HC.out _ ((o.drop k).map (Value.int .i64)) rfl (HSUF.out.below hbX) (one_ints _ _) (by rw [HLS.out]; unfold maxLen; omega) (by rw [HLS.out]; omega) hbX.size ?_
                  intro v4 X5 hO hg hor
                  rw [HLS.out] at hO
                  have hbX2 := below_app hbX hbX.size HC.out hg (Nat.le_refl _)
                  obtain ⟨A4, c4, rfl⟩ := own_shape hO
                  clear HC
                  have HC := Lib.hid hO
                  clear hO hg hor hbX
                  have hbX := hbX2
                  clear hbX2
                  have hS := hbX
                  refine hK.out _ _ ?_ (fun hHeld2 => ?_)
                  · clear hK; exact hS
                  clear hK K hHeld hS
                  have hHeld := hHeld2
                  clear hHeld2
                  try simp only [Act.put, List.setIfInBounds_toArray, List.set_cons_zero, List.set_cons_succ]
                  refine takeD 17 (some 3) (v := ?_) rfl rfl (by kernel_rfl) (by kernel_rfl) (by kernel_rfl) (fun _ _ _ h => h) (by rfl) ?_ (by assumption) ?_
                  rotate_left
                  · intro w hSw
                    (try dsimp only at hSw)
                    go_simp
                    try with_reducible rfl
                  try simp only [Act.put, List.setIfInBounds_toArray, List.set_cons_zero, List.set_cons_succ]
                  refine wpAnyH_done (by kernel_rfl) ?_ _
                  have HRF := Lib.hid (show ∃ A c, Value.slice A4 (k + 1 + (o.length - k)) c4 = .slice A (chO (l.take (j + 1))).length c ∧ Row X5 (.slice A (chO (l.take (j + 1))).length c) ((chO (l.take (j + 1))).map (.int .i64)) from by
                    have hr := Row.of_own HC.out
                    have he : k + 1 + (o.length - k) = (chO (l.take (j + 1))).length := by rw [HINS.out]; simp; omega
                    rw [he] at hr ⊢
                    rw [HINS.out] at hr ⊢
                    refine ⟨A4, c4, rfl, ?_⟩
                    simpa using hr)
                  have HBF := Lib.hid (Btrans HBU.out hbX)
                  clear dB dT hHeld
                  go_wp2
                  go_roundw
                  case rel => exact ⟨j + 1, by omega, by go_num, HBF.out, HRF.out⟩
                  case measure => simp [intOf]; omega
              · rw [if_pos (by rfl)]
                go_simp
                refine nmW (fun X1 => Below U9.heap.size U9 X1 ∧ Blk X1 U9.heap.size 3 #[.int .i64 t.2.1]) ⟨(hbX.alloc hbX.size _).drew, (Blk.drw (Blk.new _ _ _ _ rfl))⟩ fun X1 ⟨hbX2, qHN⟩ => ?_
                have hbX := hbX2
                clear hbX2
                have HN := Lib.hid qHN
                clear qHN
                have hS := hbX
                refine hK.out _ _ ?_ (fun hHeld2 => ?_)
                · clear hK; exact hS
                clear hK K hHeld hS
                have hHeld := hHeld2
                clear hHeld2
                try simp only [Act.put, List.setIfInBounds_toArray, List.set_cons_zero, List.set_cons_succ]
                refine wpAnyH_ready (rs := [0]) (by kernel_rfl) (by simp) ?_
                refine AllReadyH.cons rfl (fun K hK => ?_) AllReadyH.nil
                rw [if_pos (by rfl)]
                go_simp
                have HNE := Lib.hid (show some U9.heap.size ≠ Value.ownBlock (.slice (some ⟨X1.heap.size, 0, none⟩) 0 0) from (by intro he; have := HN.out.lt; simp [Value.ownBlock] at he; omega))
                refine nmW (fun X2 => Below U9.heap.size U9 X2 ∧ World.ownsRow X2 U9.heap.size 3 1 (.slice (some ⟨X1.heap.size, 0, none⟩) 0 0) 0 [] ∧ Blk X2 U9.heap.size 3 #[.int .i64 t.2.1]) ⟨hbX.alloc hbX.size _, (own_empty _ _ _ _ hbX.size rfl), (HN.out.al _)⟩ fun X2 ⟨hbX2, qHC, qHN⟩ => ?_
                clear HN
                have hbX := hbX2
                clear hbX2
                have HC := Lib.hid qHC
                clear qHC
                have HN := Lib.hid qHN
                clear qHN
                have hS := hbX
                refine hK.out _ _ ?_ (fun hHeld2 => ?_)
                · clear hK; exact hS
                clear hK K hHeld hS
                have hHeld := hHeld2
                clear hHeld2
                try simp only [Act.put, List.setIfInBounds_toArray, List.set_cons_zero, List.set_cons_succ]
                refine wpAnyH_ready (rs := [4]) (by kernel_rfl) (by simp) ?_
                refine AllReadyH.cons rfl (fun K hK => ?_) AllReadyH.nil
                rw [if_pos (by rfl)]
                refine wp_app el64 (.tmp 56) (.tmp 59) rfl U9.heap.size (.slice (some ⟨X1.heap.size, 0, none⟩) 0 0) 0 [] rfl HC.out _ ((o.take k).map (Value.int .i64)) rfl (HPRE.out.below hbX) (one_ints _ _) (by rw [HLP.out]; unfold maxLen; omega) (by rw [HLP.out]; omega) hbX.size ?_
                intro v2 X3 hO hg hor
                rw [HLP.out] at hO
                have hbX2 := below_app hbX hbX.size HC.out hg (Nat.le_refl _)
                rw [Nat.zero_add, List.nil_append] at hO
                have HN2 := Lib.hid (show Blk _ _ _ _ from (hg.block _ HN.out.lt HNE.out).trans HN.out)
                have HNE2 := Lib.hid (show some U9.heap.size ≠ Value.ownBlock v2 by rcases hor with e | e <;> rw [e] <;> first | exact HNE.out | (intro he; injection he with he; have := HN.out.lt; omega))
                clear HN HNE
                have HN := Lib.hid HN2.out
                have HNE := Lib.hid HNE2.out
                clear HN2 HNE2
                clear HC
                have HC := Lib.hid hO
                clear hO hg hor hbX
                have hbX := hbX2
                clear hbX2
                have hS := hbX
                refine hK.out _ _ ?_ (fun hHeld2 => ?_)
                · clear hK; exact hS
                clear hK K hHeld hS
                have hHeld := hHeld2
                clear hHeld2
                try simp only [Act.put, List.setIfInBounds_toArray, List.set_cons_zero, List.set_cons_succ]
                refine wpAnyH_ready (rs := [12]) (by kernel_rfl) (by simp) ?_
                refine AllReadyH.cons rfl (fun K hK => ?_) AllReadyH.nil
                rw [if_pos (by rfl)]
                refine wp_app el64 (.tmp 60) (.tmp 67) rfl U9.heap.size v2 k ((o.take k).map (Value.int .i64)) rfl HC.out _ [Value.int .i64 t.2.1] rfl (Row.of_block HN.out rfl rfl (Nat.le_refl _) (by decide)) (one_ints _ [t.2.1]) (by rw [(show ([Value.int .i64 t.2.1] : List Value).length = 1 from rfl)]; unfold maxLen; omega) (by rw [(show ([Value.int .i64 t.2.1] : List Value).length = 1 from rfl)]; omega) hbX.size ?_
                intro v3 X4 hO hg hor
                rw [(show ([Value.int .i64 t.2.1] : List Value).length = 1 from rfl)] at hO
                have hbX2 := below_app hbX hbX.size HC.out hg (Nat.le_refl _)
                clear HN HNE
                clear HC
                have HC := Lib.hid hO
                clear hO hg hor hbX
                have hbX := hbX2
                clear hbX2
                have hS := hbX
                refine hK.out _ _ ?_ (fun hHeld2 => ?_)
                · clear hK; exact hS
                clear hK K hHeld hS
                have hHeld := hHeld2
                clear hHeld2
                try simp only [Act.put, List.setIfInBounds_toArray, List.set_cons_zero, List.set_cons_succ]
                refine wpAnyH_ready (rs := [16]) (by kernel_rfl) (by simp) ?_
                refine AllReadyH.cons rfl (fun K hK => ?_) AllReadyH.nil
                rw [if_pos (by rfl)]
                refine wp_app el64 (.tmp 68) (.tmp 71) rfl U9.heap.size v3 (k + 1) ((o.take k).map (Value.int .i64) ++ [Value.int .i64 t.2.1]) rfl HC.out _ ((o.drop k).map (Value.int .i64)) rfl (HSUF.out.below hbX) (one_ints _ _) (by rw [HLS.out]; unfold maxLen; omega) (by rw [HLS.out]; omega) hbX.size ?_
                intro v4 X5 hO hg hor
                rw [HLS.out] at hO
                have hbX2 := below_app hbX hbX.size HC.out hg (Nat.le_refl _)
                obtain ⟨A4, c4, rfl⟩ := own_shape hO
                clear HC
                have HC := Lib.hid hO
                clear hO hg hor hbX
                have hbX := hbX2
                clear hbX2
                have hS := hbX
                refine hK.out _ _ ?_ (fun hHeld2 => ?_)
                · clear hK; exact hS
                clear hK K hHeld hS
                have hHeld := hHeld2
                clear hHeld2
                try simp only [Act.put, List.setIfInBounds_toArray, List.set_cons_zero, List.set_cons_succ]
                refine takeD 17 (some 3) (v := ?_) rfl rfl (by kernel_rfl) (by kernel_rfl) (by kernel_rfl) (fun _ _ _ h => h) (by rfl) ?_ (by assumption) ?_
                rotate_left
                · intro w hSw
                  (try dsimp only at hSw)
                  go_simp
                  try with_reducible rfl
                try simp only [Act.put, List.setIfInBounds_toArray, List.set_cons_zero, List.set_cons_succ]
                refine wpAnyH_done (by kernel_rfl) ?_ _
                have HRF := Lib.hid (show ∃ A c, Value.slice A4 (k + 1 + (o.length - k)) c4 = .slice A (chO (l.take (j + 1))).length c ∧ Row X5 (.slice A (chO (l.take (j + 1))).length c) ((chO (l.take (j + 1))).map (.int .i64)) from by
                  have hr := Row.of_own HC.out
                  have he : k + 1 + (o.length - k) = (chO (l.take (j + 1))).length := by rw [HINS.out]; simp; omega
                  rw [he] at hr ⊢
                  rw [HINS.out] at hr ⊢
                  refine ⟨A4, c4, rfl, ?_⟩
                  simpa using hr)
                have HBF := Lib.hid (Btrans HBU.out hbX)
                clear dB dT hHeld
                go_wp2
                go_roundw
                case rel => exact ⟨j + 1, by omega, by go_num, HBF.out, HRF.out⟩
                case measure => simp [intOf]; omega
    · obtain rfl : j = l.length := by omega
      rw [List.take_length] at hro ⊢
      have HRO := Lib.hid hro
      have HFI := Lib.hid (Btrans HW.out hbj)
      have cB := (HBW0.out.below hbj).cells
      have lB := (HBW0.out.below hbj).lt
      clear hro hbj
      go_wp2
      go_ret
      exact ⟨OA, oc, by first | rfl | simp, HRO.out, HFI.out⟩
end Go.Proofs.Ytkipocfdgekkfaa
