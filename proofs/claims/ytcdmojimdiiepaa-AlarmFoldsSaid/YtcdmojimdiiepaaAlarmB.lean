/- Layer 21: what a channel's watched alarm tells. -/
import Derived.Test.YtcdmojimdiiepaaAlarmM
import Derived.Test.YtcdmojimdiiepaaTechBV
import Derived.StillTailTactics
import Derived.Handy
namespace Go.Proofs.Ytcdmojimdiiepaa
open Go.ChangeShapes Go.WideShapes Go.ChangeAt Go.RowKit
set_option linter.unusedVariables false
set_option linter.unusedSimpArgs false

def SC (W : World) (b : Nat) (x0 x1 x6 : Value) (w' : World) : Prop := Only [b] W w' ∧ w'.cell? ⟨b, 0, none⟩ = some x0 ∧ w'.cell? ⟨b, 1, none⟩ = some x1 ∧ w'.cell? ⟨b, 6, none⟩ = some x6
theorem SC.of {W w' : World} {b : Nat} {t : TypeId} {x0 x1 x2 x3 x4 x5 x6 : Value} (h : Only [b] W w') (k : Blk w' b t #[x0, x1, x2, x3, x4, x5, x6]) : SC W b x0 x1 x6 w' := ⟨h, by rw [k.cells]; rfl, by rw [k.cells]; rfl, by rw [k.cells]; rfl⟩
set_option maxRecDepth 100000 in
set_option maxHeartbeats 4000000 in
theorem ctick_any (W0 : World) (b : Nat) (k : Int) (ch : Nat) (s : Te) (a : Bool) (CA : Option Addr) (cc : Nat) (cs : List Cl) (w : World) (hW : IsW W0 w b (.chan k ch s a)) (hok : (Wt.chan k ch s a).ok cs.length)
    (hc : RowN 3 w (.slice CA cs.length cc) cs.length (c3c cs)) (hne : ∀ ad, CA = some ad → ad.block ≠ b) :
    Calls Try.prog 133 #[.pointer (some ⟨b, 0, none⟩), .slice CA cs.length cc] w fun e w' => e = .returned (.agg #[.bool ((Wt.chan k ch s a).next cs).al.1, .bool ((Wt.chan k ch s a).next cs).al.2]) ∧ IsW W0 w' b ((Wt.chan k ch s a).next cs) ∧ Only [b] w w' := by
  have hblk : Blk w b 82 #[.int .i64 k, .int .i64 (ch : Int), .int .i64 s.run, .bool s.on, .bool s.now, .bool s.ok, .bool a] := hW
  obtain ⟨hch, k1, k2, hr0, hr1⟩ := hok
  obtain ⟨x, hx⟩ : ∃ x, cs[ch]? = some x := ⟨_, List.getElem?_eq_getElem hch⟩
  obtain ⟨cad, rfl, hcad, e0, _, _⟩ := row3_at hc hx
  have hcb : (cad.add (ch * 3)).block < w.heap.size := by rw [block_add]; exact hcad
  have hcn : (cad.add (ch * 3)).block ∉ [b] := by rw [block_add]; have := hne cad rfl; simpa using this
  have HB := Lib.hid hblk
  have HL := Lib.hid hblk.lt
  have hsr : s.run ≤ 4611686018427387904 := by omega
  have hchl : (ch : Int) < (cs.length : Int) := by omega
  obtain ⟨y, HYE⟩ : ∃ y, RowKit.Hid (y = decide (x.1 = 1)) := ⟨_, Lib.hid rfl⟩
  have HY2 := Lib.hid (show (x.1 == 1) = y by rw [HYE.out]; by_cases h : x.1 = 1 <;> simp [h])
  obtain ⟨p, HPE⟩ : ∃ p, RowKit.Hid (p = tstep k s y a) := ⟨_, Lib.hid rfl⟩
  rw [show ((Wt.chan k ch s a).next cs) = .chan k ch p false by rw [HPE.out, HYE.out]; show Wt.chan k ch (tstep k s (sampB cs ch) a) false = _; unfold sampB; rw [List.getD_eq_getElem?_getD, hx]; rfl]
  clear hblk hW k1 k2 hc hx hch hne
  go_enter Try.func133, Try.ntmps133
  go_wp2_with fail
  refine wp_world (fun W => Below w.heap.size w W ∧ Blk W b 82 #[.int .i64 k, .int .i64 (ch : Int), .int .i64 s.run, .bool s.on, .bool s.now, .bool s.ok, .bool a] ∧ Blk W w.heap.size 53 #[.bool false, .bool false]) ⟨by go_grown, HB.out.al _, Blk.new _ _ _ _ rfl⟩ fun W ⟨hbW, hqb, hqr⟩ => ?_
  have HBW := Lib.hid hbW
  have HBk := Lib.hid hqb
  have HRes := Lib.hid hqr
  have hcW : (cad.add (ch * 3)).block < W.heap.size := Nat.lt_of_lt_of_le hcb hbW.size
  have heW : W.cell? (cad.add (ch * 3)) = some (.int .i64 x.1) := by rw [hbW.cell hcb]; exact e0
  have hYy := HY2.out
  have d0 : ∀ w', SC W b (.int .i64 k) (.int .i64 (ch : Int)) (.bool a) w' → w'.cell? ⟨b, 0, none⟩ = some (.int .i64 k) := fun _ h => h.2.1
  have d1 : ∀ w', SC W b (.int .i64 k) (.int .i64 (ch : Int)) (.bool a) w' → w'.cell? ⟨b, 1, none⟩ = some (.int .i64 (ch : Int)) := fun _ h => h.2.2.1
  have d6 : ∀ w', SC W b (.int .i64 k) (.int .i64 (ch : Int)) (.bool a) w' → w'.cell? ⟨b, 6, none⟩ = some (.bool a) := fun _ h => h.2.2.2
  have dC : ∀ w', SC W b (.int .i64 k) (.int .i64 (ch : Int)) (.bool a) w' → w'.cell? (cad.add (ch * 3)) = some (.int .i64 x.1) := fun _ h => by rw [h.1.cell hcW hcn]; exact heW
  clear hbW hqb hqr HB e0
  refine wp_region_held_drew (S := SC W b (.int .i64 k) (.int .i64 (ch : Int)) (.bool a)) (by kernel_rfl) (SC.of ((Only.refl _ _).drew 1) HBk.out.drw) (fun hHeld => ?_)
  have hcur : Below W.heap.size W _ := (Below.refl W.heap.size W).drew
  refine takeD 0 (some 5) (v := ?_) rfl rfl (by kernel_rfl) (by kernel_rfl) (by kernel_rfl) (fun _ _ _ h => h) (by rfl) ?_ (by assumption) ?_
  rotate_left
  · intro w hSw
    (try dsimp only at hSw)
    go_simp
    try with_reducible rfl
  try simp only [Act.put, List.setIfInBounds_toArray, List.set_cons_zero, List.set_cons_succ]
  refine takeD 1 (some 6) (v := ?_) rfl rfl (by kernel_rfl) (by kernel_rfl) (by kernel_rfl) (fun _ _ _ h => h) (by rfl) ?_ (by assumption) ?_
  rotate_left
  · intro w hSw
    (try dsimp only at hSw)
    go_simp
    try with_reducible rfl
  try simp only [Act.put, List.setIfInBounds_toArray, List.set_cons_zero, List.set_cons_succ]
  refine takeD 2 (some 7) (v := ?_) rfl rfl (by kernel_rfl) (by kernel_rfl) (by kernel_rfl) (fun _ _ _ h => h) (by rfl) ?_ (by assumption) ?_
  rotate_left
  · intro w hSw
    (try dsimp only at hSw)
    go_simp
    try with_reducible rfl
  try simp only [Act.put, List.setIfInBounds_toArray, List.set_cons_zero, List.set_cons_succ]
  refine takeD 3 (some 8) (v := ?_) rfl rfl (by kernel_rfl) (by kernel_rfl) (by kernel_rfl) (fun _ _ _ h => h) (by rfl) ?_ (by assumption) ?_
  rotate_left
  · intro w hSw
    (try dsimp only at hSw)
    go_simp
    try with_reducible rfl
  try simp only [Act.put, List.setIfInBounds_toArray, List.set_cons_zero, List.set_cons_succ]
  refine takeD 4 (some 9) (v := ?_) rfl rfl (by kernel_rfl) (by kernel_rfl) (by kernel_rfl) (fun _ _ _ h => h) (by rfl) ?_ (by assumption) ?_
  rotate_left
  · intro w hSw
    (try dsimp only at hSw)
    go_simp
    try with_reducible rfl
  try simp only [Act.put, List.setIfInBounds_toArray, List.set_cons_zero, List.set_cons_succ]
  refine takeD 5 (some 10) (v := ?_) rfl rfl (by kernel_rfl) (by kernel_rfl) (by kernel_rfl) (fun _ _ _ h => h) (by rfl) ?_ (by assumption) ?_
  rotate_left
  · intro w hSw
    (try dsimp only at hSw)
    go_simp
    try with_reducible rfl
  try simp only [Act.put, List.setIfInBounds_toArray, List.set_cons_zero, List.set_cons_succ]
  refine takeD 6 (some 11) (v := ?_) rfl rfl (by kernel_rfl) (by kernel_rfl) (by kernel_rfl) (fun _ _ _ h => h) (by rfl) ?_ (by assumption) ?_
  rotate_left
  · intro w hSw
    (try dsimp only at hSw)
    go_simp
    try with_reducible rfl
  try simp only [Act.put, List.setIfInBounds_toArray, List.set_cons_zero, List.set_cons_succ]
  refine takeD 7 (some 12) (v := ?_) rfl rfl (by kernel_rfl) (by kernel_rfl) (by kernel_rfl) (fun _ _ _ h => h) (by rfl) ?_ (by assumption) ?_
  rotate_left
  · intro w hSw
    (try dsimp only at hSw)
    go_simp
    try with_reducible rfl
  try simp only [Act.put, List.setIfInBounds_toArray, List.set_cons_zero, List.set_cons_succ]
  refine takeD 9 (some 14) (v := ?_) rfl rfl (by kernel_rfl) (by kernel_rfl) (by kernel_rfl) (fun _ _ _ h => h) (by rfl) ?_ (by assumption) ?_
  rotate_left
  · intro w hSw
    (try dsimp only at hSw)
    go_simp
    try with_reducible rfl
  try simp only [Act.put, List.setIfInBounds_toArray, List.set_cons_zero, List.set_cons_succ]
  refine takeD 10 (some 15) (v := ?_) rfl rfl (by kernel_rfl) (by kernel_rfl) (by kernel_rfl) (fun _ _ _ h => h) (by rfl) ?_ (by assumption) ?_
  rotate_left
  · intro w hSw
    (try dsimp only at hSw)
    go_simp
    try with_reducible rfl
  try simp only [Act.put, List.setIfInBounds_toArray, List.set_cons_zero, List.set_cons_succ]
  refine takeD 11 (some 16) (v := ?_) rfl rfl (by kernel_rfl) (by kernel_rfl) (by kernel_rfl) (fun _ _ _ h => h) (by rfl) ?_ (by assumption) ?_
  rotate_left
  · intro w hSw
    (try dsimp only at hSw)
    go_simp
    try with_reducible rfl
  try simp only [Act.put, List.setIfInBounds_toArray, List.set_cons_zero, List.set_cons_succ]
  refine takeD 12 (some 17) (v := ?_) rfl rfl (by kernel_rfl) (by kernel_rfl) (by kernel_rfl) (fun _ _ _ h => h) (by rfl) ?_ (by assumption) ?_
  rotate_left
  · intro w hSw
    (try dsimp only at hSw)
    go_simp
    try with_reducible rfl
  try simp only [Act.put, List.setIfInBounds_toArray, List.set_cons_zero, List.set_cons_succ]
  refine takeD 13 (some 18) (v := ?_) rfl rfl (by kernel_rfl) (by kernel_rfl) (by kernel_rfl) (fun _ _ _ h => h) (by rfl) ?_ (by assumption) ?_
  rotate_left
  · intro w hSw
    (try dsimp only at hSw)
    go_simp
    try with_reducible rfl
  try simp only [Act.put, List.setIfInBounds_toArray, List.set_cons_zero, List.set_cons_succ]
  refine takeD 14 (some 19) (v := ?_) rfl rfl (by kernel_rfl) (by kernel_rfl) (by kernel_rfl) (fun _ _ _ h => h) (by rfl) ?_ (by assumption) ?_
  rotate_left
  · intro w hSw
    (try dsimp only at hSw)
    go_simp
    try with_reducible rfl
  try simp only [Act.put, List.setIfInBounds_toArray, List.set_cons_zero, List.set_cons_succ]
  refine takeD 15 (some 20) (v := ?_) rfl rfl (by kernel_rfl) (by kernel_rfl) (by kernel_rfl) (fun _ _ _ h => h) (by rfl) ?_ (by assumption) ?_
  rotate_left
  · intro w hSw
    (try dsimp only at hSw)
    go_simp
    try with_reducible rfl
  try simp only [Act.put, List.setIfInBounds_toArray, List.set_cons_zero, List.set_cons_succ]
  refine takeD 16 (some 21) (v := ?_) rfl rfl (by kernel_rfl) (by kernel_rfl) (by kernel_rfl) (fun _ _ _ h => h) (by rfl) ?_ (by assumption) ?_
  rotate_left
  · intro w hSw
    (try dsimp only at hSw)
    go_simp
    try with_reducible rfl
  try simp only [Act.put, List.setIfInBounds_toArray, List.set_cons_zero, List.set_cons_succ]
  refine takeD 17 (some 22) (v := ?_) rfl rfl (by kernel_rfl) (by kernel_rfl) (by kernel_rfl) (fun _ _ _ h => h) (by rfl) ?_ (by assumption) ?_
  rotate_left
  · intro w hSw
    (try dsimp only at hSw)
    go_simp
    try with_reducible rfl
  try simp only [Act.put, List.setIfInBounds_toArray, List.set_cons_zero, List.set_cons_succ]
  refine takeD 18 (some 23) (v := ?_) rfl rfl (by kernel_rfl) (by kernel_rfl) (by kernel_rfl) (fun _ _ _ h => h) (by rfl) ?_ (by assumption) ?_
  rotate_left
  · intro w hSw
    (try dsimp only at hSw)
    go_simp
    try with_reducible rfl
  try simp only [Act.put, List.setIfInBounds_toArray, List.set_cons_zero, List.set_cons_succ]
  refine takeD 19 (some 24) (v := ?_) rfl rfl (by kernel_rfl) (by kernel_rfl) (by kernel_rfl) (fun _ _ _ h => h) (by rfl) ?_ (by assumption) ?_
  rotate_left
  · intro w hSw
    (try dsimp only at hSw)
    go_simp
    try with_reducible rfl
  try simp only [Act.put, List.setIfInBounds_toArray, List.set_cons_zero, List.set_cons_succ]
  refine takeD 20 (some 25) (v := ?_) rfl rfl (by kernel_rfl) (by kernel_rfl) (by kernel_rfl) (fun _ _ _ h => h) (by rfl) ?_ (by assumption) ?_
  rotate_left
  · intro w hSw
    (try dsimp only at hSw)
    go_simp
    try with_reducible rfl
  try simp only [Act.put, List.setIfInBounds_toArray, List.set_cons_zero, List.set_cons_succ]
  refine takeD 21 (some 26) (v := ?_) rfl rfl (by kernel_rfl) (by kernel_rfl) (by kernel_rfl) (fun _ _ _ h => h) (by rfl) ?_ (by assumption) ?_
  rotate_left
  · intro w hSw
    (try dsimp only at hSw)
    go_simp
    try with_reducible rfl
  try simp only [Act.put, List.setIfInBounds_toArray, List.set_cons_zero, List.set_cons_succ]
  refine wpAnyH_ready (rs := [8]) (by kernel_rfl) (by simp) ?_
  refine AllReadyH.cons rfl (fun K hK => ?_) AllReadyH.nil
  rw [if_pos (by rfl)]
  have c2 := (HBk.out.below hcur).cells 2
  have c3 := (HBk.out.below hcur).cells 3
  have c4 := (HBk.out.below hcur).cells 4
  have c5 := (HBk.out.below hcur).cells 5
  go_simp
  clear c2 c3 c4 c5
  have hS : SC W b (.int .i64 k) (.int .i64 (ch : Int)) (.bool a) _ := SC.of (Only.of_below [b] hcur) (HBk.out.below hcur)
  refine hK.out _ _ ?_ (fun hHeld2 => ?_)
  · clear hK; exact hS
  clear hK K hHeld hS
  have hHeld := hHeld2
  clear hHeld2
  try simp only [Act.put, List.setIfInBounds_toArray, List.set_cons_zero, List.set_cons_succ]
  refine wpAnyH_ready (rs := [22]) (by kernel_rfl) (by simp) ?_
  refine AllReadyH.cons rfl (fun K hK => ?_) AllReadyH.nil
  rw [if_pos (by rfl)]
  go_simp
  go_at_call 47
  refine (tstep_any k s y a _ hr0 hsr).mono ?_
  rintro e w2 ⟨rfl, hk⟩
  rw [← HPE.out]
  have hcur2 : Below W.heap.size W w2 := hcur.trans (hk.mono hcur.size)
  clear hcur hk
  have hcur := hcur2
  clear hcur2
  have hS : SC W b (.int .i64 k) (.int .i64 (ch : Int)) (.bool a) _ := SC.of (Only.of_below [b] hcur) (HBk.out.below hcur)
  go_wp2_with fail
  refine hK.out _ _ ?_ (fun hHeld2 => ?_)
  · clear hK; exact hS
  clear hK K hHeld hS
  have hHeld := hHeld2
  clear hHeld2
  try simp only [Act.put, List.setIfInBounds_toArray, List.set_cons_zero, List.set_cons_succ]
  refine takeD 23 (some 28) (v := ?_) rfl rfl (by kernel_rfl) (by kernel_rfl) (by kernel_rfl) (fun _ _ _ h => h) (by rfl) ?_ (by assumption) ?_
  rotate_left
  · intro w hSw
    (try dsimp only at hSw)
    go_simp
    try with_reducible rfl
  try simp only [Act.put, List.setIfInBounds_toArray, List.set_cons_zero, List.set_cons_succ]
  refine takeD 24 (some 29) (v := ?_) rfl rfl (by kernel_rfl) (by kernel_rfl) (by kernel_rfl) (fun _ _ _ h => h) (by rfl) ?_ (by assumption) ?_
  rotate_left
  · intro w hSw
    (try dsimp only at hSw)
    go_simp
    try with_reducible rfl
  try simp only [Act.put, List.setIfInBounds_toArray, List.set_cons_zero, List.set_cons_succ]
  refine wpAnyH_ready (rs := [25]) (by kernel_rfl) (by simp) ?_
  refine AllReadyH.cons rfl (fun K hK => ?_) AllReadyH.nil
  rw [if_pos (by rfl)]
  have cB := (HBk.out.below hcur).cells
  have fB := (HBk.out.below hcur).froz
  go_simp
  have HD := Lib.hid (((((HBk.out.below hcur).set 2 (.int .i64 p.run)).set 3 (.bool p.on)).set 4 (.bool p.now)).set 5 (.bool p.ok))
  have hoN : Only [b] W _ := ((((Only.of_below [b] hcur).setCell (p := ⟨b, 2, none⟩) (by simp) (.int .i64 p.run)).setCell (p := ⟨b, 3, none⟩) (by simp) (.bool p.on)).setCell (p := ⟨b, 4, none⟩) (by simp) (.bool p.now)).setCell (p := ⟨b, 5, none⟩) (by simp) (.bool p.ok)
  have hS : SC W b (.int .i64 k) (.int .i64 (ch : Int)) (.bool a) _ := SC.of hoN HD.out
  clear cB fB
  refine hK.out _ _ ?_ (fun hHeld2 => ?_)
  · clear hK; exact hS
  clear hK K hHeld hS
  have hHeld := hHeld2
  clear hHeld2
  try simp only [Act.put, List.setIfInBounds_toArray, List.set_cons_zero, List.set_cons_succ]
  refine wpAnyH_done (by kernel_rfl) ?_ _
  refine nameV (fun W' => Only [b] W W' ∧ Blk W' b 82 #[.int .i64 k, .int .i64 (ch : Int), .int .i64 p.run, .bool p.on, .bool p.now, .bool p.ok, .bool a]) ⟨hHeld.1, HD.out⟩ fun W6 ⟨ho6, hq6⟩ => ?_
  have HQ6 := Lib.hid hq6
  have HO6 := Lib.hid ho6
  have HR6 := Lib.hid (HRes.out.only ho6 (by simp; have := HL.out; omega))
  have cQ := hq6.cells
  have fQ := hq6.froz
  clear hHeld d0 d1 d6 dC HD hcur ho6 hq6
  go_wp2_with fail
  refine wp_world (fun W' => Only [b] W W' ∧ Blk W' b 82 #[.int .i64 k, .int .i64 (ch : Int), .int .i64 p.run, .bool p.on, .bool p.now, .bool p.ok, .bool false] ∧ Blk W' w.heap.size 53 #[.bool false, .bool false]) ⟨HO6.out.setCell (p := ⟨b, 6, none⟩) (by simp) _, HQ6.out.set 6 (.bool false), HR6.out.setO (by have := HL.out; omega) 6 _⟩ fun W7 ⟨ho7, hq7, hr7⟩ => ?_
  have HO7 := Lib.hid ho7
  have HQ7 := Lib.hid hq7
  have HR7 := Lib.hid hr7
  clear cQ fQ ho7 hq7 hr7 HO6 HQ6 HR6
  have cQ := HQ7.out.cells
  have cR := HR7.out.cells
  have fR := HR7.out.froz
  have lQ := HQ7.out.lt
  have lR := HR7.out.lt
  go_region
  go_wp2
  have HF := Lib.hid ((HR7.out.set 0 (.bool p.on)).set 1 (.bool p.now))
  have cS := HF.out.cells
  refine bodyPost_ret (v := .agg #[.bool p.on, .bool p.now]) (by simp [results, Try.results133, go_sem, cS]) rfl ?_
  refine ⟨by first | rfl | simp [Wt.al], ?_, ?_⟩
  · exact ((HQ7.out.setO (by have := HL.out; omega) _ _).setO (by have := HL.out; omega) _ _)
  · exact (((((Only.of_below [b] HBW.out).trans HO7.out).ownCell (p := ⟨w.heap.size, 0, none⟩) (Nat.le_refl _) (.bool p.on)).ownCell (p := ⟨w.heap.size, 1, none⟩) (Nat.le_refl _) (.bool p.now)).drew 1)
end Go.Proofs.Ytcdmojimdiiepaa
