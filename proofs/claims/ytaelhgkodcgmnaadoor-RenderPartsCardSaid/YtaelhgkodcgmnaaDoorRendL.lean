/- Layer 23: alarms of a line; a line. -/
import Derived.Test.YtaelhgkodcgmnaaDoorRendK
import Derived.IntWalk
namespace Go.Proofs.YtaelhgkodcgmnaaDoor
open Go.ChangeShapes Go.WideShapes Go.ChangeAt Go.RowKit Go.Deep
open Go.Shelf
set_option linter.unusedVariables false
set_option linter.unusedSimpArgs false

def addWs (l : Str) (ws : List Str) : Str := ws.foldl (fun l w => sep l ++ w) l
theorem addWs_app (l : Str) (a b : List Str) : addWs l (a ++ b) = addWs (addWs l a) b := by simp [addWs]
theorem addWs_one (l w : Str) : addWs l [w] = sep l ++ w := rfl
theorem addWs_snoc (l : Str) (a : List Str) (w : Str) : addWs l (a ++ [w]) = sep (addWs l a) ++ w := by rw [addWs_app]; rfl
theorem addWs_len (n : Nat) : ∀ (ws : List Str) (l : Str), (∀ w ∈ ws, w.length ≤ n) → (addWs l ws).length ≤ l.length + ws.length * (n + 1) := by
  intro ws
  induction ws with
  | nil => intro l _; simp [addWs]
  | cons w ws ih =>
    intro l h
    have h1 := ih (sep l ++ w) (fun x hx => h x (by simp [hx]))
    have h2 := h w (by simp)
    have h3 := sep_len l
    have e : addWs l (w :: ws) = addWs (sep l ++ w) ws := rfl
    rw [e]
    rw [List.length_append] at h1
    simp only [List.length_cons, Nat.add_mul]
    omega
def alW (la : List (Bool × Bool)) : List Str := la.map fun a => [alB a]
set_option maxRecDepth 100000 in
set_option maxHeartbeats 4000000 in
theorem alarms_any (B b : Nat) (l : Str) (v : Value) (la : List (Bool × Bool)) (w0 w : World) (h : IsWr B b (Lib.byteCells l) w) (ha : ARow w0 v la) (h0 : w0.heap.size ≤ B) (hb0 : Below w0.heap.size w0 w) (hBw : B ≤ w.heap.size) (hlen : l.length + la.length * 2 + 10 ≤ 549755813888) :
    Calls Tryd.prog 30 #[.pointer (some ⟨b, 0, none⟩), v] w fun e w' => e = .returned (.tuple #[]) ∧ IsWr B b (Lib.byteCells (addWs l ([47] :: alW la))) w' ∧ Below B w w' ∧ Lib.OthersKept 5 (some b) w w' := by
  obtain ⟨AA, ac, rfl⟩ := ha.1
  have hcap := Nat.le_trans ha.caps.2.1 ha.caps.2.2
  have HA := Lib.hid ha
  have HI0 := Lib.hid h
  have HB0 := Lib.hid hb0
  have HL := Lib.hid hlen
  have hbl := h.lt
  clear ha h hb0 hlen
  go_enter Tryd.func30, Tryd.ntmps30
  go_wp2_with fail
  go_at_call 27
  have hk0 : Below w.heap.size w (w.alloc (.cells #[.string ⟨#[47]⟩] 9)) := (Below.refl _ _).alloc (Nat.le_refl _) _
  refine (word_any B b w.heap.size l [⟨#[47]⟩] _ (HI0.out.below hk0) (Blk.new _ _ _ _ rfl) (by omega) (by have := HL.out; show _ + 1 + 1 ≤ _; omega) (by have := hk0.size; omega) (by simp)).mono ?_
  rintro e W1 ⟨rfl, hI, hb1, hk1⟩
  have HI1 := Lib.hid (show IsWr B b (Lib.byteCells (addWs l ([47] :: alW (la.take 0)))) W1 from hI)
  have HB1 := Lib.hid ((hk0.mono hBw).trans hb1)
  have HO1 := Lib.hid ((others_of_below hk0).trans hk1)
  clear hI hb1 hk1 hk0
  go_wp2_with fail
  go_loopw [11] (fun i wr => ∃ k : Nat, k ≤ la.length ∧ i = .int .i64 k ∧ IsWr B b (Lib.byteCells (addWs l ([47] :: alW (la.take k)))) wr ∧ Below B w wr ∧ Lib.OthersKept 5 (some b) w wr) (fun i _ => la.length - (intOf i).toNat)
  case atStart => exact ⟨0, Nat.zero_le _, rfl, HI1.out, HB1.out, HO1.out⟩
  case round =>
    clear HI1 HB1 HO1
    obtain ⟨k, hk, rfl, hI, hb, ho⟩ := hrel
    have HI := Lib.hid hI
    have HB := Lib.hid hb
    have HO := Lib.hid ho
    have hbs : B ≤ wr.heap.size := Nat.le_trans hBw hb.size
    clear hI hb ho
    by_cases hlt : k < la.length
    · obtain ⟨x, hx⟩ : ∃ x, la[k]? = some x := ⟨_, List.getElem?_eq_getElem hlt⟩
      obtain ⟨ad, rfl, hab, c0, c1⟩ := HA.out.atw hx
      have HW0 := Lib.hid (HB0.out.trans (HB.out.mono h0))
      have k0 := (HW0.out.cell hab).trans c0
      have k1 := (HW0.out.cell (p := ⟨(ad.add (k * 2)).block, (ad.add (k * 2)).off + 1, none⟩) hab).trans c1
      have HTK := Lib.hid (show alW (la.take (k + 1)) = alW (la.take k) ++ [[alB x]] by rw [List.take_add_one, hx]; simp [alW])
      have HLk := Lib.hid (show (addWs l ([47] :: alW (la.take k))).length + 2 ≤ 1099511627776 by
        have h1 := addWs_len 1 ([47] :: alW (la.take k)) l (by
          intro w hw
          rcases List.mem_cons.1 hw with rfl | hw
          · exact Nat.le_refl _
          · obtain ⟨a, _, rfl⟩ := List.mem_map.1 hw
            exact Nat.le_refl _)
        have h2 := HL.out
        have h3 : ([47] :: alW (la.take k)).length ≤ la.length + 1 := by
          have : min k la.length ≤ la.length := Nat.min_le_right _ _
          simp [alW]
          omega
        omega)
      have hkl : (k : Int) < (la.length : Int) := by omega
      clear c0 c1 hx
      rcases x with ⟨_ | _, _ | _⟩
      · have hcat : catB [Utf8.encode 45] = [alB (false, false)] := by
          have e := enc45
          rw [Lib.toList_data] at e
          simp [catB, e, alB]
        have HCAT := Lib.hid hcat
        clear hcat
        go_wp2_with fail
        go_at_call 49
        refine calls_world (fun W => Below wr.heap.size wr W) (by go_grown) fun U hu => ?_
        have HU := Lib.hid hu
        clear hu
        refine (runeOf_any false false _).mono ?_
        rintro e V1 ⟨rfl, hk1⟩
        have HV := Lib.hid (Btrans HU.out hk1)
        clear hk1
        rw [show (((alB (false, false)).toNat : Nat) : Int) = 45 from rfl]
        go_wp2_with fail
        go_at_call 27
        have hk0 : Below V1.heap.size V1 (V1.alloc (.cells #[.string (Utf8.encode 45)] 9)) := (Below.refl _ _).alloc (Nat.le_refl _) _
        have hbw : b < V1.heap.size := (HI.out.below HV.out).lt
        refine (word_any B b V1.heap.size _ [Utf8.encode 45] _ ((HI.out.below HV.out).below hk0) (Blk.new _ _ _ _ rfl) (by omega) (by rw [HCAT.out]; have := HLk.out; show _ + 1 + 1 ≤ _; omega) (by have := HV.out.size; have := hk0.size; omega) (by simp)).mono ?_
        rintro e V3 ⟨rfl, hI3, hb3, hk3⟩
        rw [HCAT.out] at hI3
        have HI3 := Lib.hid hI3
        have HB3 := Lib.hid (HB.out.trans (((Btrans HV.out hk0).mono hbs).trans hb3))
        have HO3 := Lib.hid ((HO.out.trans (others_of_below (Btrans HV.out hk0))).trans hk3)
        clear hI3 hb3 hk3 hk0 k0 k1
        go_wp2
        go_roundw
        case rel => exact ⟨k + 1, by omega, by go_num, by
          have e := HI3.out
          rw [HTK.out, ← List.cons_append, addWs_snoc]
          exact e, HB3.out, HO3.out⟩
        case measure => simp [intOf]; omega
      · have hcat : catB [Utf8.encode 33] = [alB (false, true)] := by
          have e := enc33
          rw [Lib.toList_data] at e
          simp [catB, e, alB]
        have HCAT := Lib.hid hcat
        clear hcat
        go_wp2_with fail
        go_at_call 49
        refine calls_world (fun W => Below wr.heap.size wr W) (by go_grown) fun U hu => ?_
        have HU := Lib.hid hu
        clear hu
        refine (runeOf_any false true _).mono ?_
        rintro e V1 ⟨rfl, hk1⟩
        have HV := Lib.hid (Btrans HU.out hk1)
        clear hk1
        rw [show (((alB (false, true)).toNat : Nat) : Int) = 33 from rfl]
        go_wp2_with fail
        go_at_call 27
        have hk0 : Below V1.heap.size V1 (V1.alloc (.cells #[.string (Utf8.encode 33)] 9)) := (Below.refl _ _).alloc (Nat.le_refl _) _
        have hbw : b < V1.heap.size := (HI.out.below HV.out).lt
        refine (word_any B b V1.heap.size _ [Utf8.encode 33] _ ((HI.out.below HV.out).below hk0) (Blk.new _ _ _ _ rfl) (by omega) (by rw [HCAT.out]; have := HLk.out; show _ + 1 + 1 ≤ _; omega) (by have := HV.out.size; have := hk0.size; omega) (by simp)).mono ?_
        rintro e V3 ⟨rfl, hI3, hb3, hk3⟩
        rw [HCAT.out] at hI3
        have HI3 := Lib.hid hI3
        have HB3 := Lib.hid (HB.out.trans (((Btrans HV.out hk0).mono hbs).trans hb3))
        have HO3 := Lib.hid ((HO.out.trans (others_of_below (Btrans HV.out hk0))).trans hk3)
        clear hI3 hb3 hk3 hk0 k0 k1
        go_wp2
        go_roundw
        case rel => exact ⟨k + 1, by omega, by go_num, by
          have e := HI3.out
          rw [HTK.out, ← List.cons_append, addWs_snoc]
          exact e, HB3.out, HO3.out⟩
        case measure => simp [intOf]; omega
      · have hcat : catB [Utf8.encode 42] = [alB (true, false)] := by
          have e := enc42
          rw [Lib.toList_data] at e
          simp [catB, e, alB]
        have HCAT := Lib.hid hcat
        clear hcat
        go_wp2_with fail
        go_at_call 49
        refine calls_world (fun W => Below wr.heap.size wr W) (by go_grown) fun U hu => ?_
        have HU := Lib.hid hu
        clear hu
        refine (runeOf_any true false _).mono ?_
        rintro e V1 ⟨rfl, hk1⟩
        have HV := Lib.hid (Btrans HU.out hk1)
        clear hk1
        rw [show (((alB (true, false)).toNat : Nat) : Int) = 42 from rfl]
        go_wp2_with fail
        go_at_call 27
        have hk0 : Below V1.heap.size V1 (V1.alloc (.cells #[.string (Utf8.encode 42)] 9)) := (Below.refl _ _).alloc (Nat.le_refl _) _
        have hbw : b < V1.heap.size := (HI.out.below HV.out).lt
        refine (word_any B b V1.heap.size _ [Utf8.encode 42] _ ((HI.out.below HV.out).below hk0) (Blk.new _ _ _ _ rfl) (by omega) (by rw [HCAT.out]; have := HLk.out; show _ + 1 + 1 ≤ _; omega) (by have := HV.out.size; have := hk0.size; omega) (by simp)).mono ?_
        rintro e V3 ⟨rfl, hI3, hb3, hk3⟩
        rw [HCAT.out] at hI3
        have HI3 := Lib.hid hI3
        have HB3 := Lib.hid (HB.out.trans (((Btrans HV.out hk0).mono hbs).trans hb3))
        have HO3 := Lib.hid ((HO.out.trans (others_of_below (Btrans HV.out hk0))).trans hk3)
        clear hI3 hb3 hk3 hk0 k0 k1
        go_wp2
        go_roundw
        case rel => exact ⟨k + 1, by omega, by go_num, by
          have e := HI3.out
          rw [HTK.out, ← List.cons_append, addWs_snoc]
          exact e, HB3.out, HO3.out⟩
        case measure => simp [intOf]; omega
      · have hcat : catB [Utf8.encode 43] = [alB (true, true)] := by
          have e := enc43
          rw [Lib.toList_data] at e
          simp [catB, e, alB]
        have HCAT := Lib.hid hcat
        clear hcat
        go_wp2_with fail
        go_at_call 49
        refine calls_world (fun W => Below wr.heap.size wr W) (by go_grown) fun U hu => ?_
        have HU := Lib.hid hu
        clear hu
        refine (runeOf_any true true _).mono ?_
        rintro e V1 ⟨rfl, hk1⟩
        have HV := Lib.hid (Btrans HU.out hk1)
        clear hk1
        rw [show (((alB (true, true)).toNat : Nat) : Int) = 43 from rfl]
        go_wp2_with fail
        go_at_call 27
        have hk0 : Below V1.heap.size V1 (V1.alloc (.cells #[.string (Utf8.encode 43)] 9)) := (Below.refl _ _).alloc (Nat.le_refl _) _
        have hbw : b < V1.heap.size := (HI.out.below HV.out).lt
        refine (word_any B b V1.heap.size _ [Utf8.encode 43] _ ((HI.out.below HV.out).below hk0) (Blk.new _ _ _ _ rfl) (by omega) (by rw [HCAT.out]; have := HLk.out; show _ + 1 + 1 ≤ _; omega) (by have := HV.out.size; have := hk0.size; omega) (by simp)).mono ?_
        rintro e V3 ⟨rfl, hI3, hb3, hk3⟩
        rw [HCAT.out] at hI3
        have HI3 := Lib.hid hI3
        have HB3 := Lib.hid (HB.out.trans (((Btrans HV.out hk0).mono hbs).trans hb3))
        have HO3 := Lib.hid ((HO.out.trans (others_of_below (Btrans HV.out hk0))).trans hk3)
        clear hI3 hb3 hk3 hk0 k0 k1
        go_wp2
        go_roundw
        case rel => exact ⟨k + 1, by omega, by go_num, by
          have e := HI3.out
          rw [HTK.out, ← List.cons_append, addWs_snoc]
          exact e, HB3.out, HO3.out⟩
        case measure => simp [intOf]; omega
    · obtain rfl : k = la.length := by omega
      rw [List.take_length] at HI
      go_wp2
      go_end0
      exact ⟨rfl, HI.out, HB.out, HO.out⟩
end Go.Proofs.YtaelhgkodcgmnaaDoor
