/- Layer 23: the document's Text. -/
import Derived.Test.YtaelhgkodcgmnaaDoorRendAF
import Derived.Handy
import Derived.IntWalk
namespace Go.Proofs.YtaelhgkodcgmnaaDoor
open Go.ChangeShapes Go.WideShapes Go.ChangeAt Go.RowKit Go.Deep
open Go.Shelf
set_option linter.unusedVariables false
set_option linter.unusedSimpArgs false

set_option maxRecDepth 100000 in
set_option maxHeartbeats 8000000 in
theorem rtext_any (v : Value) (l : List TdV) (w : World) (hT : TRow w v l) (hE : Env w) (hsm : ∀ x ∈ l, smallT x.t) (hn : l.length ≤ 1000) :
    Calls Tryd.prog 19 #[v] w fun e w' => e = .returned (.string (strB (textR (l.map TdV.t)))) ∧ Below w.heap.size w w' := by
  obtain ⟨A, c, rfl⟩ := hT.1
  have HT := Lib.hid hT
  have HE := Lib.hid hE
  have HOK := Lib.hid (fun x hx => (⟨hsm x hx, (hT.2.2 x hx).2.2.2⟩ : smallT x.t ∧ td64 x.t))
  clear hT hE hsm
  go_enter Tryd.func19, Tryd.ntmps19
  go_wp2_with fail
  go_loopw [3, 4] (fun s i wr => ∃ (k : Nat) (X : ByteArray), k ≤ l.length ∧ s = .string X ∧ i = .int .i64 k ∧ X.data.toList = textR ((l.map TdV.t).take k) ∧ Below w.heap.size w wr) (fun _ i _ => l.length - (intOf i).toNat)
  case atStart => exact ⟨0, _, Nat.zero_le _, rfl, rfl, by simp [textR], by go_grown⟩
  case round =>
    obtain ⟨k, X, hk, rfl, rfl, hX, hb⟩ := hrel
    have HX := Lib.hid hX
    have HB := Lib.hid hb
    have hbs := hb.size
    have hxs : X.size ≤ 5001000 := by
      have h1 := text_len (l := (l.map TdV.t).take k) (fun t ht => by
        obtain ⟨y, hy, rfl⟩ := List.mem_map.1 (List.mem_of_mem_take ht)
        exact HOK.out y hy)
      have h2 : ((l.map TdV.t).take k).length ≤ 1000 := by rw [List.length_take, List.length_map]; omega
      rw [Lib.size_eq, hX]
      omega
    clear hX hb
    by_cases hlt : k < l.length
    · obtain ⟨x, hx⟩ : ∃ x, l[k]? = some x := ⟨_, List.getElem?_eq_getElem hlt⟩
      obtain ⟨ad, rfl, hab, c0, c1, c2, c3⟩ := HT.out.atw hx
      have k0 := (HB.out.cell hab).trans c0
      have k1 := (HB.out.cell (p := ⟨(ad.add (k * 4)).block, (ad.add (k * 4)).off + 1, none⟩) hab).trans c1
      have k2 := (HB.out.cell (p := ⟨(ad.add (k * 4)).block, (ad.add (k * 4)).off + 2, none⟩) hab).trans c2
      have k3 := (HB.out.cell (p := ⟨(ad.add (k * 4)).block, (ad.add (k * 4)).off + 3, none⟩) hab).trans c3
      have hkl : (k : Int) < (l.length : Int) := by omega
      have HM := Lib.hid (List.mem_of_getElem? hx)
      have HTK := Lib.hid (show textR ((l.map TdV.t).take (k + 1)) = textR ((l.map TdV.t).take k) ++ lineR x.t ++ [10] by rw [List.take_add_one, List.getElem?_map, hx]; exact text_snoc _ _)
      clear c0 c1 c2 c3 hx
      go_wp2_with fail
      go_at_call 16
      refine (rline_any _ x.t _ ((HT.out.2.2 x HM.out).told.below HB.out) (HOK.out x HM.out).2 (HE.out.below HB.out) (by obtain ⟨⟨g1, g2, g3⟩, _⟩ := HOK.out x HM.out; omega)).mono ?_
      rintro e U1 ⟨rfl, hk3⟩
      have HB2 := Lib.hid (Btrans HB.out hk3)
      have HX2 := Lib.hid (show (X ++ strB (lineR x.t) ++ (⟨#[10]⟩ : ByteArray)).data.toList = textR ((l.map TdV.t).take (k + 1)) by rw [app_data, app_data, HX.out, HTK.out, strB_data])
      have hls : (strB (lineR x.t)).size ≤ 5000 := by
        rw [Lib.size_eq, strB_data]
        exact line_len (HOK.out x HM.out).1 (HOK.out x HM.out).2
      clear hk3 k0 k1 k2 k3
      go_wp2
      go_roundw
      case rel => exact ⟨k + 1, _, by omega, rfl, by go_num, HX2.out, HB2.out⟩
      case measure => simp [intOf]; omega
    · obtain rfl : k = l.length := by omega
      rw [← List.length_map (f := TdV.t), List.take_length] at HX
      have HF := Lib.hid (str_eq HX.out)
      go_wp2
      go_ret
      exact ⟨by rw [HF.out]; first | rfl | simp, HB.out⟩
end Go.Proofs.YtaelhgkodcgmnaaDoor
