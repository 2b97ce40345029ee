/- Layer 23: words parted. -/
import Derived.Test.YtaelhgkodcgmnaaDoorRendQ
namespace Go.Proofs.YtaelhgkodcgmnaaDoor
open Go.ChangeShapes Go.WideShapes Go.ChangeAt Go.RowKit Go.Deep
open Go.Shelf
set_option linter.unusedVariables false
set_option linter.unusedSimpArgs false

theorem rowv_pre {w : World} {A : Option Addr} {n c k : Nat} {xs : List Value} (h : Row w (.slice A n c) xs) (hk : k ≤ xs.length) : Row w (.slice A k c) (xs.take k) := by
  obtain ⟨A', c', e, h1, h2, hA⟩ := h
  injection e with e1 e2 e3
  subst e1 e3
  have hl : (xs.take k).length = k := by simp; omega
  refine ⟨A, c, by rw [hl], by rw [hl]; omega, h2, ?_⟩
  rcases hA with h | ⟨ad, rfl, hb, hc⟩
  · exact .inl h
  · refine .inr ⟨ad, rfl, fun hp => hb (by rw [hl] at hp; omega), fun i x hx => hc i x ?_⟩
    rw [List.getElem?_take] at hx
    split at hx
    · exact hx
    · cases hx
theorem rowv_suf {w : World} {od : Addr} {n c k : Nat} {xs : List Value} (h : Row w (.slice (some od) n c) xs) (hk : k ≤ xs.length) : Row w (.slice (if c = k then some od else some (od.add k)) (n - k) (c - k)) (xs.drop k) := by
  obtain ⟨A', c', e, h1, h2, hA⟩ := h
  injection e with e1 e2 e3
  subst e1 e3
  subst e2
  have hl : (xs.drop k).length = xs.length - k := by simp
  by_cases hck : c = k
  · rw [if_pos hck]
    have hz : xs.drop k = [] := by
      apply List.eq_nil_of_length_eq_zero
      omega
    rw [hz]
    refine ⟨_, _, by rw [show xs.length - k = 0 by omega]; rfl, by simp, by omega, .inr ⟨od, rfl, fun hp => by simp at hp, fun i x hx => by simp at hx⟩⟩
  rw [if_neg hck]
  refine ⟨_, _, by rw [hl], by rw [hl]; omega, by omega, ?_⟩
  rcases hA with ⟨h, _⟩ | ⟨ad, h, hb, hc⟩
  · cases h
  · injection h with h
    subst h
    refine .inr ⟨_, rfl, fun hp => ?_, fun i x hx => ?_⟩
    · rw [block_add]; exact hb (by rw [hl] at hp; omega)
    · rw [Go.Deep.add_add]
      refine hc (k + i) x ?_
      rw [List.getElem?_drop] at hx
      exact hx
/-- words -/
def D (ps : List ByteArray) : List Str := ps.map fun p => p.data.toList
theorem D_take (ps : List ByteArray) (k : Nat) : D (ps.take k) = (D ps).take k := by unfold D; rw [List.map_take]
theorem D_drop (ps : List ByteArray) (k : Nat) : D (ps.drop k) = (D ps).drop k := by unfold D; rw [List.map_drop]
def slash : ByteArray := ⟨#[47]⟩
theorem slash_iff (z : ByteArray) : z = slash ↔ z.data.toList = [47] := by
  constructor
  · rintro rfl; rfl
  · intro h
    exact ByteArray.ext (Array.toList_inj.mp h)
theorem idx_cut : ∀ (zs : List ByteArray) (i : Nat), (Lib.idxFromS zs slash i = -1 ∧ cutW (D zs) = none) ∨ ∃ k, k < zs.length ∧ Lib.idxFromS zs slash i = ((i + k : Nat) : Int) ∧ cutW (D zs) = some (D (zs.take k), D (zs.drop (k + 1))) := by
  intro zs
  induction zs with
  | nil => exact fun i => .inl ⟨rfl, rfl⟩
  | cons z zs ih =>
    intro i
    have e : D (z :: zs) = z.data.toList :: D zs := rfl
    rw [e]
    unfold Lib.idxFromS cutW
    by_cases hz : z = slash
    · rw [if_pos hz, if_pos ((slash_iff z).1 hz)]
      exact .inr ⟨0, by simp, rfl, rfl⟩
    · rw [if_neg hz, if_neg (fun h => hz ((slash_iff z).2 h))]
      rcases ih (i + 1) with ⟨h1, h2⟩ | ⟨k, h0, h1, h2⟩
      · rw [h1, h2]
        exact .inl ⟨rfl, rfl⟩
      · rw [h1, h2]
        refine .inr ⟨k + 1, by simp; omega, by congr 1; omega, rfl⟩
/-- a row of words -/
def WRow (w : World) (v : Value) (ps : List ByteArray) : Prop := SRow w v ps ∧ ∀ A n c, v = .slice (some A) n c → A.spot = none
theorem WRow.below {w w' : World} {v : Value} {ps : List ByteArray} (h : WRow w v ps) (hb : Below w.heap.size w w') : WRow w' v ps := ⟨h.1.below hb, h.2⟩
theorem WRow.nil_ {w : World} : WRow w (.slice none 0 0) [] := ⟨Row.nil_, fun A n c e => by cases e⟩
theorem add_none (b o i : Nat) : (⟨b, o, none⟩ : Addr).add i = ⟨b, o + i, none⟩ := by
  unfold Addr.add
  split
  · rename_i h
    subst h
    rfl
  · rfl
theorem index_any (v : Value) (ps : List ByteArray) (w : World) (h : WRow w v ps) :
    Calls Tryd.prog 56 #[v, .string slash] w fun e w' => e = .returned (.int .i64 (Lib.idxOfS ps slash)) ∧ w' = w := by
  obtain ⟨⟨A, c, e, h2, h3, h4⟩, hs⟩ := h
  rw [List.length_map] at e h2 h4
  subst e
  rcases h4 with ⟨rfl, rfl⟩ | ⟨ad, rfl, hb, hc⟩
  · have hz : ps = [] := List.eq_nil_of_length_eq_zero (by omega)
    subst hz
    exact Tryd.slices_Index_string_empty none 0 slash w
  · obtain ⟨b, o, sp⟩ := ad
    obtain rfl : sp = none := hs _ _ _ rfl
    have h3' : c ≤ 9223372036854775807 := by unfold maxLen at h3; omega
    have hx := Tryd.slices_Index_string b o ps.length c ps slash w (Nat.le_refl _) (by omega) (fun j hj => by
      rw [← add_none]
      refine hc j _ ?_
      rw [List.getElem?_map, List.getElem?_eq_getElem hj]
      simp [List.getD, List.getElem?_eq_getElem hj])
    rw [List.take_length] at hx
    exact hx
/-- words parted at the first '/' -/
def CutP (w : World) (ps : List ByteArray) (va vb : Value) (o : Bool) : Prop := (o = false ∧ cutW (D ps) = none ∧ va = .slice none 0 0 ∧ vb = .slice none 0 0) ∨ (o = true ∧ ∃ k, k < ps.length ∧ cutW (D ps) = some (D (ps.take k), D (ps.drop (k + 1))) ∧ WRow w va (ps.take k) ∧ WRow w vb (ps.drop (k + 1)))
def CutQ (w : World) (ps : List ByteArray) (e : Ending) : Prop := ∃ va vb o, e = .returned (.tuple #[va, vb, .bool o]) ∧ CutP w ps va vb o
theorem below_drew1 (w : World) : Below w.heap.size w w.drew := ⟨rfl, rfl, rfl, Nat.le_refl _, fun _ _ => rfl⟩
set_option maxRecDepth 100000 in
set_option maxHeartbeats 4000000 in
theorem cutWords_any (v : Value) (ps : List ByteArray) (w : World) (h : WRow w v ps) :
    Calls Tryd.prog 40 #[v] w fun e w' => CutQ w ps e ∧ Below w.heap.size w w' := by
  obtain ⟨A, c, e, hl⟩ := h.1.len
  subst e
  go_enter Tryd.func40, Tryd.ntmps40
  go_wp2_with fail
  go_at_call 56
  refine (index_any _ ps w h).mono ?_
  rintro e w1 ⟨rfl, rfl⟩
  unfold Lib.idxOfS
  rcases idx_cut ps 0 with ⟨h1, h2⟩ | ⟨k, h0, h1, h2⟩
  · rw [h1]
    go_wp2_with fail
    refine bodyPost_ret (v := .tuple #[.slice none 0 0, .slice none 0 0, .bool false]) (by simp [results, Tryd.results40, go_sem]) rfl ?_
    exact ⟨⟨_, _, _, rfl, .inl ⟨rfl, h2, rfl, rfl⟩⟩, Below.refl _ _⟩
  · rw [h1, Nat.zero_add]
    obtain ⟨ad, rfl⟩ : ∃ ad, A = some ad := by
      obtain ⟨A', c', e, g1, g2, g3⟩ := h.1
      injection e with e1 e2 e3
      rw [List.length_map] at g1
      rcases g3 with ⟨_, g⟩ | ⟨ad, g, _⟩
      · omega
      · exact ⟨ad, e1.trans g⟩
    have hc : ps.length ≤ c ∧ c ≤ 9223372036854775807 := by
      obtain ⟨A', c', e, g1, g2, g3⟩ := h.1
      injection e with e1 e2 e3
      rw [List.length_map] at g1
      unfold maxLen at g2
      omega
    have HPRE := Lib.hid (rowv_pre h.1 (k := k) (by rw [List.length_map]; omega))
    have HSUF := Lib.hid (rowv_suf h.1 (k := k + 1) (by rw [List.length_map]; omega))
    have HSP := Lib.hid (h.2 _ _ _ rfl)
    have HC := Lib.hid h2
    clear h h1 h2
    have f0 : ¬ ((k : Int) < 0) := by omega
    have f1 : (0 : Int) ≤ (k : Int) := by omega
    have f2 : (k : Int) ≤ (c : Int) := by omega
    have f3 : (0 : Int) ≤ (k : Int) + 1 := by omega
    have f4 : (k : Int) + 1 ≤ (ps.length : Int) := by omega
    have f5 : (ps.length : Int) ≤ (c : Int) := by omega
    have f6 : (k : Int) ≤ (ps.length : Int) := by omega
    have f7 : IntKind.i64.wrap ((k : Int) + 1) = (k : Int) + 1 := by rw [IntKind.wrap_i64]; omega
    go_wp2_with fail
    go_region
    all_goals (try dsimp only [Exit.then])
    all_goals (try go_wp2_with fail)
    · have hck := h
      refine bodyPost_ret (v := .tuple #[.slice (some ad) k (k + 1), .slice (some ad) (ps.length - (k + 1)) 0, .bool true]) (by simp [results, Tryd.results40, go_sem]) rfl ?_
      refine ⟨⟨_, _, _, rfl, .inr ⟨rfl, k, h0, HC.out, ⟨?_, ?_⟩, ?_, ?_⟩⟩, below_drew1 _⟩
      · have := HPRE.out
        rw [← List.map_take, hck] at this
        exact this
      · intro A n c e; injection e with e; injection e with e; rw [← e]; exact HSP.out
      · have := HSUF.out
        rw [← List.map_drop, if_pos hck, hck, Nat.sub_self] at this
        exact this
      · intro A n c e; injection e with e; injection e with e; rw [← e]; exact HSP.out
    · have hck := h
      refine bodyPost_ret (v := .tuple #[.slice (some ad) k c, .slice (some ⟨ad.block, ad.off + (k + 1), none⟩) (ps.length - (k + 1)) (c - (k + 1)), .bool true]) (by simp [results, Tryd.results40, go_sem]) rfl ?_
      refine ⟨⟨_, _, _, rfl, .inr ⟨rfl, k, h0, HC.out, ⟨?_, ?_⟩, ?_, ?_⟩⟩, below_drew1 _⟩
      · have := HPRE.out
        rw [← List.map_take] at this
        exact this
      · intro A n c e; injection e with e; injection e with e; rw [← e]; exact HSP.out
      · have := HSUF.out
        rw [← List.map_drop, if_neg hck] at this
        unfold Addr.add at this
        rw [if_neg (by omega)] at this
        exact this
      · intro A n c e; injection e with e; injection e with e; rw [← e]
end Go.Proofs.YtaelhgkodcgmnaaDoor
