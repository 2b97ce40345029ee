/- Layer 21: all alarms, said by lists. -/
import Derived.Test.YtcdmojimdiiepaaAlarmN
namespace Go.Proofs.Ytcdmojimdiiepaa
open Go.ChangeShapes Go.WideShapes Go.ChangeAt Go.RowKit
set_option linter.unusedVariables false
set_option linter.unusedSimpArgs false

/-- what lies ahead of lo, or from hi on, is as it was -/
def Fr (lo hi : Nat) (a b : World) : Prop := ∃ s, Only s a b ∧ ∀ x ∈ s, lo ≤ x ∧ x < hi
theorem Fr.refl (lo hi : Nat) (a : World) : Fr lo hi a a := ⟨[], Only.refl _ _, by simp⟩
theorem Fr.of_below {lo hi : Nat} {a b : World} (h : Below a.heap.size a b) : Fr lo hi a b := ⟨[], Only.of_below _ h, by simp⟩
theorem Fr.of_only {lo hi : Nat} {a b : World} {s : List Nat} (h : Only s a b) (hs : ∀ x ∈ s, lo ≤ x ∧ x < hi) : Fr lo hi a b := ⟨s, h, hs⟩
theorem Fr.trans {lo hi : Nat} {a b c : World} (h : Fr lo hi a b) (k : Fr lo hi b c) : Fr lo hi a c := by
  obtain ⟨s, h1, h2⟩ := h
  obtain ⟨t, k1, k2⟩ := k
  refine ⟨s ++ t, (h1.mono (fun x hx => List.mem_append.2 (.inl hx))).trans (k1.mono (fun x hx => List.mem_append.2 (.inr hx))), fun x hx => ?_⟩
  rcases List.mem_append.1 hx with hx | hx
  · exact h2 x hx
  · exact k2 x hx
theorem Fr.mono {lo hi lo2 hi2 : Nat} {a b : World} (h : Fr lo hi a b) (h1 : lo2 ≤ lo) (h2 : hi ≤ hi2) : Fr lo2 hi2 a b := by
  obtain ⟨s, k1, k2⟩ := h
  exact ⟨s, k1, fun x hx => by have := k2 x hx; omega⟩
theorem Fr.size {lo hi : Nat} {a b : World} (h : Fr lo hi a b) : a.heap.size ≤ b.heap.size := by
  obtain ⟨s, h, _⟩ := h
  exact h.size
theorem Fr.below {lo hi B : Nat} {w a b : World} (k : Fr lo hi a b) (h : Below B w a) (hB : B ≤ w.heap.size) (hl : B ≤ lo) : Below B w b := by
  obtain ⟨s, k1, k2⟩ := k
  exact Only.below h (Nat.le_trans hB h.size) k1 (fun x hx => by have := k2 x hx; omega)
theorem Blk.fr {lo hi x : Nat} {a b : World} {t : TypeId} {cs : Array Value} (h : Blk a x t cs) (k : Fr lo hi a b) (hx : x < lo ∨ hi ≤ x) : Blk b x t cs := by
  obtain ⟨s, k1, k2⟩ := k
  exact h.only k1 (fun hm => by have := k2 x hm; omega)
theorem RowN.fr {lo hi k n : Nat} {a b : World} {v : Value} {xs : List Value} (h : RowN k a v n xs) (f : Fr lo hi a b) (hs : ∀ ad n' c, v = .slice (some ad) n' c → ad.block < lo ∨ hi ≤ ad.block) : RowN k b v n xs := by
  obtain ⟨s, k1, k2⟩ := f
  exact h.only k1 (fun ad n' c e hm => by have := k2 _ hm; have := hs ad n' c e; omega)
theorem RowF.fr {B lo hi k n : Nat} {a b : World} {v : Value} {xs : List Value} (h : RowF B k a v n xs) (f : Fr lo hi a b) (hB : hi ≤ B) : RowF B k b v n xs :=
  ⟨h.1.fr f (fun ad n' c e => by have := h.2 ad n' c e; omega), h.2⟩

/-- a state whose alarms are L and M -/
def SS (W0 w : World) (lo hi pb : Nat) (L M : List Wt) : Prop := ∃ qr qc, St W0 w lo hi pb qr qc ∧ qr.map Prod.snd = L ∧ qc.map Prod.snd = M
theorem SS.fr {W0 a b : World} {lo hi lo2 hi2 pb : Nat} {L M : List Wt} (h : SS W0 a lo hi pb L M) (f : Fr lo2 hi2 a b) (hd : hi2 ≤ lo ∨ hi ≤ lo2) : SS W0 b lo hi pb L M := by
  obtain ⟨qr, qc, h1, h2, h3⟩ := h
  obtain ⟨s, k1, k2⟩ := f
  exact ⟨qr, qc, h1.only k1 (fun x hx => by have := k2 x hx; omega), h2, h3⟩
theorem SS.below {W0 a b : World} {lo hi pb : Nat} {L M : List Wt} (h : SS W0 a lo hi pb L M) (f : Below a.heap.size a b) : SS W0 b lo hi pb L M := by
  obtain ⟨qr, qc, h1, h2, h3⟩ := h
  exact ⟨qr, qc, h1.below f, h2, h3⟩
theorem SS.top {W0 a : World} {lo hi pb : Nat} {L M : List Wt} (h : SS W0 a lo hi pb L M) : hi ≤ a.heap.size ∧ lo < hi ∧ W0.heap.size ≤ lo := by
  obtain ⟨qr, qc, h1, h2, h3⟩ := h
  exact ⟨h1.top, by have := h1.head; omega, h1.base⟩
def ackL (n : Int) (L : List Wt) : List Wt := if 0 ≤ n ∧ n < (L.length : Int) then L.modify n.toNat Wt.ack else L
theorem ackL_len (n : Int) (L : List Wt) : (ackL n L).length = L.length := by unfold ackL; split <;> simp
theorem map_ackq (n : Int) (q : List (Nat × Wt)) : (ackq n q).map Prod.snd = ackL n (q.map Prod.snd) := by
  unfold ackq ackL
  rw [List.length_map]
  split
  · apply List.ext_getElem?
    intro i
    rw [List.getElem?_map, List.getElem?_modify, List.getElem?_modify, List.getElem?_map]
    cases q[i]? with
    | none => rfl
    | some x =>
      simp only [Option.map_some]
      split <;> rfl
  · rfl
theorem map_nx (cs : List Cl) (q : List (Nat × Wt)) : (q.map (nx cs)).map Prod.snd = (q.map Prod.snd).map (Wt.next cs) := by simp [nx, List.map_map, Function.comp_def]
theorem map_al (cs : List Cl) (q : List (Nat × Wt)) : (q.map fun x => (x.2.next cs).al) = (q.map Prod.snd).map (fun x => (x.next cs).al) := by simp [List.map_map, Function.comp_def]
def FrC (lo hi : Nat) (CA : Option Addr) : Prop := ∀ ad, CA = some ad → ad.block < lo ∨ hi ≤ ad.block
theorem SS.tick {W0 w : World} {lo hi pb : Nat} {L M : List Wt} (CA : Option Addr) (cc : Nat) (cs : List Cl) (h : SS W0 w lo hi pb L M) (hL : ∀ x ∈ L, x.ok cs.length) (hM : ∀ x ∈ M, x.ok cs.length)
    (hc : RowN 3 w (.slice CA cs.length cc) cs.length (c3c cs)) (hCA : FrC lo hi CA) (hn : cs.length = M.length) (h0 : Below W0.heap.size W0 w) (hl1 : L.length ≤ 100000) (hl2 : M.length ≤ 100000) :
    Calls Try.prog 20 #[.pointer (some ⟨pb, 0, none⟩), .slice CA cs.length cc] w fun e w' => ∃ va vb, e = .returned (.tuple #[va, vb]) ∧ RowF w.heap.size 2 w' va L.length (al2 (L.map fun x => (x.next cs).al)) ∧
      RowF w.heap.size 2 w' vb M.length (al2 (M.map fun x => (x.next cs).al)) ∧ SS W0 w' lo hi pb (L.map (Wt.next cs)) (M.map (Wt.next cs)) ∧ Fr lo hi w w' := by
  obtain ⟨qr, qc, hs, rfl, rfl⟩ := h
  rw [List.length_map] at hn hl1 hl2
  have hok : ∀ x ∈ qr ++ qc, x.2.ok cs.length := by
    intro x hx
    rcases List.mem_append.1 hx with hx | hx
    · exact hL _ (List.mem_map.2 ⟨x, hx, rfl⟩)
    · exact hM _ (List.mem_map.2 ⟨x, hx, rfl⟩)
  rw [List.length_map, List.length_map, ← map_al, ← map_al]
  rw [hn] at hok
  refine (tick_any W0 w lo hi pb qr qc CA cc cs hs (by rw [hn]; exact hok) hc hCA hn h0 hl1 hl2).mono ?_
  rintro e w1 ⟨va, vb, he, ra, rb, hs1, ho⟩
  exact ⟨va, vb, he, ra, rb, ⟨_, _, hs1, map_nx _ _, map_nx _ _⟩, ⟨_, ho, hs.within⟩⟩
theorem SS.tick_no {W0 w : World} {lo hi pb : Nat} {L M : List Wt} (CA : Option Addr) (cc : Nat) (cs : List Cl) (h : SS W0 w lo hi pb L M) (hn : cs.length ≠ M.length) :
    Calls Try.prog 20 #[.pointer (some ⟨pb, 0, none⟩), .slice CA cs.length cc] w fun e w' => e = .returned (.tuple #[.slice none 0 0, .slice none 0 0]) ∧ Below w.heap.size w w' := by
  obtain ⟨qr, qc, hs, rfl, rfl⟩ := h
  rw [List.length_map] at hn
  exact Go.Proofs.Ytcdmojimdiiepaa.tick_no W0 w lo hi pb qr qc CA cc cs hs hn
theorem SS.ackR {W0 w : World} {lo hi pb : Nat} {L M : List Wt} (n : Int) (h : SS W0 w lo hi pb L M) (hl : L.length ≤ 100000) :
    Calls Try.prog 16 #[.pointer (some ⟨pb, 0, none⟩), .int .i64 n] w fun e w' => e = .returned (.bool (decide (0 ≤ n ∧ n < (L.length : Int)))) ∧ SS W0 w' lo hi pb (ackL n L) M ∧ Fr lo hi w w' := by
  obtain ⟨qr, qc, hs, rfl, rfl⟩ := h
  rw [List.length_map] at hl ⊢
  refine (ackR_any W0 w lo hi pb qr qc n hs hl).mono ?_
  rintro e w1 ⟨he, hs1, ho⟩
  exact ⟨he, ⟨_, _, hs1, map_ackq _ _, rfl⟩, ⟨_, ho, hs.within⟩⟩
theorem SS.ackC {W0 w : World} {lo hi pb : Nat} {L M : List Wt} (n : Int) (h : SS W0 w lo hi pb L M) (hl : M.length ≤ 100000) :
    Calls Try.prog 18 #[.pointer (some ⟨pb, 0, none⟩), .int .i64 n] w fun e w' => e = .returned (.bool (decide (0 ≤ n ∧ n < (M.length : Int)))) ∧ SS W0 w' lo hi pb L (ackL n M) ∧ Fr lo hi w w' := by
  obtain ⟨qr, qc, hs, rfl, rfl⟩ := h
  rw [List.length_map] at hl ⊢
  refine (ackC_any W0 w lo hi pb qr qc n hs hl).mono ?_
  rintro e w1 ⟨he, hs1, ho⟩
  exact ⟨he, ⟨_, _, hs1, rfl, map_ackq _ _⟩, ⟨_, ho, hs.within⟩⟩
def newL (rs : List Rl) : List Wt := rs.map newR
def newM (c : Cf) : List Wt := (List.range (chansOf c.rows).length).map (newC c.St)
theorem SS.new (W0 w : World) (v : Value) (c : Cf) (rs : List Rl) (h : ConfR W0 v c rs) (h0 : Below W0.heap.size W0 w) (hN : (chansOf c.rows).length ≤ 100000) (hlen : rs.length ≤ 100000) :
    Calls Try.prog 14 #[v] w fun e w' => ∃ pb, e = .returned (.pointer (some ⟨pb, 0, none⟩)) ∧ SS W0 w' w.heap.size w'.heap.size pb (newL rs) (newM c) ∧ Below w.heap.size w w' := by
  refine (new_any W0 w v c rs h h0 hN hlen).mono ?_
  rintro e w1 ⟨pb, qr, qc, he, hs, h1, h2, hb⟩
  exact ⟨pb, he, ⟨qr, qc, hs, h1, h2⟩, hb⟩
theorem next_oks {n : Nat} {L : List Wt} (cs : List Cl) (h : ∀ x ∈ L, x.ok n) : ∀ x ∈ L.map (Wt.next cs), x.ok n := by
  intro x hx
  obtain ⟨y, hy, rfl⟩ := List.mem_map.1 hx
  exact next_ok (h y hy)
theorem ack_oks {n : Nat} {L : List Wt} (k : Int) (h : ∀ x ∈ L, x.ok n) : ∀ x ∈ ackL k L, x.ok n := by
  intro x hx
  unfold ackL at hx
  split at hx
  · obtain ⟨i, hi⟩ := List.getElem?_of_mem hx
    rw [List.getElem?_modify] at hi
    obtain ⟨y, hy, rfl⟩ := Option.map_eq_some_iff.1 hi
    split
    · exact ack_ok (h y (List.mem_of_getElem? hy))
    · exact h y (List.mem_of_getElem? hy)
  · exact h x hx
end Go.Proofs.Ytcdmojimdiiepaa
