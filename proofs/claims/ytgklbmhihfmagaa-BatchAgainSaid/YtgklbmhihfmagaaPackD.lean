/- Layer 4: laying. -/
import Derived.Test.YtgklbmhihfmagaaPackC
namespace Go.Proofs.Ytgklbmhihfmagaa
open Go.ChangeShapes Go.WideShapes Go.ChangeAt Go.RowKit
set_option linter.unusedVariables false
set_option linter.unusedSimpArgs false

/-- Nothing but block g has turned. -/
structure Side (g : Nat) (w w' : World) : Prop where
  os : w'.os = w.os
  tape : w'.tape = w.tape
  output : w'.output = w.output
  size : w.heap.size ≤ w'.heap.size
  block : ∀ b, b < w.heap.size → b ≠ g → w'.heap[b]? = w.heap[b]?
theorem Side.refl (g : Nat) (w : World) : Side g w w := ⟨rfl, rfl, rfl, Nat.le_refl _, fun _ _ _ => rfl⟩
theorem Side.trans {g : Nat} {a b c : World} (h : Side g a b) (k : Side g b c) : Side g a c :=
  ⟨k.os.trans h.os, k.tape.trans h.tape, k.output.trans h.output, Nat.le_trans h.size k.size, fun i hi hg => (k.block i (Nat.lt_of_lt_of_le hi h.size) hg).trans (h.block i hi hg)⟩
theorem Side.of_below {g : Nat} {a b : World} (h : Below a.heap.size a b) : Side g a b := ⟨h.os, h.tape, h.output, h.size, fun i hi _ => h.block i hi⟩
theorem Side.below {g B : Nat} {a b c : World} (h : Below B a b) (hB : B ≤ b.heap.size) (k : Side g b c) (hg : B ≤ g) : Below B a c :=
  h.trans ⟨k.os, k.tape, k.output, k.size, fun i hi => k.block i (by omega) (by omega)⟩
theorem Blk.side {w w' : World} {b g : Nat} {t : TypeId} {cs : Array Value} (h : Blk w b t cs) (k : Side g w w') (hne : b ≠ g) : Blk w' b t cs := (k.block b h.lt hne).trans h
theorem Side.row {w : World} {g : Nat} (cs : Array Value) : Side g w (w.setRow g cs) := ⟨rfl, rfl, rfl, by simp [World.setRow], fun k hk hne => setRow_other w g k cs hne⟩
theorem Side.cell {w w' : World} {g : Nat} (k : Side g w w') {p : Addr} (hp : p.block < w.heap.size) (hne : p.block ≠ g) : w'.cell? p = w.cell? p := by
  unfold World.cell?
  rw [k.block _ hp hne]

def laidL (N : Nat) (pre : List Int) : List Value := (pre ++ List.replicate (N - pre.length) (0 : Int)).map (Value.int .u8)
def Laid (w : World) (g N : Nat) (pre : List Int) : Prop := Blk w g 5 (laidL N pre).toArray
theorem laid_len (N : Nat) (pre : List Int) (h : pre.length ≤ N) : (laidL N pre).length = N := by simp [laidL]; omega
theorem laid_step (N : Nat) (pre cs : List Int) (h : pre.length + cs.length ≤ N) :
    (laidL N pre).take pre.length ++ (cs.map (Value.int .u8) ++ (laidL N pre).drop (pre.length + cs.length)) = laidL N (pre ++ cs) := by
  unfold laidL
  rw [← List.map_take, ← List.map_drop, ← List.map_append, ← List.map_append]
  congr 1
  rw [List.take_append_of_le_length (Nat.le_refl _), List.take_length, List.append_assoc]
  congr 2
  rw [List.drop_append, List.drop_eq_nil_of_le (by omega), List.nil_append, List.drop_replicate, List.length_append]
  congr 1
  omega

set_option maxRecDepth 100000 in
set_option maxHeartbeats 4000000 in
theorem lay_any (g N : Nat) (pre : List Int) (l n : Int) (w : World) (hN : N ≤ 26) (hl : l = 1 ∨ l = 2 ∨ l = 5) (h0 : 0 ≤ n) (h1 : n < 256 ^ l.toNat) (hfit : pre.length + l.toNat ≤ N) (hL : Laid w g N pre) :
    Calls Try.prog 60 #[.slice (some ⟨g, 0, none⟩) N N, .agg #[.int .i64 pre.length, .int .i64 l], .int .i64 n] w fun e w' => e = .returned (.tuple #[]) ∧ Laid w' g N (pre ++ putB n l.toNat) ∧ Side g w w' := by
  have HL := Lib.hid hL
  have lg := hL.lt
  have hlen := putB_len n l.toNat
  have hcl := laid_len N pre (by omega)
  have hst := Lib.hid (laid_step N pre (putB n l.toNat) (by omega))
  have hpl : ((pre.length : Nat) : Int) ≤ 26 := by omega
  clear hL
  go_enter Try.func60, Try.ntmps60
  go_wp2_with fail
  have HF := Lib.hid (Blk.new w 100 #[.int .i64 pre.length, .int .i64 l] _ rfl)
  refine (put_yes n l _ (by omega) (by omega) h0 h1).mono ?_
  rintro e w1 ⟨v, rfl, ⟨⟨A, c, rfl, hc, hcm, hA⟩, hr⟩, hk⟩
  have hb1 : Below w.heap.size w w1 := (show Below w.heap.size w _ by go_grown).trans (hk.mono (by simp))
  have HF1 := Lib.hid (HF.out.below hk)
  have hx := HF1.out.cells
  have HL1 := Lib.hid (HL.out.below hb1)
  clear hk HF HL
  rw [List.length_map, hlen] at hc hA ⊢
  obtain ⟨ad, rfl, hcell⟩ : ∃ ad, A = some ad ∧ ∀ i x, (List.map (Value.int .u8) (putB n l.toNat))[i]? = some x → w1.cell? (ad.add i) = some x := by
    rcases hA with ⟨_, h0⟩ | ⟨ad, h2, _, h3⟩
    · omega
    · exact ⟨ad, h2, h3⟩
  have HC := Lib.hid hcell
  clear hcell hA
  have hbs : ((putB n l.toNat).map (Value.int .u8)).length = l.toNat := by rw [List.length_map, hlen]
  go_wp2_with ((with_reducible show wpList _ _ _ _ _ _); refine wpList_copy_own rfl (.tmp 18) (.tmp 19) 73 28 rfl 5 (by kernel_rfl) (by kernel_rfl) g pre.length (N - pre.length) (N - pre.length) ad l.toNat c ?_ rfl (laidL N pre).toArray 5 HL1.out ((putB n l.toNat).map (.int .u8)) ?_ HC.out ?_ (one_ints _ _) ?_)
  case refine_1 => rfl
  case refine_2 => rw [hbs]; exact (Nat.min_eq_left (by omega)).symm
  case refine_3 => rw [hbs, List.size_toArray, hcl]; omega
  go_wp2
  go_returns
  refine ⟨rfl, ?_, (Side.of_below hb1).trans (Side.row _)⟩
  have e := hst.out
  rw [hlen] at e
  show (w1.setRow _ _).heap[g]? = _
  rw [e]
  exact setRow_heap w1 g (laidL N pre).toArray _ 5 (0, 0) HL1.out

/-- the k-th field: where it stands, how long it is, its number -/
theorem at_h (p : Pk) (k : Nat) (hk : k < 5) (hp : headOk p) : ∃ (l n : Int), (l = 1 ∨ l = 2 ∨ l = 5) ∧ 0 ≤ n ∧ n < 256 ^ l.toNat ∧ (hdata p k).length + l.toNat ≤ 10 ∧ hdata p k ++ putB n l.toNat = hdata p (k + 1) ∧
    (∀ w, (Instr.index 101 (.agg #[.int .i64 0, .int .i64 1, .int .i64 1, .int .i64 1, .int .i64 2, .int .i64 1, .int .i64 3, .int .i64 2, .int .i64 5, .int .i64 5]) (.int .i64 k)).run Try.prog w = .ok (.agg #[.int .i64 (hdata p k).length, .int .i64 l]) w) ∧
    (#[.int .i64 p.dev, .int .i64 p.chan, .int .i64 p.boot, .int .i64 p.seq, .int .i64 p.stamp] : Array Value)[k]? = some (.int .i64 n) := by
  obtain ⟨h0, h1, h2, h3, h4⟩ := hp
  rcases (by omega : k = 0 ∨ k = 1 ∨ k = 2 ∨ k = 3 ∨ k = 4) with rfl | rfl | rfl | rfl | rfl
  · exact ⟨1, p.dev, by omega, h0.1, by show p.dev < 256; omega, by simp [hdata], by simp [hdata], idx0, rfl⟩
  · exact ⟨1, p.chan, by omega, h1.1, by show p.chan < 256; omega, by simp [hdata, putB_len], by simp [hdata], by simpa [hdata, putB_len] using idx1, rfl⟩
  · exact ⟨1, p.boot, by omega, h2.1, by show p.boot < 256; omega, by simp [hdata, putB_len], by simp [hdata], by simpa [hdata, putB_len] using idx2, rfl⟩
  · exact ⟨2, p.seq, by omega, h3.1, by show p.seq < 65536; omega, by simp [hdata, putB_len], by simp [hdata], by simpa [hdata, putB_len] using idx3, rfl⟩
  · exact ⟨5, p.stamp, by omega, h4.1, by show p.stamp < 1099511627776; omega, by simp [hdata, putB_len], by simp [hdata], by simpa [hdata, putB_len] using idx4, rfl⟩
end Go.Proofs.Ytgklbmhihfmagaa
