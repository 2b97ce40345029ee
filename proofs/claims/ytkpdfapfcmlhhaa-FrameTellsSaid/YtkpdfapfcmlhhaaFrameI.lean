/- Layer 3: appends of bytes. -/
import Derived.Test.YtkpdfapfcmlhhaaFrameG
namespace Go.Proofs.Ytkpdfapfcmlhhaa
open Go.ChangeShapes Go.WideShapes Go.ChangeAt Go.RowKit
set_option linter.unusedVariables false
set_option linter.unusedSimpArgs false

/-- The slice v is a row of these bytes, of the call's own. -/
def OwnB (w : World) (base : Nat) (v : Value) (xs : List Int) : Prop := w.ownsRow base 5 1 v xs.length (xs.map (Value.int .u8))
theorem OwnB.own {w : World} {base : Nat} {v : Value} {xs : List Int} (h : OwnB w base v xs) (hr : U8s xs) : Own8 w v xs := Own8.of_own h hr
theorem OwnB.below {w w' : World} {base : Nat} {v : Value} {xs : List Int} (h : OwnB w base v xs) (hb : Below w.heap.size w w') : OwnB w' base v xs := own_below h hb
theorem ownB_empty (w : World) (base n : Nat) (hb : base ≤ w.heap.size) (hn : n = w.heap.size) : OwnB (w.alloc (.cells #[] 5)) base (.slice (some ⟨n, 0, none⟩) 0 0) [] := own_empty w base n _ hb hn
theorem ownB_nil {w : World} {base : Nat} : OwnB w base (.slice none 0 0) [] := own_nil _ _
theorem wpList_apO {w : World} {ops : Array Oper} {rest : List Oper} {o : Oper} {a : Act} {Q : Exit → Act → World → Prop} (hgd : o.guard = none) (s x : Operand)
    (ho : o.op = .call { callee := .builtin .append, args := #[s, x], argTypes := #[22, 22] }) (base : Nat) (v : Value) (xs : List Int) (hs : a.eval s = v) (hown : OwnB w base v xs)
    (vx : Value) (ys : List Int) (hx : a.eval x = vx) (hB : Bytes w vx ys) (zs : List Int) (hz : zs = xs ++ ys) (hn : zs.length ≤ 1000000) (hbase : base ≤ w.heap.size) (w0 : World) (B : Nat) (hB0 : B ≤ base) (hb : Below B w0 w)
    (h : ∀ v' w', Hid (OwnB w' base v' zs) → Below B w0 w' → wpList Try.prog ops Q rest (a.put o.dst v') w') : wpList Try.prog ops Q (o :: rest) a w := by
  subst hz
  rw [List.length_append] at hn
  refine wpList_app el8 hgd s x ho base v xs.length _ hs hown vx (ys.map (.int .u8)) hx hB.1 (one_ints _ _) ?_ ?_ hbase ?_
  · rw [List.length_map]; unfold maxLen; omega
  · rw [List.length_map]; omega
  · intro v' w' ho hg _
    refine h v' w' (Lib.hid ?_) (below_app hb (Nat.le_trans hB0 hbase) hown hg hB0)
    unfold OwnB
    rw [List.map_append, List.length_append]
    rw [List.length_map] at ho
    exact ho
end Go.Proofs.Ytkpdfapfcmlhhaa
