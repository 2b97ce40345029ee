/- Layer 23: the document's Read, the mathematics; its number. -/
import Derived.Test.YtaelhgkodcgmnaaDoorRendAG
namespace Go.Proofs.YtaelhgkodcgmnaaDoor
open Go.ChangeShapes Go.WideShapes Go.ChangeAt Go.RowKit Go.Deep
open Go.Shelf
set_option linter.unusedVariables false
set_option linter.unusedSimpArgs false

/-- the number of a word, whatever it is -/
def numR (l : Str) : Int := match Lib.atoiAll l with
  | .ok v => v
  | .range => Lib.atoiSat l
  | _ => 0
theorem numR_64 (l : Str) : in64 (numR l) := by
  unfold numR
  split
  · rename_i v e
    exact Lib.atoiAll_bounds e
  · exact Lib.atoiSat_bounds l
  · exact ⟨by decide, by decide⟩
theorem numR_itoa {n : Int} (h : in64 n) : numR (Lib.itoa n) = n := by
  unfold numR
  rw [atoi_itoa h]
theorem atoi_num (s : ByteArray) (hlim : s.size ≤ 281474976710656) (w : World) (hE : Env w) :
    Calls Tryd.prog 39 #[.string s] w fun e w' => (∃ E, e = .returned (.tuple #[.int .i64 (numR s.data.toList), E])) ∧ Below w.heap.size w w' := by
  unfold numR
  rcases h : Lib.atoiAll s.data.toList with v | _ | _
  · refine (Tryd.strconv_Atoi_ok s (by omega) v h w).mono ?_
    rintro e w' ⟨rfl, hw⟩
    refine ⟨⟨_, rfl⟩, ?_⟩
    rcases hw with rfl | ⟨t, rfl⟩
    · exact Below.refl _ _
    · exact Lib.bytesWorld_below _ _ _
  · obtain ⟨tp, p, hv⟩ := hE.syn
    refine (Tryd.strconv_Atoi_syntax_var s hlim h tp p w hv).mono ?_
    rintro e w' ⟨N, rfl, _, _, hb⟩
    exact ⟨⟨_, rfl⟩, hb⟩
  · obtain ⟨tp, p, hv⟩ := hE.rng
    refine (Tryd.strconv_Atoi_range_var s hlim h tp p w hv).mono ?_
    rintro e w' ⟨N, rfl, _, _, hb⟩
    exact ⟨⟨_, rfl⟩, hb⟩
set_option maxRecDepth 100000 in
set_option maxHeartbeats 1000000 in
theorem number_num (s : ByteArray) (hlim : s.size ≤ 281474976710656) (w : World) (hE : Env w) :
    Calls Tryd.prog 24 #[.string s] w fun e w' => e = .returned (.int .i64 (numR s.data.toList)) ∧ Below w.heap.size w w' := by
  obtain ⟨n, hn⟩ : ∃ n, n = numR s.data.toList := ⟨_, rfl⟩
  rw [← hn]
  have HN := Lib.hid hn
  clear hn
  go_enter Tryd.func24, Tryd.ntmps24
  go_wp2_with fail
  go_at_call 39
  refine (atoi_num s hlim w hE).mono ?_
  rintro e w1 ⟨⟨E, rfl⟩, hb⟩
  rw [← HN.out]
  go_wp2_with fail
  go_ret
  exact ⟨by rfl, hb⟩

/-! ### A guess by words -/
def gcell (w : Str) : Cl :=
  if w = [109] then ⟨2, 0, 0⟩ else if w = [117] then ⟨3, 0, 0⟩ else if w = [114] then ⟨4, 0, 0⟩
  else ⟨1, numR (Lib.cut (Lib.trimPrefix w [118]) [64]).1, numR (Lib.cut (Lib.trimPrefix w [118]) [64]).2.1⟩
def galarm (w : Str) : Bool × Bool := (decide (w = [43]) || decide (w = [42]), decide (w = [43]) || decide (w = [33]))
def gstep (g : Nat × Td) (w : Str) : Nat × Td :=
  if w = [47] then (g.1 + 1, g.2)
  else if g.1 = 0 then (g.1, { g.2 with cells := g.2.cells ++ [gcell w] })
  else if g.1 = 1 then (g.1, { g.2 with rules := g.2.rules ++ [galarm w] })
  else (g.1, { g.2 with chans := g.2.chans ++ [galarm w] })
def gtick (ws : List Str) : Int := match ws[1]? with
  | some w => numR w
  | none => 0
def gst (ws : List Str) (k : Nat) : Nat × Td := ((ws.take k).drop 2).foldl gstep (0, ⟨gtick ws, [], [], []⟩)
def guess (ws : List Str) : Td := (gst ws ws.length).2
theorem gst_two (ws : List Str) : gst ws 2 = (0, ⟨gtick ws, [], [], []⟩) := by
  unfold gst
  rw [List.drop_eq_nil_of_le (by rw [List.length_take]; exact Nat.min_le_left _ _)]
  rfl
theorem gst_succ {ws : List Str} {k : Nat} {w : Str} (h2 : 2 ≤ k) (hw : ws[k]? = some w) : gst ws (k + 1) = gstep (gst ws k) w := by
  have hk : k < ws.length := (List.getElem?_eq_some_iff.1 hw).1
  unfold gst
  rw [List.take_add_one, hw]
  show List.foldl gstep _ ((ws.take k ++ [w]).drop 2) = _
  rw [List.drop_append_of_le_length (by rw [List.length_take]; omega), List.foldl_append]
  rfl
theorem gst_end {ws : List Str} {k : Nat} (h : ws.length ≤ k) : (gst ws k).2 = guess ws := by
  unfold guess gst
  rw [List.take_of_length_le h, List.take_length]
theorem gcell_64 (w : Str) : cl64 (gcell w) := by
  have z : in64 0 := ⟨by decide, by decide⟩
  unfold gcell
  (repeat' split) <;> first | exact ⟨z, z⟩ | exact ⟨numR_64 _, numR_64 _⟩
theorem gstep_64 {g : Nat × Td} (h : td64 g.2) (w : Str) : td64 (gstep g w).2 := by
  unfold gstep
  (repeat' split)
  · exact h
  · refine ⟨h.1, fun c hc => ?_⟩
    rcases List.mem_append.1 hc with hc | hc
    · exact h.2 c hc
    · rw [List.mem_singleton] at hc
      subst hc
      exact gcell_64 w
  · exact h
  · exact h
theorem fold_64 : ∀ (ws : List Str) (g : Nat × Td), td64 g.2 → td64 (ws.foldl gstep g).2 := by
  intro ws
  induction ws with
  | nil => intro g h; exact h
  | cons w ws ih => intro g h; exact ih _ (gstep_64 h w)
theorem gst_64 (ws : List Str) (k : Nat) : td64 (gst ws k).2 := by
  refine fold_64 _ _ ⟨?_, by simp⟩
  show in64 (gtick ws)
  unfold gtick
  split
  · exact numR_64 _
  · exact ⟨by decide, by decide⟩
def tot (t : Td) : Nat := t.cells.length + t.rules.length + t.chans.length
theorem gstep_len (g : Nat × Td) (w : Str) : (gstep g w).1 + tot (gstep g w).2 = g.1 + tot g.2 + 1 := by
  unfold gstep
  (repeat' split) <;> simp [tot] <;> omega
theorem fold_len : ∀ (ws : List Str) (g : Nat × Td), (ws.foldl gstep g).1 + tot (ws.foldl gstep g).2 = g.1 + tot g.2 + ws.length := by
  intro ws
  induction ws with
  | nil => intro g; rfl
  | cons w ws ih =>
    intro g
    have h1 := ih (gstep g w)
    have h2 := gstep_len g w
    rw [List.foldl_cons, List.length_cons]
    omega
theorem gst_len (ws : List Str) (k : Nat) : (gst ws k).1 + tot (gst ws k).2 ≤ k := by
  have h := fold_len ((ws.take k).drop 2) (0, ⟨gtick ws, [], [], []⟩)
  have h2 : ((ws.take k).drop 2).length ≤ k := by rw [List.length_drop, List.length_take]; omega
  have h3 : tot (⟨gtick ws, [], [], []⟩ : Td) = 0 := rfl
  unfold gst
  rw [h3] at h
  dsimp only at h
  omega
theorem gst_tick (ws : List Str) (k : Nat) : (gst ws k).2.tick = gtick ws := by
  have key : ∀ (l : List Str) (g : Nat × Td), (l.foldl gstep g).2.tick = g.2.tick := by
    intro l
    induction l with
    | nil => intro g; rfl
    | cons w l ih =>
      intro g
      rw [List.foldl_cons, ih]
      unfold gstep
      (repeat' split) <;> rfl
  exact key _ _
theorem trim_v (l : Str) : Lib.trimPrefix (118 :: l) [118] = l := by
  unfold Lib.trimPrefix Lib.hasPrefix
  simp
theorem gcell_word {c : Cl} (h : clR c) (h6 : cl64 c) : gcell (clW c) = c := by
  obtain ⟨⟨h1, h2⟩, h3⟩ := h
  obtain ⟨k, v, f⟩ := c
  dsimp only at h1 h2 h3
  have hk : k = 1 ∨ k = 2 ∨ k = 3 ∨ k = 4 := by omega
  rcases hk with rfl | rfl | rfl | rfl
  · have e : clW ⟨1, v, f⟩ = 118 :: (Lib.itoa v ++ 64 :: Lib.itoa f) := rfl
    rw [e]
    unfold gcell
    rw [if_neg (by simp), if_neg (by simp), if_neg (by simp), trim_v, cut_app (itoa_no (by simp))]
    dsimp only
    rw [numR_itoa h6.1, numR_itoa h6.2]
  all_goals
    rcases h3 with h3 | ⟨h3, h4⟩
    · exact absurd h3 (by decide)
    · subst h3 h4
      rfl
theorem clW_slash (c : Cl) : clW c ≠ [47] := by
  intro h
  have h2 : (47 : UInt8) ∈ clW c := by rw [h]; simp
  exact clW_no (by simp) h2
theorem alB_slash (a : Bool × Bool) : ([alB a] : Str) ≠ [47] := by
  rcases a with ⟨_ | _, _ | _⟩ <;> decide
theorem galarm_word (a : Bool × Bool) : galarm [alB a] = a := by rcases a with ⟨_ | _, _ | _⟩ <;> rfl
theorem fold_cells : ∀ (cs : List Cl) (t : Td), (∀ c ∈ cs, clR c ∧ cl64 c) → (cs.map clW).foldl gstep (0, t) = (0, { t with cells := t.cells ++ cs }) := by
  intro cs
  induction cs with
  | nil => intro t _; simp
  | cons c cs ih =>
    intro t h
    have e : gstep (0, t) (clW c) = (0, { t with cells := t.cells ++ [c] }) := by
      unfold gstep
      rw [if_neg (clW_slash c), if_pos rfl, gcell_word (h c (by simp)).1 (h c (by simp)).2]
    rw [List.map_cons, List.foldl_cons, e, ih _ (fun x hx => h x (by simp [hx]))]
    simp
theorem fold_rules : ∀ (l : List (Bool × Bool)) (t : Td), (l.map fun a => ([alB a] : Str)).foldl gstep (1, t) = (1, { t with rules := t.rules ++ l }) := by
  intro l
  induction l with
  | nil => intro t; simp
  | cons c cs ih =>
    intro t
    have e : gstep (1, t) [alB c] = (1, { t with rules := t.rules ++ [c] }) := by
      unfold gstep
      rw [if_neg (alB_slash c), if_neg (by simp), if_pos rfl, galarm_word]
    rw [List.map_cons, List.foldl_cons, e, ih]
    simp
theorem fold_chans : ∀ (l : List (Bool × Bool)) (t : Td), (l.map fun a => ([alB a] : Str)).foldl gstep (2, t) = (2, { t with chans := t.chans ++ l }) := by
  intro l
  induction l with
  | nil => intro t; simp
  | cons c cs ih =>
    intro t
    have e : gstep (2, t) [alB c] = (2, { t with chans := t.chans ++ [c] }) := by
      unfold gstep
      rw [if_neg (alB_slash c), if_neg (by simp), if_neg (by simp), galarm_word]
    rw [List.map_cons, List.foldl_cons, e, ih]
    simp
theorem guess_wds {t : Td} (h : tdR t) (h6 : td64 t) : guess (wds t) = t := by
  unfold guess gst
  rw [List.take_length]
  have e0 : gtick (wds t) = t.tick := numR_itoa h6.1
  have e1 : (wds t).drop 2 = t.cells.map clW ++ ([47] :: (t.rules.map (fun a => [alB a]) ++ [47] :: t.chans.map (fun a => [alB a]))) := rfl
  rw [e0, e1, List.foldl_append, fold_cells _ _ (fun c hc => ⟨h.1 c hc, h6.2 c hc⟩), List.foldl_cons]
  have e2 : ∀ (p : Nat) (u : Td), gstep (p, u) [47] = (p + 1, u) := fun p u => by unfold gstep; rw [if_pos rfl]
  rw [e2, List.foldl_append, fold_rules, List.foldl_cons, e2, fold_chans]
  simp
theorem read_guess (s : Str) : readR s = if s ≠ [] ∧ lineR (guess (spl 32 s)) = s then some (guess (spl 32 s)) else none := by
  by_cases hc : s ≠ [] ∧ lineR (guess (spl 32 s)) = s
  · rw [if_pos hc]
    have ht : tdR (guess (spl 32 s)) := by
      by_cases h2 : tdR (guess (spl 32 s))
      · exact h2
      · exfalso
        have h3 := hc.2
        unfold lineR at h3
        rw [if_neg h2] at h3
        exact hc.1 h3.symm
    have := read_line ht (gst_64 _ _)
    rw [hc.2] at this
    exact this
  · rw [if_neg hc]
    cases h : readR s with
    | none => rfl
    | some t =>
      exfalso
      obtain ⟨h1, h2, h3⟩ := read_some h
      have h4 := read_64 h
      have e : spl 32 s = wds t := by
        rw [← h2]
        unfold lineR
        rw [if_pos h1]
        exact spl_line t
      rw [e, guess_wds h1 h4] at hc
      exact hc ⟨h3, h2⟩
end Go.Proofs.YtaelhgkodcgmnaaDoor
