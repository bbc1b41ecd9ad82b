/- From a walk to a row: the variables that are listed, and what a law leaves. -/
import Derived.Test.YtmemkcaikajnnaaGreatDoorCards
import Derived.Test.YtmemkcaikajnnaaGreatDoorTie
import Derived.Test.YtmemkcaikajnnaaGreatDoorOp
import Derived.ProofKit
import Derived.OpenShut
import Derived.Deep.DeepHandedRow
import Derived.Lib.LaidTab
import Derived.Lib.SmallJoins
import Derived.Lay
import Derived.Deep.DeepWitnessRowRef
import Derived.Laws.IdiomArrays
import Derived.Stop.LaidErr
namespace Go.Proofs.YtmemkcaikajnnaaGreatDoor
open Go.ChangeShapes Go.WideShapes Go.ChangeAt Go.RowKit
set_option linter.unusedVariables false

theorem own : ownKnob Tryz.prog.godebug = none := by kernel_rfl
theorem laidOut : laidOutB Tryz.prog = true := by kernel_rfl
theorem cellsInt : Tryz.prog.cellsOf 3 = 1 := by kernel_rfl
theorem cellsU8 : Tryz.prog.cellsOf 5 = 1 := by kernel_rfl

section
variable {H : Type} {enc : TypeId × Value → H}

/-- arguments that were read are read again in a world in which nothing old has turned -/
theorem trodAll_below {W W' : World} (hb : Below W.heap.size W W') : ∀ {ts : List TypeId} {vs : List Value} {ds : List (DataW H)} {ps : List MemPlace},
    (∀ t ∈ ts, Tryz.prog.readableRec t = true ∧ t < Tryz.prog.types.size) → (∀ x ∈ ps, x.block < W.heap.size) → DataW.TrodAll enc Tryz.prog W 0 (fun _ => true) true ts vs ds ps →
    DataW.TrodAll enc Tryz.prog W' 0 (fun b => decide (b < W.heap.size)) true ts vs ds ps := by
  intro ts
  induction ts with
  | nil =>
    intro vs ds ps _ _ h
    obtain ⟨rfl, rfl, rfl⟩ := trodAll_nil h
    exact trodAll_mk0
  | cons t ts ih =>
    intro vs ds ps ht hp h
    obtain ⟨v, vs', d, ds', p, q, rfl, rfl, rfl, h1, h2⟩ := trodAll_cons h
    exact trodAll_cons_mk (Below.trod laidOut (ht t (by simp)).1 (ht t (by simp)).2 h1 hb (fun x hx => hp x (by simp [hx]))) (ih (fun t' h' => ht t' (by simp [h'])) (fun x hx => hp x (by simp [hx])) h2)

/-- what a law leaves: true; its arguments read as they did -/
theorem law_post {f : Func} {s : ChangeSpec} {W W' : World} {args : Array Value} {ds : List (DataW H)} {before : List MemPlace}
    (hv : s.vars = []) (hW : DataW.Whole enc Tryz.prog f.params.toList s.vars false W args.toList ds [] before) (hA : DataW.TrodAll enc Tryz.prog W 0 (fun _ => true) true f.params.toList args.toList ds before)
    (ht : ∀ t ∈ f.params.toList, Tryz.prog.readableRec t = true ∧ t < Tryz.prog.types.size) (hr : f.resultTypes = #[4])
    (hs1 : (s.fn H (ds ++ [])).results = [.lit (.bool true)]) (hs2 : (s.fn H (ds ++ [])).args = ds) (hs3 : (s.fn H (ds ++ [])).vars = []) (hb : Below W.heap.size W W') :
    s.post enc Tryz.prog f false true false false W args (.bool true) W' := by
  refine ⟨ds, [], before, [], before, [], hW, ?_, ?_, ?_, hb.frame _, fun h => by cases h⟩
  · rw [hs1, hr]
    exact trodAll_cons_mk (shut_bool Tryz.underlying4 true) trodAll_mk0
  · rw [hs2]
    exact trodAll_below hb ht (fun x hx => hW.lt x hx) hA
  · rw [hs3, hv]
    exact rfl
end

/-- strings.asciiSpace -/
def tabSp : List Int := [0, 0, 0, 0, 0, 0, 0, 0, 0, 1, 1, 1, 1, 1, 0, 0, 0, 0, 0, 0, 0, 0, 0, 0, 0, 0, 0, 0, 0, 0, 0, 0, 1, 0, 0, 0, 0, 0, 0, 0, 0, 0, 0, 0, 0, 0, 0, 0, 0, 0, 0, 0, 0, 0, 0, 0, 0, 0, 0, 0, 0, 0, 0, 0, 0, 0, 0, 0, 0, 0, 0, 0, 0, 0, 0, 0, 0, 0, 0, 0, 0, 0, 0, 0, 0, 0, 0, 0, 0, 0, 0, 0, 0, 0, 0, 0, 0, 0, 0, 0, 0, 0, 0, 0, 0, 0, 0, 0, 0, 0, 0, 0, 0, 0, 0, 0, 0, 0, 0, 0, 0, 0, 0, 0, 0, 0, 0, 0, 0, 0, 0, 0, 0, 0, 0, 0, 0, 0, 0, 0, 0, 0, 0, 0, 0, 0, 0, 0, 0, 0, 0, 0, 0, 0, 0, 0, 0, 0, 0, 0, 0, 0, 0, 0, 0, 0, 0, 0, 0, 0, 0, 0, 0, 0, 0, 0, 0, 0, 0, 0, 0, 0, 0, 0, 0, 0, 0, 0, 0, 0, 0, 0, 0, 0, 0, 0, 0, 0, 0, 0, 0, 0, 0, 0, 0, 0, 0, 0, 0, 0, 0, 0, 0, 0, 0, 0, 0, 0, 0, 0, 0, 0, 0, 0, 0, 0, 0, 0, 0, 0, 0, 0, 0, 0, 0, 0, 0, 0, 0, 0, 0, 0, 0, 0, 0, 0, 0, 0, 0, 0, 0, 0, 0, 0, 0, 0]
theorem gSp : Tryz.prog.globalNamed "strings.asciiSpace" = some 13 := by kernel_rfl
theorem gOp : Tryz.prog.globalNamed "keyhole/syntax.operators" = some 9 := by kernel_rfl
theorem sp_of {W : World} (t : Lib.TabIs Tryz.prog W "strings.asciiSpace" .u8 tabSp) : SpT W := by
  have hc : ∀ c : Fin 123, (c.val = 32 ∨ (97 ≤ c.val ∧ c.val ≤ 122)) → tabSp.getD c.val 0 = if c.val = 32 then 1 else 0 := by decide +kernel
  have hlen : tabSp.length = 256 := by decide +kernel
  refine ⟨fun c h => ?_, World.block_lt_of_cell? W _ (t.cell gSp 0 (by rw [hlen]; decide))⟩
  have h1 := t.cell gSp c (by rw [hlen]; omega)
  rw [h1, hc ⟨c, by omega⟩ h]
theorem cellsOpT : Tryz.prog.cellsOf 193 = 7 := by kernel_rfl
theorem fst_at {α β : Type} {xs : List (α × β)} {l : List α} (h : xs.map (·.1) = l) {i : Nat} {d : α} (hd : l[i]? = some d) : ∃ p, xs[i]? = some (d, p) := by
  rw [← h, List.getElem?_map] at hd
  obtain ⟨x, hx, rfl⟩ := Option.map_eq_some_iff.1 hd
  exact ⟨x.2, hx⟩
section
variable {H : Type} {enc : TypeId × Value → H} {W : World} {sp : Nat → Bool} {held : Bool} {base : Nat}
theorem one_int {t : TypeId} (ht : Tryz.prog.underlying t = some (.int .i64)) {n : Nat} {cs : List Value} {i : Nat} {u : Int} {p : List MemPlace} (h : DataW.trod enc Tryz.prog W base sp held n t ((cs.drop i).take 1) = some (.lit (.int .i64 u), p)) : cs[i]? = some (.int .i64 u) := by
  obtain ⟨z, e, he, w⟩ := DataW.trod_int ht h
  have h2 := congrArg (·[0]?) e
  have hz : z = u := by
    have := congrArg Prod.fst he
    simp at this
    exact this.symm
  subst hz
  simpa [List.getElem?_take, List.getElem?_drop] using h2
theorem some_int {t : TypeId} (ht : Tryz.prog.underlying t = some (.int .i64)) {n : Nat} {cs : List Value} {i : Nat} {x : DataW H × List MemPlace} (h : DataW.trod enc Tryz.prog W base sp held n t ((cs.drop i).take 1) = some x) : ∃ u : Int, cs[i]? = some (.int .i64 u) := by
  obtain ⟨z, e, he, w⟩ := DataW.trod_int ht h
  have h2 := congrArg (·[0]?) e
  exact ⟨z, by simpa [List.getElem?_take, List.getElem?_drop] using h2⟩
theorem some_str {t : TypeId} (ht : Tryz.prog.underlying t = some .string) {n : Nat} {cs : List Value} {i : Nat} {x : DataW H × List MemPlace} (h : DataW.trod enc Tryz.prog W base sp held n t ((cs.drop i).take 1) = some x) : ∃ s : ByteArray, cs[i]? = some (.string s) := by
  obtain ⟨s, e, he, w⟩ := DataW.trod_string ht h
  have h2 := congrArg (·[0]?) e
  exact ⟨s, by simpa [List.getElem?_take, List.getElem?_drop] using h2⟩
set_option maxRecDepth 100000 in
/-- an operator's row -/
theorem op_cells {fuel : Nat} {cs : List Value} {u r : Int} {d2 d3 d4 : DataW H} {p : List MemPlace}
    (h : DataW.trod enc Tryz.prog W base sp held fuel 193 cs = some (.agg [.lit (.int .i64 u), .lit (.int .i64 r), d2, d3, d4], p)) :
    cs[0]? = some (.int .i64 u) ∧ cs[1]? = some (.int .i64 r) ∧ (∃ s : ByteArray, cs[2]? = some (.string s)) ∧ (∃ z : Int, cs[3]? = some (.int .i64 z)) ∧ (∃ z : Int, cs[4]? = some (.int .i64 z)) ∧ (∃ z : Int, cs[5]? = some (.int .i64 z)) ∧ (∃ z : Int, cs[6]? = some (.int .i64 z)) := by
  obtain ⟨xs, n, -, hx, hl, hxl, hf⟩ := DataW.trod_struct Tryz.underlying193 h
  rw [cellsOpT] at hl
  have hxs : xs.map (·.1) = [.lit (.int .i64 u), .lit (.int .i64 r), d2, d3, d4] := by
    have := congrArg Prod.fst hx
    simp at this
    exact this.symm
  obtain ⟨p0, e0⟩ := fst_at hxs (i := 0) rfl
  obtain ⟨p1, e1⟩ := fst_at hxs (i := 1) rfl
  obtain ⟨p2, e2⟩ := fst_at hxs (i := 2) rfl
  obtain ⟨p3, e3⟩ := fst_at hxs (i := 3) rfl
  obtain ⟨p4, e4⟩ := fst_at hxs (i := 4) rfl
  have f0 : DataW.trod enc Tryz.prog W base sp held n 179 ((cs.drop 0).take 1) = xs[0]? := hf 0 _ rfl
  have f1 : DataW.trod enc Tryz.prog W base sp held n 3 ((cs.drop 1).take 1) = xs[1]? := hf 1 _ rfl
  have f2 : DataW.trod enc Tryz.prog W base sp held n 9 ((cs.drop 2).take 1) = xs[2]? := hf 2 _ rfl
  have f3 : DataW.trod enc Tryz.prog W base sp held n 3 ((cs.drop 3).take 1) = xs[3]? := hf 3 _ rfl
  have f4 : DataW.trod enc Tryz.prog W base sp held n 191 ((cs.drop 4).take 3) = xs[4]? := hf 4 _ rfl
  obtain ⟨ys, m, -, -, hyl, hyn, hg⟩ := DataW.trod_array Tryz.underlying191 (f4.trans e4)
  have hy : ∀ i, i < 3 → ∃ x, ys[i]? = some x := fun i hi => ⟨_, List.getElem?_eq_getElem (by omega)⟩
  have hc1 : Tryz.prog.cellsOf 3 = 1 := cellsInt
  rw [hc1] at hg
  obtain ⟨x0, k0⟩ := hy 0 (by omega)
  obtain ⟨x1, k1⟩ := hy 1 (by omega)
  obtain ⟨x2, k2⟩ := hy 2 (by omega)
  obtain ⟨z0, j0⟩ := some_int Tryz.underlying3 ((hg 0 (by omega)).trans k0)
  obtain ⟨z1, j1⟩ := some_int Tryz.underlying3 ((hg 1 (by omega)).trans k1)
  obtain ⟨z2, j2⟩ := some_int Tryz.underlying3 ((hg 2 (by omega)).trans k2)
  refine ⟨one_int Tryz.underlying179 (f0.trans e0), one_int Tryz.underlying3 (f1.trans e1), some_str Tryz.underlying9 (f2.trans e2), some_int Tryz.underlying3 (f3.trans e3), ⟨z0, ?_⟩, ⟨z1, ?_⟩, ⟨z2, ?_⟩⟩
  · simpa [List.getElem?_take, List.getElem?_drop] using j0
  · simpa [List.getElem?_take, List.getElem?_drop] using j1
  · simpa [List.getElem?_take, List.getElem?_drop] using j2
end
set_option maxRecDepth 100000 in
/-- the table as it is listed, row by row -/
theorem op_listed : ∃ L : List (DataW Unit), (Rows.laid_keyhole_syntax_operators : DataW Unit) = .agg L ∧ ∀ o, o < 24 → ∃ d2 d3 d4, L[o]? = some (.agg [.lit (.int .i64 (E.uses o : Nat)), .lit (.int .i64 (E.arity o : Nat)), d2, d3, d4]) := by
  refine ⟨_, rfl, ?_⟩
  intro o ho
  match o, ho with
  | 0, _ => exact ⟨_, _, _, rfl⟩
  | 1, _ => exact ⟨_, _, _, rfl⟩
  | 2, _ => exact ⟨_, _, _, rfl⟩
  | 3, _ => exact ⟨_, _, _, rfl⟩
  | 4, _ => exact ⟨_, _, _, rfl⟩
  | 5, _ => exact ⟨_, _, _, rfl⟩
  | 6, _ => exact ⟨_, _, _, rfl⟩
  | 7, _ => exact ⟨_, _, _, rfl⟩
  | 8, _ => exact ⟨_, _, _, rfl⟩
  | 9, _ => exact ⟨_, _, _, rfl⟩
  | 10, _ => exact ⟨_, _, _, rfl⟩
  | 11, _ => exact ⟨_, _, _, rfl⟩
  | 12, _ => exact ⟨_, _, _, rfl⟩
  | 13, _ => exact ⟨_, _, _, rfl⟩
  | 14, _ => exact ⟨_, _, _, rfl⟩
  | 15, _ => exact ⟨_, _, _, rfl⟩
  | 16, _ => exact ⟨_, _, _, rfl⟩
  | 17, _ => exact ⟨_, _, _, rfl⟩
  | 18, _ => exact ⟨_, _, _, rfl⟩
  | 19, _ => exact ⟨_, _, _, rfl⟩
  | 20, _ => exact ⟨_, _, _, rfl⟩
  | 21, _ => exact ⟨_, _, _, rfl⟩
  | 22, _ => exact ⟨_, _, _, rfl⟩
  | 23, _ => exact ⟨_, _, _, rfl⟩
  | n + 24, h => exact absurd h (by omega)
set_option maxRecDepth 100000 in
theorem op_of {W : World} {rest : List (String × DataW Unit)} (h : laidMet Tryz.prog (("keyhole/syntax.operators", Rows.laid_keyhole_syntax_operators) :: rest) W) : OpT W := by
  obtain ⟨ps, ⟨g', t', cs, fuel, p, q, hg', ht', hvar, hd, _, _⟩, _⟩ := h
  obtain rfl := Option.some.inj (gOp.symm.trans hg')
  obtain rfl := Option.some.inj ((show (Tryz.prog.globals[9]?).map (·.type) = some 194 by kernel_rfl).symm.trans ht')
  obtain ⟨L, hL, hrow⟩ := op_listed
  rw [hL] at hd
  obtain ⟨xs, m, -, hx, hcl, hxl, hi⟩ := DataW.trod_array Tryz.underlying194 hd
  rw [cellsOpT] at hi
  have hxs : xs.map (·.1) = L := by
    have := congrArg Prod.fst hx
    simp at this
    exact this.symm
  have hcell : ∀ i, W.cell? ⟨9, i, none⟩ = cs[i]? := fun i => by
    have := World.var?_cell gOp hvar i
    simpa using this
  have hrows : ∀ o : Nat, o < 24 → ∃ s l a b c, OpRow W o s l a b c := by
    intro o ho
    obtain ⟨d2, d3, d4, hl⟩ := hrow o ho
    obtain ⟨p0, e0⟩ := fst_at hxs hl
    have hz := (hi o ho).trans e0
    obtain ⟨c0, c1, ⟨s, c2⟩, ⟨l, c3⟩, ⟨a, c4⟩, ⟨b, c5⟩, ⟨c, c6⟩⟩ := op_cells hz
    have tr : ∀ j, j < 7 → ((cs.toList.drop (o * 7)).take 7)[j]? = W.cell? ⟨9, o * 7 + j, none⟩ := fun j hj => by
      rw [hcell, List.getElem?_take, if_pos hj, List.getElem?_drop, Array.getElem?_toList]
    exact ⟨s, l, a, b, c, ⟨(tr 0 (by omega)).symm.trans c0, (tr 1 (by omega)).symm.trans c1, (tr 2 (by omega)).symm.trans c2, (tr 3 (by omega)).symm.trans c3, (tr 4 (by omega)).symm.trans c4, (tr 5 (by omega)).symm.trans c5, (tr 6 (by omega)).symm.trans c6⟩⟩
  obtain ⟨s, l, a, b, c, r⟩ := hrows 0 (by omega)
  exact ⟨hrows, World.block_lt_of_cell? W _ r.c0⟩
set_option maxRecDepth 100000 in
/-- the variables that a row lists, as it lists them -/
theorem tb_of_laid {W : World} (h : laidMet Tryz.prog [("unicode/utf8.acceptRanges", Rows.laid_unicode_utf8_acceptRanges), ("unicode.White_Space", Rows.laid_unicode_White_Space), ("strings.asciiSpace", Rows.laid_strings_asciiSpace), ("keyhole/syntax.operators", Rows.laid_keyhole_syntax_operators), ("keyhole/syntax.typeFields", Rows.laid_keyhole_syntax_typeFields), ("keyhole/syntax.stmtFields", Rows.laid_keyhole_syntax_stmtFields), ("keyhole/syntax.declFields", Rows.laid_keyhole_syntax_declFields), ("unicode/utf8.first", Rows.laid_unicode_utf8_first)] W) : Tb W.heap.size W := by
  have h2 := h.tail.tail
  have t1 : Lib.TabIs Tryz.prog W "strings.asciiSpace" .u8 tabSp := Lib.tabIs_of_head gSp (by kernel_rfl) Tryz.underlying145 Tryz.underlying5 cellsU8 (by kernel_rfl) h2
  have s := sp_of t1
  have o := op_of h2.tail
  exact ⟨o, s, o.lt, s.lt⟩

/-- the list of the rows -/
abbrev laidL : List (String × DataW Unit) := [("unicode/utf8.acceptRanges", Rows.laid_unicode_utf8_acceptRanges), ("unicode.White_Space", Rows.laid_unicode_White_Space), ("strings.asciiSpace", Rows.laid_strings_asciiSpace), ("keyhole/syntax.operators", Rows.laid_keyhole_syntax_operators), ("keyhole/syntax.typeFields", Rows.laid_keyhole_syntax_typeFields), ("keyhole/syntax.stmtFields", Rows.laid_keyhole_syntax_stmtFields), ("keyhole/syntax.declFields", Rows.laid_keyhole_syntax_declFields), ("unicode/utf8.first", Rows.laid_unicode_utf8_first)]
/-- a start: the settled world, the listed variables as their initialisers lay them -/
noncomputable def laidWorld (os : Os) : World := World.laidAll Tryz.prog os laidL
theorem laidL_met (os : Os) (args : Array Value) : laidMet Tryz.prog laidL ((laidWorld os).forCall (fun _ _ => 0) ⟨#[], args, []⟩).memory := laidMet_laidAll args (by kernel_rfl) (by kernel_rfl)
theorem laidL_shape (os : Os) (args : Array Value) : ((laidWorld os).forCall (fun _ _ => 0) ⟨#[], args, []⟩).variablesRefB Tryz.prog = true := by kernel_rfl
theorem laidL_rest (os : Os) (args : Array Value) : (((laidWorld os).forCall (fun _ _ => 0) ⟨#[], args, []⟩).heap.toList.drop Tryz.prog.globals.size).take ((begin Tryz.prog (fun _ _ => 0) default).world.heap.size - Tryz.prog.globals.size) =
      (begin Tryz.prog (fun _ _ => 0) default).world.heap.toList.drop Tryz.prog.globals.size := by kernel_rfl
end Go.Proofs.YtmemkcaikajnnaaGreatDoor
