/- From a row to a walk: the variables that the laws of texts read. -/
import Derived.Test.YtmemkcaikajnnaaGreatDoorLawRow
import Derived.Test.YtmemkcaikajnnaaGreatDoorLawTexts
import Derived.ChangeMaps5
import Derived.Shelf.Vars
namespace Go.Proofs.YtmemkcaikajnnaaGreatDoor
open Go.ChangeShapes Go.WideShapes Go.ChangeAt Go.RowKit
set_option linter.unusedVariables false

theorem gNm : Tryz.prog.globalNamed "keyhole/cost.names" = some 0 := by kernel_rfl
theorem gEr : Tryz.prog.globalNamed "strconv.ErrRange" = some 6 := by kernel_rfl
theorem cellsStr : Tryz.prog.cellsOf 9 = 1 := by kernel_rfl
theorem cellsU64 : Tryz.prog.cellsOf 117 = 1 := by kernel_rfl
theorem star : "*" ++ "errors.errorString" = "*errors.errorString" := by decide
theorem rowErr (u : TypeId) (h : Tryz.prog.typeName? 3 u = some "*errors.errorString") : u = 175 :=
  typeName_ptr_named (nm := "errors.errorString") (by rw [star]; kernel_rfl) (by kernel_rfl) (by decide) u (by rw [star]; exact h)
section
variable {H : Type} {enc : TypeId × Value → H} {W : World} {sp : Nat → Bool} {held : Bool} {base : Nat}
theorem one_str {t : TypeId} (ht : Tryz.prog.underlying t = some .string) {n : Nat} {cs : List Value} {i : Nat} {l : List UInt8} {p : List MemPlace} (h : DataW.trod enc Tryz.prog W base sp held n t ((cs.drop i).take 1) = some (.lit (.string l), p)) : cs[i]? = some (.string (mkB l)) := by
  obtain ⟨s, e, he, w⟩ := DataW.trod_string ht h
  have h2 := congrArg (·[0]?) e
  have hz : s.data.toList = l := by
    have := congrArg Prod.fst he
    simp at this
    exact this.symm
  have hs : s = mkB l := by
    rw [← hz]
    exact ByteArray.ext (by show s.data = s.data.toList.toArray; simp)
  subst hs
  simpa [List.getElem?_take, List.getElem?_drop] using h2
end
theorem nm_listed : ∃ L : List (DataW Unit), (Rows.laid_keyhole_cost_names : DataW Unit) = .agg L ∧ ∀ o, o < 13 → L[o]? = some (.lit (.string (Kp.names.getD o []))) := by
  refine ⟨_, rfl, ?_⟩
  intro o ho
  match o, ho with
  | 0, _ => rfl
  | 1, _ => rfl
  | 2, _ => rfl
  | 3, _ => rfl
  | 4, _ => rfl
  | 5, _ => rfl
  | 6, _ => rfl
  | 7, _ => rfl
  | 8, _ => rfl
  | 9, _ => rfl
  | 10, _ => rfl
  | 11, _ => rfl
  | 12, _ => rfl
  | n + 13, h => exact absurd h (by omega)
set_option maxRecDepth 100000 in
theorem nm_of {W : World} {rest : List (String × DataW Unit)} (h : laidMet Tryz.prog (("keyhole/cost.names", Rows.laid_keyhole_cost_names) :: rest) W) : ∀ i : Nat, i < 13 → W.cell? ⟨0, i, none⟩ = some (.string (nmK i)) := by
  obtain ⟨ps, ⟨g', t', cs, fuel, p, q, hg', ht', hvar, hd, _, _⟩, _⟩ := h
  obtain rfl := Option.some.inj (gNm.symm.trans hg')
  obtain rfl := Option.some.inj ((show (Tryz.prog.globals[0]?).map (·.type) = some 52 by kernel_rfl).symm.trans ht')
  obtain ⟨L, hL, hrow⟩ := nm_listed
  rw [hL] at hd
  obtain ⟨xs, m, -, hx, hcl, hxl, hi⟩ := DataW.trod_array Tryz.underlying52 hd
  rw [cellsStr] at hi
  have hxs : xs.map (·.1) = L := by
    have := congrArg Prod.fst hx
    simp at this
    exact this.symm
  intro i h13
  have hcell : W.cell? ⟨0, i, none⟩ = cs[i]? := by
    have := World.var?_cell gNm hvar i
    simpa using this
  obtain ⟨p0, e0⟩ := fst_at hxs (hrow i h13)
  have hz := (hi i h13).trans e0
  rw [Nat.mul_one] at hz
  rw [hcell, ← Array.getElem?_toList]
  exact one_str Tryz.underlying9 hz
/-- the list of the row -/
abbrev laidLT : List (String × DataW Unit) := [("math/bits.deBruijn32tab", Rows.laid_math_bits_deBruijn32tab), ("math/bits.deBruijn64tab", Rows.laid_math_bits_deBruijn64tab), ("internal/strconv.uint64pow10", Rows.laid_internal_strconv_uint64pow10), ("unicode/utf8.acceptRanges", Rows.laid_unicode_utf8_acceptRanges), ("strconv.ErrRange", Rows.laid_strconv_ErrRange), ("strconv.ErrSyntax", Rows.laid_strconv_ErrSyntax), ("unicode.White_Space", Rows.laid_unicode_White_Space), ("strings.asciiSpace", Rows.laid_strings_asciiSpace), ("keyhole/syntax.operators", Rows.laid_keyhole_syntax_operators), ("keyhole/syntax.typeFields", Rows.laid_keyhole_syntax_typeFields), ("keyhole/syntax.stmtFields", Rows.laid_keyhole_syntax_stmtFields), ("keyhole/syntax.declFields", Rows.laid_keyhole_syntax_declFields), ("keyhole/cost.names", Rows.laid_keyhole_cost_names), ("unicode/utf8.first", Rows.laid_unicode_utf8_first)]
set_option maxRecDepth 100000 in
/-- the variables that the row lists, as it lists them; MaxLen out of the world's shape -/
theorem tk_of_laid {W : World} (h : laidMet Tryz.prog laidLT W) (hsh : W.ShapedOpen Tryz.prog) : Tk W.heap.size W := by
  have h2 := h.tail.tail
  have h4 := h2.tail.tail
  have h7 := h4.tail.tail.tail
  have h12 := h7.tail.tail.tail.tail.tail
  have t1 : Lib.TabIs Tryz.prog W "strings.asciiSpace" .u8 tabSp := Lib.tabIs_of_head gSp (by kernel_rfl) Tryz.underlying145 Tryz.underlying5 cellsU8 (by kernel_rfl) h7
  have s := sp_of t1
  have o := op_of h7.tail
  have t2 : Lib.TabIs Tryz.prog W "internal/strconv.uint64pow10" .u64 Lib.pow10Tab := Lib.tabIs_of_head gPowK (by kernel_rfl) Tryz.underlying140 Tryz.underlying117 cellsU64 (by kernel_rfl) h2
  obtain ⟨a0, s0, hv0, _⟩ := laid_sentinel h4 gEr (by kernel_rfl) Tryz.underlying78 rowErr Tryz.underlying175 Tryz.underlying177 rfl rfl Tryz.underlying9 (by kernel_rfl) (by kernel_rfl)
  have e0 := World.var?_cell gEr hv0 0
  have nm := nm_of h12
  obtain ⟨mx, hmx⟩ : ∃ m, W.cell? ⟨2, 0, none⟩ = some (.int .i64 m) := Go.Proofs.cell_of_shapedOpen_int (zero := #[.int .i64 0]) (t := 3) hsh (of_decide_eq_true (by kernel_rfl)) (by kernel_rfl) rfl (by kernel_rfl) (by kernel_rfl) Tryz.underlying3
  exact ⟨⟨o, s, o.lt, s.lt⟩, nm, t2, ⟨mx, hmx⟩, ⟨_, e0, .inr ⟨_, _, rfl⟩⟩, World.block_lt_of_cell? W _ (nm 0 (by decide)), World.block_lt_of_cell? W _ (t2.cell gPowK 0 (by decide)), World.block_lt_of_cell? W _ hmx, World.block_lt_of_cell? W _ e0⟩
/-- a start: the settled world, the listed variables as their initialisers lay them -/
noncomputable def laidWorldT (os : Os) : World := World.laidAll Tryz.prog os laidLT
theorem laidLT_met (os : Os) (args : Array Value) : laidMet Tryz.prog laidLT ((laidWorldT os).forCall (fun _ _ => 0) ⟨#[], args, []⟩).memory := laidMet_laidAll args (by kernel_rfl) (by kernel_rfl)
theorem laidLT_shape (os : Os) (args : Array Value) : ((laidWorldT os).forCall (fun _ _ => 0) ⟨#[], args, []⟩).variablesRefB Tryz.prog = true := by kernel_rfl
theorem laidLT_rest (os : Os) (args : Array Value) : (((laidWorldT os).forCall (fun _ _ => 0) ⟨#[], args, []⟩).heap.toList.drop Tryz.prog.globals.size).take ((begin Tryz.prog (fun _ _ => 0) default).world.heap.size - Tryz.prog.globals.size) =
      (begin Tryz.prog (fun _ _ => 0) default).world.heap.toList.drop Tryz.prog.globals.size := by kernel_rfl
end Go.Proofs.YtmemkcaikajnnaaGreatDoor
