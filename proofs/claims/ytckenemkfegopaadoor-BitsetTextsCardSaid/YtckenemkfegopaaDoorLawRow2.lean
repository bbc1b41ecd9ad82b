/- From a walk to a row: what BitsetTexts reads of the library's variables; the law for whatever set and text. -/
import Derived.Test.YtckenemkfegopaaDoorLawRow
import Derived.Test.YtckenemkfegopaaDoorLawTexts
import Derived.Lay
import Derived.Deep.DeepWitnessRowRef
import Derived.Shelf.Vars
namespace Go.Proofs.YtckenemkfegopaaDoor
open Go.ChangeShapes Go.WideShapes Go.ChangeAt Go.RowKit
set_option linter.unusedVariables false

set_option maxRecDepth 100000 in
set_option maxHeartbeats 1000000 in
theorem texts_any (sa : Int) (A : Option Addr) (ca : Nat) (wa : List Nat) (s : ByteArray) (w : World) (ha : Words w w.heap.size A wa) (hT : BtT w) :
    Calls Tryd.prog 12 #[setV sa A wa.length ca, .string s] w fun e w' => e = .returned (.bool true) ∧ Below w.heap.size w w' := by
  have i1 : ChInv w (w.alloc (.cells #[.int .i64 sa, .slice A wa.length ca] 46)) (.int .i64 sa) (.slice A wa.length ca) := ⟨Two.new_ _ _ _ _, (Below.refl _ _).alloc (Nat.le_refl _) _⟩
  have hk := known_ok _ (hT.tabs.below i1.bel)
  by_cases h1 : 64 < wa.length
  · have h1' : (64 : Int) < (wa.length : Int) := by omega
    have HK := Lib.hid hk
    clear hk h1
    unfold setV
    go_enter Tryd.func12, Tryd.ntmps12
    go_wp2_with fail
    refine HK.out.mono ?_
    rintro e v0 ⟨rfl, hb⟩
    have i0 := i1.below hb
    clear i1 hb HK
    have x0 := i0.t1.c0
    have x1 := i0.t1.c1
    go_wp2_with fail
    go_ret
    exact ⟨rfl, i0.bel⟩
  · by_cases h2 : 2000 < s.size
    · have h1' : ¬ (64 : Int) < (wa.length : Int) := by omega
      have h2' : (2000 : Int) < (s.size : Int) := by omega
      have HK := Lib.hid hk
      clear hk h1 h2
      unfold setV
      go_enter Tryd.func12, Tryd.ntmps12
      go_wp2_with fail
      refine HK.out.mono ?_
      rintro e v0 ⟨rfl, hb⟩
      have i0 := i1.below hb
      clear i1 hb HK
      have x0 := i0.t1.c0
      have x1 := i0.t1.c1
      go_wp2_with fail
      go_ret
      exact ⟨rfl, i0.bel⟩
    · exact texts_walk sa A ca wa s w ha hT (by omega) (by omega)

theorem gEr : Tryd.prog.globalNamed "strconv.ErrRange" = some 6 := by kernel_rfl
theorem gEs : Tryd.prog.globalNamed "strconv.ErrSyntax" = some 5 := by kernel_rfl
theorem star : "*" ++ "errors.errorString" = "*errors.errorString" := by decide
theorem rowErr (u : TypeId) (h : Tryd.prog.typeName? 3 u = some "*errors.errorString") : u = 175 :=
  typeName_ptr_named (nm := "errors.errorString") (by rw [star]; kernel_rfl) (by kernel_rfl) (by decide) u (by rw [star]; exact h)
/-- the list of the row -/
abbrev laidL : List (String × DataW Unit) := [("math/bits.deBruijn32tab", Rows.laid_math_bits_deBruijn32tab), ("math/bits.deBruijn64tab", Rows.laid_math_bits_deBruijn64tab), ("internal/strconv.uint64pow10", Rows.laid_internal_strconv_uint64pow10), ("strconv.ErrRange", Rows.laid_strconv_ErrRange), ("strconv.ErrSyntax", Rows.laid_strconv_ErrSyntax)]
set_option maxRecDepth 100000 in
/-- the variables that the row lists, as it lists them; MaxLen out of the world's shape -/
theorem btT_of_laid {W : World} (h : laidMet Tryd.prog laidL W) (hsh : W.ShapedOpen Tryd.prog) : BtT W := by
  have h3 := h.tail.tail.tail
  obtain ⟨a0, s0, hv0, _⟩ := laid_sentinel h3 gEr (by kernel_rfl) Tryd.underlying72 rowErr Tryd.underlying175 Tryd.underlying177 rfl rfl Tryd.underlying9 (by kernel_rfl) (by kernel_rfl)
  obtain ⟨a1, s1, hv1, _⟩ := laid_sentinel h3.tail gEs (by kernel_rfl) Tryd.underlying72 rowErr Tryd.underlying175 Tryd.underlying177 rfl rfl Tryd.underlying9 (by kernel_rfl) (by kernel_rfl)
  exact ⟨tabs_of_laid h, Go.Proofs.cell_of_shapedOpen_int (zero := #[.int .i64 0]) (t := 3) hsh (of_decide_eq_true (by kernel_rfl)) (by kernel_rfl) rfl (by kernel_rfl) (by kernel_rfl) Tryd.underlying3,
    ⟨_, _, World.var?_cell gEs hv1 0⟩, ⟨_, _, World.var?_cell gEr hv0 0⟩⟩
/-- a start: the settled world, the listed variables as their initialisers lay them -/
noncomputable def laidWorldT (os : Os) : World := World.laidAll Tryd.prog os laidL
theorem laidL_met (os : Os) (args : Array Value) : laidMet Tryd.prog laidL ((laidWorldT os).forCall (fun _ _ => 0) ⟨#[], args, []⟩).memory := laidMet_laidAll args (by kernel_rfl) (by kernel_rfl)
theorem laidL_shape (os : Os) (args : Array Value) : ((laidWorldT os).forCall (fun _ _ => 0) ⟨#[], args, []⟩).variablesRefB Tryd.prog = true := by kernel_rfl
theorem laidL_rest (os : Os) (args : Array Value) : (((laidWorldT os).forCall (fun _ _ => 0) ⟨#[], args, []⟩).heap.toList.drop Tryd.prog.globals.size).take ((begin Tryd.prog (fun _ _ => 0) default).world.heap.size - Tryd.prog.globals.size) =
      (begin Tryd.prog (fun _ _ => 0) default).world.heap.toList.drop Tryd.prog.globals.size := by kernel_rfl
end Go.Proofs.YtckenemkfegopaaDoor
