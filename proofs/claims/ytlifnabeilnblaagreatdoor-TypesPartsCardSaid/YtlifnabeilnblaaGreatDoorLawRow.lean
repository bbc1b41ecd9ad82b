/- From a row to a walk: arguments that are types. -/
import Derived.Test.YtlifnabeilnblaaGreatDoorMem
import Derived.ProofKit
import Derived.OpenShut
import Derived.Deep.Fields
import Derived.Deep.Slices
import Derived.Test.YtlifnabeilnblaaGreatDoorCards
import Derived.Test.YtlifnabeilnblaaGreatDoorTie
import Derived.Test.YtlifnabeilnblaaGreatDoorVi
import Derived.Deep.DeepHandedRow
import Derived.Lib.LaidTab
import Derived.Lib.SmallJoins
import Derived.Lay
import Derived.Deep.DeepWitnessRowRef
import Derived.Laws.IdiomArrays
import Derived.Stop.LaidErr
namespace Go.Proofs.YtlifnabeilnblaaGreatDoor
open Go.ChangeShapes Go.WideShapes Go.ChangeAt Go.RowKit
set_option linter.unusedVariables false

theorem cellsType : Tryz.prog.cellsOf 26 = 7 := by kernel_rfl
theorem cellsStr : Tryz.prog.cellsOf 9 = 1 := by kernel_rfl
instance : Inhabited G := ⟨.mk 0 0 0 0 ⟨#[]⟩ none 0 [] none 0 []⟩
theorem wfI {n : Int} (h : (Lit.int .i64 n).wf = true) : inI n := by simpa [inI, Lit.wf, IntKind.min, IntKind.max, IntKind.signed, IntKind.bits] using h
theorem maxLen_eq : maxLen = 9223372036854775807 := by decide
theorem list7 {α : Type} {l : List α} (h : l.length = 7) : ∃ a b c d e f g, l = [a, b, c, d, e, f, g] := by
  match l, h with
  | [a, b, c, d, e, f, g], _ => exact ⟨a, b, c, d, e, f, g, rfl⟩

section
variable {H : Type} {enc : TypeId × Value → H} {W : World}
set_option maxRecDepth 100000 in
/-- what a list of types reads as, where their elements read as trees -/
theorem open_list (fuel : Nat) (ih : ∀ m, m < fuel → ∀ {cs : List Value} {x : DataW H × List MemPlace}, DataW.trod enc Tryz.prog W 0 (fun _ => true) true m 26 cs = some x → ∃ e : G, cs = e.cells ∧ G.In W W.heap.size e)
    {cs : List Value} {x : DataW H × List MemPlace} (h : DataW.trod enc Tryz.prog W 0 (fun _ => true) true fuel 24 cs = some x) : ∃ (A : Option Addr) (l : List G) (c : Nat), cs = [.slice A l.length c] ∧ G.L W W.heap.size A l := by
  rcases DataW.trod_slice Tryz.underlying24 h with ⟨rfl, -⟩ | ⟨a, len, cap, elems, rest, m, rfl, rfl, -, -, hlc, hcm, hel, hi, -, -⟩
  · exact ⟨none, [], 0, rfl, by simp, Row.nil _ _ _, fun e he => by cases he⟩
  rw [cellsType] at hi
  have each : ∀ i, i < len → ∃ e : G, (∀ j, j < 7 → W.cell? ((a.add (i * 7)).add j) = e.cells[j]?) ∧ G.In W W.heap.size e := by
    intro i hlt
    have h1 := hi i hlt
    rw [List.getElem?_eq_getElem (by omega)] at h1
    obtain ⟨ci, h2, h3⟩ := Option.bind_eq_some_iff.1 h1
    obtain ⟨e, rfl, hin⟩ := ih m (Nat.lt_succ_self m) h3
    exact ⟨e, (World.cells?_some h2).2.2, hin⟩
  obtain ⟨q, hq⟩ := Go.Deep.choose_lt each
  have hll : ((List.range len).map q).length = len := by simp
  have hget : ∀ i, (hi : i < ((List.range len).map q).length) → ((List.range len).map q)[i] = q i := fun i hi => by simp
  rw [maxLen_eq] at hcm
  refine ⟨some a, (List.range len).map q, cap, by rw [hll], ?_⟩
  refine ⟨by rw [hll]; omega, ⟨fun hp => ?_⟩, fun e he => ?_⟩
  · have hp' : 0 < len := by rw [G.flat_len, hll] at hp; omega
    obtain ⟨b, off, spot⟩ := a
    have h0 := (hq 0 hp').1 0 (by omega)
    have hs : spot = none := by
      have := World.cell?_spot (h0.trans (show (G.cells (q 0))[0]? = some (.int .i64 (q 0).kd) from rfl))
      simpa [Addr.add] using this
    subst hs
    refine ⟨b, off, rfl, ?_, fun k u hu => ?_⟩
    · have := World.block_lt_of_cell? W _ (h0.trans (show (G.cells (q 0))[0]? = some (.int .i64 (q 0).kd) from rfl))
      simpa [Addr.add] using this
    · have hk : k < len * 7 := by
        have := (List.getElem?_eq_some_iff.1 hu).1
        rw [G.flat_len, hll] at this; exact this
      obtain ⟨i, j, hij, hi, hj⟩ : ∃ i j, k = i * 7 + j ∧ i < len ∧ j < 7 := ⟨k / 7, k % 7, by omega, by omega, by omega⟩
      subst hij
      have h1 := flatAt G.cells 7 (fun _ => rfl) ((List.range len).map q) (k := i) (j := j) (by rw [hll]; exact hi) hj
      rw [hget] at h1
      have h2 := (hq i hi).1 j hj
      have h3 : (G.flat ((List.range len).map q))[i * 7 + j]? = some u := hu
      unfold G.flat at h3
      rw [h1] at h3
      rw [h3, add_plain, add_plain] at h2
      rw [← Nat.add_assoc]
      exact h2
  · obtain ⟨i, hi, rfl⟩ := List.mem_map.1 he
    exact (hq i (by have := List.mem_range.1 hi; omega)).2
/-- the texts of a slice that reads -/
theorem open_names {fuel : Nat} {cs : List Value} {x : DataW H × List MemPlace} (h : DataW.trod enc Tryz.prog W 0 (fun _ => true) true fuel 23 cs = some x) :
    ∃ (A : Option Addr) (ns : List ByteArray) (c : Nat), cs = [.slice A ns.length c] ∧ ns.length ≤ 9223372036854775807 ∧ (∀ s ∈ ns, s.size ≤ 9223372036854775807) ∧ Row W W.heap.size A (svals ns) := by
  rcases DataW.trod_slice Tryz.underlying23 h with ⟨rfl, -⟩ | ⟨a, len, cap, elems, rest, m, rfl, rfl, -, -, hlc, hcm, hel, hi, -, -⟩
  · exact ⟨none, [], 0, rfl, by simp, fun s hs => (by simp at hs), Row.nil _ _ _⟩
  rw [cellsStr] at hi
  have each : ∀ i, i < len → ∃ s : ByteArray, W.cell? (a.add i) = some (.string s) ∧ s.size ≤ 9223372036854775807 := by
    intro i hlt
    have h1 := hi i hlt
    rw [List.getElem?_eq_getElem (by omega)] at h1
    obtain ⟨ci, h2, h3⟩ := Option.bind_eq_some_iff.1 h1
    obtain ⟨s, e, -, w⟩ := DataW.trod_string Tryz.underlying9 h3
    subst e
    have h4 := (World.cells?_some h2).2.2 0 (by decide)
    rw [Nat.mul_one] at h4
    rw [maxLen_eq] at w
    exact ⟨s, by simpa [Addr.add] using h4, w⟩
  obtain ⟨q, hq⟩ := Go.Deep.choose_lt each
  have hll : ((List.range len).map q).length = len := by simp
  rw [maxLen_eq] at hcm
  refine ⟨some a, (List.range len).map q, cap, by rw [hll], by rw [hll]; omega, fun s hs => ?_, ⟨fun hp => ?_⟩⟩
  · obtain ⟨i, hi, rfl⟩ := List.mem_map.1 hs
    exact (hq i (by have := List.mem_range.1 hi; omega)).2
  · have hp' : 0 < len := by rw [svals_len, hll] at hp; omega
    obtain ⟨b, off, spot⟩ := a
    have h0 := (hq 0 hp').1
    have hs : spot = none := by
      have := World.cell?_spot h0
      simpa [Addr.add] using this
    subst hs
    refine ⟨b, off, rfl, ?_, fun k u hu => ?_⟩
    · have := World.block_lt_of_cell? W _ h0
      simpa [Addr.add] using this
    · have hk : k < len := by
        have := (List.getElem?_eq_some_iff.1 hu).1
        rw [svals_len, hll] at this; exact this
      have h1 := (hq k hk).1
      unfold svals at hu
      rw [List.getElem?_map, List.getElem?_map, List.getElem?_range hk] at hu
      simp only [Option.map_some, Option.some.injEq] at hu
      rw [← hu, ← add_plain]
      exact h1
set_option maxRecDepth 100000 in
/-- a type that reads is a tree in memory -/
theorem open_tree : ∀ (fuel : Nat) {cs : List Value} {x : DataW H × List MemPlace}, DataW.trod enc Tryz.prog W 0 (fun _ => true) true fuel 26 cs = some x → ∃ e : G, cs = e.cells ∧ G.In W W.heap.size e := by
  intro fuel
  induction fuel using Nat.strongRecOn with
  | ind fuel ih =>
  intro cs x h
  obtain ⟨xs, n, rfl, -, hl, hxl, hf⟩ := DataW.trod_struct Tryz.underlying26 h
  rw [cellsType] at hl
  obtain ⟨v0, v1, v2, v3, v4, v5, v6, rfl⟩ := list7 hl
  obtain ⟨y0, y1, y2, y3, y4, y5, y6, rfl⟩ := list7 (show xs.length = 7 from hxl)
  have g0 : DataW.trod enc Tryz.prog W 0 (fun _ => true) true n 22 [v0] = some y0 := hf 0 _ rfl
  have g1 : DataW.trod enc Tryz.prog W 0 (fun _ => true) true n 3 [v1] = some y1 := hf 1 _ rfl
  have g2 : DataW.trod enc Tryz.prog W 0 (fun _ => true) true n 3 [v2] = some y2 := hf 2 _ rfl
  have g3 : DataW.trod enc Tryz.prog W 0 (fun _ => true) true n 3 [v3] = some y3 := hf 3 _ rfl
  have g4 : DataW.trod enc Tryz.prog W 0 (fun _ => true) true n 9 [v4] = some y4 := hf 4 _ rfl
  have g5 : DataW.trod enc Tryz.prog W 0 (fun _ => true) true n 23 [v5] = some y5 := hf 5 _ rfl
  have g6 : DataW.trod enc Tryz.prog W 0 (fun _ => true) true n 24 [v6] = some y6 := hf 6 _ rfl
  clear hf
  obtain ⟨z0, e0, -, w0⟩ := DataW.trod_int Tryz.underlying22 g0
  obtain ⟨z1, e1, -, w1⟩ := DataW.trod_int Tryz.underlying3 g1
  obtain ⟨z2, e2, -, w2⟩ := DataW.trod_int Tryz.underlying3 g2
  obtain ⟨z3, e3, -, w3⟩ := DataW.trod_int Tryz.underlying3 g3
  obtain ⟨s, e4, -, w4⟩ := DataW.trod_string Tryz.underlying9 g4
  obtain ⟨B, ns, c2, e5, n1, n2, n3⟩ := open_names g5
  obtain ⟨A, l, c, e6, hL⟩ := open_list n (fun m hm => ih m (by omega)) g6
  simp only [List.cons.injEq, and_true] at e0 e1 e2 e3 e4 e5 e6
  subst e0 e1 e2 e3 e4 e5 e6
  rw [maxLen_eq] at w4
  exact ⟨.mk z0 z1 z2 z3 s B c2 ns A c l, rfl, (G.in_eq _).2 ⟨⟨wfI w0, wfI w1, wfI w2, wfI w3, w4, n1, n2, n3, hL.len, hL.row⟩, G.inL_iff.2 hL.all⟩⟩
set_option maxRecDepth 100000 in
/-- an argument that is a type -/
theorem open_type {base : Nat} {v : Value} {d : DataW H} {p : List MemPlace} (hv : Value.okWide Tryz.prog W .any base 26 v) (h : DataW.Trod enc Tryz.prog W 0 (fun _ => true) true 26 v d p) : ∃ e : G, v = e.val ∧ G.In W W.heap.size e := by
  obtain ⟨cs, rfl, hsz⟩ := okWide_struct Tryz.underlying26 hv
  obtain ⟨fuel, hf⟩ := h
  obtain ⟨e, he, hin⟩ := open_tree fuel hf
  refine ⟨e, ?_, hin⟩
  have : cs.toList = e.cells := he
  have h2 : cs = e.cells.toArray := by rw [← this]
  rw [h2]; rfl
set_option maxRecDepth 100000 in
/-- an argument that is a list of types -/
theorem open_types {base : Nat} {v : Value} {d : DataW H} {p : List MemPlace} (hv : Value.okWide Tryz.prog W .any base 24 v) (h : DataW.Trod enc Tryz.prog W 0 (fun _ => true) true 24 v d p) :
    ∃ (A : Option Addr) (l : List G) (c : Nat), v = .slice A l.length c ∧ G.L W W.heap.size A l := by
  obtain ⟨A0, l0, c0, rfl⟩ := okWide_slice Tryz.underlying24 hv
  obtain ⟨fuel, hf⟩ := h
  obtain ⟨A, l, c, he, hL⟩ := open_list fuel (fun m _ => open_tree m) hf
  have he' : [Value.slice A0 l0 c0] = [.slice A l.length c] := he
  simp only [List.cons.injEq, and_true] at he'
  exact ⟨A, l, c, he', hL⟩
end
end Go.Proofs.YtlifnabeilnblaaGreatDoor
/- From a walk to a row: the variables that are listed, and what a law leaves. -/
namespace Go.Proofs.YtlifnabeilnblaaGreatDoor
open Go.ChangeShapes Go.WideShapes Go.ChangeAt Go.RowKit
set_option linter.unusedVariables false

theorem own : ownKnob Tryz.prog.godebug = none := by kernel_rfl
theorem laidOut : laidOutB Tryz.prog = true := by kernel_rfl
theorem cellsInt : Tryz.prog.cellsOf 3 = 1 := by kernel_rfl
theorem cellsU8 : Tryz.prog.cellsOf 5 = 1 := by kernel_rfl

section
variable {H : Type} {enc : TypeId × Value → H}

/-- arguments that were read are read again in a world in which nothing old has turned -/
theorem trodAll_below {W W' : World} (hb : Below W.heap.size W W') : ∀ {ts : List TypeId} {vs : List Value} {ds : List (DataW H)} {ps : List MemPlace},
    (∀ t ∈ ts, Tryz.prog.readableRec t = true ∧ t < Tryz.prog.types.size) → (∀ x ∈ ps, x.block < W.heap.size) → DataW.TrodAll enc Tryz.prog W 0 (fun _ => true) true ts vs ds ps →
    DataW.TrodAll enc Tryz.prog W' 0 (fun b => decide (b < W.heap.size)) true ts vs ds ps := by
  intro ts
  induction ts with
  | nil =>
    intro vs ds ps _ _ h
    obtain ⟨rfl, rfl, rfl⟩ := trodAll_nil h
    exact trodAll_mk0
  | cons t ts ih =>
    intro vs ds ps ht hp h
    obtain ⟨v, vs', d, ds', p, q, rfl, rfl, rfl, h1, h2⟩ := trodAll_cons h
    exact trodAll_cons_mk (Below.trod laidOut (ht t (by simp)).1 (ht t (by simp)).2 h1 hb (fun x hx => hp x (by simp [hx]))) (ih (fun t' h' => ht t' (by simp [h'])) (fun x hx => hp x (by simp [hx])) h2)

/-- what a law leaves: true; its arguments read as they did -/
theorem law_post {f : Func} {s : ChangeSpec} {W W' : World} {args : Array Value} {ds : List (DataW H)} {before : List MemPlace}
    (hv : s.vars = []) (hW : DataW.Whole enc Tryz.prog f.params.toList s.vars false W args.toList ds [] before) (hA : DataW.TrodAll enc Tryz.prog W 0 (fun _ => true) true f.params.toList args.toList ds before)
    (ht : ∀ t ∈ f.params.toList, Tryz.prog.readableRec t = true ∧ t < Tryz.prog.types.size) (hr : f.resultTypes = #[4])
    (hs1 : (s.fn H (ds ++ [])).results = [.lit (.bool true)]) (hs2 : (s.fn H (ds ++ [])).args = ds) (hs3 : (s.fn H (ds ++ [])).vars = []) (hb : Below W.heap.size W W') :
    s.post enc Tryz.prog f false true false false W args (.bool true) W' := by
  refine ⟨ds, [], before, [], before, [], hW, ?_, ?_, ?_, hb.frame _, fun h => by cases h⟩
  · rw [hs1, hr]
    exact trodAll_cons_mk (shut_bool Tryz.underlying4 true) trodAll_mk0
  · rw [hs2]
    exact trodAll_below hb ht (fun x hx => hW.lt x hx) hA
  · rw [hs3, hv]
    exact rfl
end

/-- strings.asciiSpace -/
def tabSp : List Int := [0, 0, 0, 0, 0, 0, 0, 0, 0, 1, 1, 1, 1, 1, 0, 0, 0, 0, 0, 0, 0, 0, 0, 0, 0, 0, 0, 0, 0, 0, 0, 0, 1, 0, 0, 0, 0, 0, 0, 0, 0, 0, 0, 0, 0, 0, 0, 0, 0, 0, 0, 0, 0, 0, 0, 0, 0, 0, 0, 0, 0, 0, 0, 0, 0, 0, 0, 0, 0, 0, 0, 0, 0, 0, 0, 0, 0, 0, 0, 0, 0, 0, 0, 0, 0, 0, 0, 0, 0, 0, 0, 0, 0, 0, 0, 0, 0, 0, 0, 0, 0, 0, 0, 0, 0, 0, 0, 0, 0, 0, 0, 0, 0, 0, 0, 0, 0, 0, 0, 0, 0, 0, 0, 0, 0, 0, 0, 0, 0, 0, 0, 0, 0, 0, 0, 0, 0, 0, 0, 0, 0, 0, 0, 0, 0, 0, 0, 0, 0, 0, 0, 0, 0, 0, 0, 0, 0, 0, 0, 0, 0, 0, 0, 0, 0, 0, 0, 0, 0, 0, 0, 0, 0, 0, 0, 0, 0, 0, 0, 0, 0, 0, 0, 0, 0, 0, 0, 0, 0, 0, 0, 0, 0, 0, 0, 0, 0, 0, 0, 0, 0, 0, 0, 0, 0, 0, 0, 0, 0, 0, 0, 0, 0, 0, 0, 0, 0, 0, 0, 0, 0, 0, 0, 0, 0, 0, 0, 0, 0, 0, 0, 0, 0, 0, 0, 0, 0, 0, 0, 0, 0, 0, 0, 0, 0, 0, 0, 0, 0, 0, 0, 0, 0, 0, 0, 0]
theorem gSp : Tryz.prog.globalNamed "strings.asciiSpace" = some 6 := by kernel_rfl
theorem gTf : Tryz.prog.globalNamed "keyhole/syntax.typeFields" = some 4 := by kernel_rfl
theorem sp_of {W : World} (t : Lib.TabIs Tryz.prog W "strings.asciiSpace" .u8 tabSp) : SpT W := by
  have hc : ∀ c : Fin 123, (c.val = 32 ∨ (97 ≤ c.val ∧ c.val ≤ 122)) → tabSp.getD c.val 0 = if c.val = 32 then 1 else 0 := by decide +kernel
  have hlen : tabSp.length = 256 := by decide +kernel
  refine ⟨fun c h => ?_, World.block_lt_of_cell? W _ (t.cell gSp 0 (by rw [hlen]; decide))⟩
  have h1 := t.cell gSp c (by rw [hlen]; omega)
  rw [h1, hc ⟨c, by omega⟩ h]
/-- syntax.typeFields -/
def tabTf : List Int := [0, 8, 80, 96, 2]
theorem cellsFields : Tryz.prog.cellsOf 142 = 1 := by kernel_rfl
theorem tf_of {W : World} (t : Lib.TabIs Tryz.prog W "keyhole/syntax.typeFields" .i64 tabTf) : TfT W := by
  have hc : ∀ c : Fin 5, tabTf.getD c.val 0 = ((G.uses ((c.val : Nat) : Int) : Nat) : Int) := by decide +kernel
  have hlen : tabTf.length = 5 := by decide +kernel
  refine ⟨fun c h => ?_, World.block_lt_of_cell? W _ (t.cell gTf 0 (by rw [hlen]; decide))⟩
  have h1 := t.cell gTf c (by rw [hlen]; omega)
  rw [h1, hc ⟨c, h⟩]
set_option maxRecDepth 100000 in
/-- the variables that a row lists, as it lists them -/
theorem tb_of_laid {W : World} (h : laidMet Tryz.prog [("math/bits.deBruijn32tab", Rows.laid_math_bits_deBruijn32tab), ("math/bits.deBruijn64tab", Rows.laid_math_bits_deBruijn64tab), ("internal/strconv.uint64pow10", Rows.laid_internal_strconv_uint64pow10), ("unicode/utf8.acceptRanges", Rows.laid_unicode_utf8_acceptRanges), ("unicode.White_Space", Rows.laid_unicode_White_Space), ("strings.asciiSpace", Rows.laid_strings_asciiSpace), ("keyhole/syntax.operators", Rows.laid_keyhole_syntax_operators), ("keyhole/syntax.typeFields", Rows.laid_keyhole_syntax_typeFields), ("keyhole/syntax.stmtFields", Rows.laid_keyhole_syntax_stmtFields), ("keyhole/syntax.declFields", Rows.laid_keyhole_syntax_declFields), ("unicode/utf8.first", Rows.laid_unicode_utf8_first)] W) : Tb W.heap.size W := by
  have h2 := h.tail.tail.tail.tail.tail
  have t1 : Lib.TabIs Tryz.prog W "strings.asciiSpace" .u8 tabSp := Lib.tabIs_of_head gSp (by kernel_rfl) Tryz.underlying175 Tryz.underlying5 cellsU8 (by kernel_rfl) h2
  have h3 := h2.tail.tail
  have t2 : Lib.TabIs Tryz.prog W "keyhole/syntax.typeFields" .i64 tabTf := Lib.tabIs_of_head gTf (by kernel_rfl) Tryz.underlying161 Tryz.underlying142 cellsFields (by kernel_rfl) h3
  have s := sp_of t1
  have o := tf_of t2
  exact ⟨o, s, o.lt, s.lt⟩

/-- the list of the rows -/
abbrev laidL : List (String × DataW Unit) := [("math/bits.deBruijn32tab", Rows.laid_math_bits_deBruijn32tab), ("math/bits.deBruijn64tab", Rows.laid_math_bits_deBruijn64tab), ("internal/strconv.uint64pow10", Rows.laid_internal_strconv_uint64pow10), ("unicode/utf8.acceptRanges", Rows.laid_unicode_utf8_acceptRanges), ("unicode.White_Space", Rows.laid_unicode_White_Space), ("strings.asciiSpace", Rows.laid_strings_asciiSpace), ("keyhole/syntax.operators", Rows.laid_keyhole_syntax_operators), ("keyhole/syntax.typeFields", Rows.laid_keyhole_syntax_typeFields), ("keyhole/syntax.stmtFields", Rows.laid_keyhole_syntax_stmtFields), ("keyhole/syntax.declFields", Rows.laid_keyhole_syntax_declFields), ("unicode/utf8.first", Rows.laid_unicode_utf8_first)]
/-- a start: the settled world, the listed variables as their initialisers lay them -/
noncomputable def laidWorld (os : Os) : World := World.laidAll Tryz.prog os laidL
theorem laidL_met (os : Os) (args : Array Value) : laidMet Tryz.prog laidL ((laidWorld os).forCall (fun _ _ => 0) ⟨#[], args, []⟩).memory := laidMet_laidAll args (by kernel_rfl) (by kernel_rfl)
theorem laidL_shape (os : Os) (args : Array Value) : ((laidWorld os).forCall (fun _ _ => 0) ⟨#[], args, []⟩).variablesRefB Tryz.prog = true := by kernel_rfl
theorem laidL_rest (os : Os) (args : Array Value) : (((laidWorld os).forCall (fun _ _ => 0) ⟨#[], args, []⟩).heap.toList.drop Tryz.prog.globals.size).take ((begin Tryz.prog (fun _ _ => 0) default).world.heap.size - Tryz.prog.globals.size) =
      (begin Tryz.prog (fun _ _ => 0) default).world.heap.toList.drop Tryz.prog.globals.size := by kernel_rfl
end Go.Proofs.YtlifnabeilnblaaGreatDoor
