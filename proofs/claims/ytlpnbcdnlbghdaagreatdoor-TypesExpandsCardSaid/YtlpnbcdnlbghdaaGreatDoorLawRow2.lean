/- From a row to a walk: arguments that are declarations. -/
import Derived.Test.YtlpnbcdnlbghdaaGreatDoorLawRow
import Derived.Test.YtlpnbcdnlbghdaaGreatDoorDl
namespace Go.Proofs.YtlpnbcdnlbghdaaGreatDoor
open Go.ChangeShapes Go.WideShapes Go.ChangeAt Go.RowKit
set_option linter.unusedVariables false

theorem cellsDecl : Tryz.prog.cellsOf 45 = 17 := by kernel_rfl
theorem cellsExprD : Tryz.prog.cellsOf 42 = 4 := by kernel_rfl
instance : Inhabited Dc := ⟨⟨0, ⟨#[]⟩, default, 0, 0, 0, ⟨#[]⟩, none, 0, 0, none, 0, 0, none, 0, 0, none, 0, 0⟩⟩
theorem list17 {α : Type} {l : List α} (h : l.length = 17) : ∃ a b c d e f g a1 b1 c1 d1 e1 f1 g1 a2 b2 c2, l = [a, b, c, d, e, f, g, a1, b1, c1, d1, e1, f1, g1, a2, b2, c2] := by
  match l, h with
  | [a, b, c, d, e, f, g, a1, b1, c1, d1, e1, f1, g1, a2, b2, c2], _ => exact ⟨a, b, c, d, e, f, g, a1, b1, c1, d1, e1, f1, g1, a2, b2, c2, rfl⟩
theorem list8 {α : Type} {l : List α} (h : l.length = 8) : ∃ a b c d e f g a1, l = [a, b, c, d, e, f, g, a1] := by
  match l, h with
  | [a, b, c, d, e, f, g, a1], _ => exact ⟨a, b, c, d, e, f, g, a1, rfl⟩
theorem list4 {α : Type} {l : List α} (h : l.length = 4) : ∃ a b c d, l = [a, b, c, d] := by
  match l, h with
  | [a, b, c, d], _ => exact ⟨a, b, c, d, rfl⟩

section
variable {H : Type} {enc : TypeId × Value → H} {W : World}
/-- a slice that reads is a slice -/
theorem open_slice {fuel : Nat} {t e : TypeId} {v : Value} {x : DataW H × List MemPlace} (ht : Tryz.prog.underlying t = some (.slice e)) (h : DataW.trod enc Tryz.prog W 0 (fun _ => true) true fuel t [v] = some x) : ∃ A n c, v = .slice A n c := by
  rcases DataW.trod_slice ht h with ⟨h1, -⟩ | ⟨a, len, cap, elems, rest, m, rfl, h1, -⟩
  · injection h1 with h1 _; exact ⟨_, _, _, h1⟩
  · injection h1 with h1 _; exact ⟨_, _, _, h1⟩
set_option maxRecDepth 100000 in
/-- a declaration that reads -/
theorem open_decl {fuel : Nat} {cs : List Value} {x : DataW H × List MemPlace} (h : DataW.trod enc Tryz.prog W 0 (fun _ => true) true fuel 45 cs = some x) : ∃ d : Dc, cs = d.cells ∧ Dc.In W W.heap.size d := by
  obtain ⟨xs, m, rfl, -, hl, hxl, hf⟩ := DataW.trod_struct Tryz.underlying45 h
  rw [cellsDecl] at hl
  obtain ⟨v0, v1, v2, v3, v4, v5, v6, v7, v8, v9, v10, v11, v12, v13, v14, v15, v16, rfl⟩ := list17 hl
  obtain ⟨y0, y1, y2, y3, y4, y5, y6, y7, rfl⟩ := list8 (show xs.length = 8 from hxl)
  have g0 : DataW.trod enc Tryz.prog W 0 (fun _ => true) true m 38 [v0] = some y0 := hf 0 _ rfl
  have g1 : DataW.trod enc Tryz.prog W 0 (fun _ => true) true m 9 [v1] = some y1 := hf 1 _ rfl
  have g2 : DataW.trod enc Tryz.prog W 0 (fun _ => true) true m 26 [v2, v3, v4, v5, v6, v7, v8] = some y2 := hf 2 _ rfl
  have g3 : DataW.trod enc Tryz.prog W 0 (fun _ => true) true m 3 [v9] = some y3 := hf 3 _ rfl
  have g4 : DataW.trod enc Tryz.prog W 0 (fun _ => true) true m 42 [v10, v11, v12, v13] = some y4 := hf 4 _ rfl
  have g5 : DataW.trod enc Tryz.prog W 0 (fun _ => true) true m 32 [v14] = some y5 := hf 5 _ rfl
  have g6 : DataW.trod enc Tryz.prog W 0 (fun _ => true) true m 32 [v15] = some y6 := hf 6 _ rfl
  have g7 : DataW.trod enc Tryz.prog W 0 (fun _ => true) true m 43 [v16] = some y7 := hf 7 _ rfl
  clear hf
  obtain ⟨xe, me, -, -, -, hxe, he⟩ := DataW.trod_struct Tryz.underlying42 g4
  obtain ⟨u0, u1, u2, u3, rfl⟩ := list4 (show xe.length = 4 from hxe)
  have k0 : DataW.trod enc Tryz.prog W 0 (fun _ => true) true me 39 [v10] = some u0 := he 0 _ rfl
  have k1 : DataW.trod enc Tryz.prog W 0 (fun _ => true) true me 3 [v11] = some u1 := he 1 _ rfl
  have k2 : DataW.trod enc Tryz.prog W 0 (fun _ => true) true me 9 [v12] = some u2 := he 2 _ rfl
  have k3 : DataW.trod enc Tryz.prog W 0 (fun _ => true) true me 40 [v13] = some u3 := he 3 _ rfl
  clear he
  obtain ⟨z0, e0, -, w0⟩ := DataW.trod_int Tryz.underlying38 g0
  obtain ⟨s1, e1, -, w1⟩ := DataW.trod_string Tryz.underlying9 g1
  obtain ⟨t, e2, hin⟩ := open_tree m g2
  obtain ⟨z3, e3, -, w3⟩ := DataW.trod_int Tryz.underlying3 g3
  obtain ⟨o0, j0, -, -⟩ := DataW.trod_int Tryz.underlying39 k0
  obtain ⟨o1, j1, -, -⟩ := DataW.trod_int Tryz.underlying3 k1
  obtain ⟨o2, j2, -, -⟩ := DataW.trod_string Tryz.underlying9 k2
  obtain ⟨a0, n0, p0, rfl⟩ := open_slice Tryz.underlying40 k3
  obtain ⟨a1, n1, p1, rfl⟩ := open_slice Tryz.underlying32 g5
  obtain ⟨a2, n2, p2, rfl⟩ := open_slice Tryz.underlying32 g6
  obtain ⟨a3, n3, p3, rfl⟩ := open_slice Tryz.underlying43 g7
  simp only [List.cons.injEq, and_true] at e0 e1 e3 j0 j1 j2
  subst e0 e1 e3 j0 j1 j2
  rw [maxLen_eq] at w1
  refine ⟨⟨z0, s1, t, z3, o0, o1, o2, a0, n0, p0, a1, n1, p1, a2, n2, p2, a3, n3, p3⟩, ?_, ⟨wfI w0, w1, hin⟩⟩
  unfold G.cells at e2
  simp only [List.cons.injEq, and_true] at e2
  obtain ⟨rfl, rfl, rfl, rfl, rfl, rfl, rfl⟩ := e2
  rfl
set_option maxRecDepth 100000 in
/-- an argument that is a list of declarations -/
theorem open_decls {base : Nat} {v : Value} {d : DataW H} {p : List MemPlace} (hv : Value.okWide Tryz.prog W .any base 32 v) (h : DataW.Trod enc Tryz.prog W 0 (fun _ => true) true 32 v d p) :
    ∃ (A : Option Addr) (l : List Dc) (c : Nat), v = .slice A l.length c ∧ Dc.L W W.heap.size A l := by
  obtain ⟨A0, l0, c0, rfl⟩ := okWide_slice Tryz.underlying32 hv
  obtain ⟨fuel, hf⟩ := h
  rcases DataW.trod_slice Tryz.underlying32 hf with ⟨h1, -⟩ | ⟨a, len, cap, elems, rest, m, rfl, h1, -, -, hlc, hcm, hel, hi, -, -⟩
  · have h1' : [Value.slice A0 l0 c0] = [.slice none 0 0] := h1
    injection h1' with h1' _
    exact ⟨none, [], 0, h1', by simp, Row.nil _ _ _, fun e he => by cases he⟩
  have h1' : [Value.slice A0 l0 c0] = [.slice (some a) len cap] := h1
  injection h1' with h1' _
  rw [cellsDecl] at hi
  have each : ∀ i, i < len → ∃ e : Dc, (∀ j, j < 17 → W.cell? ((a.add (i * 17)).add j) = e.cells[j]?) ∧ Dc.In W W.heap.size e := by
    intro i hlt
    have h1 := hi i hlt
    rw [List.getElem?_eq_getElem (by omega)] at h1
    obtain ⟨ci, h2, h3⟩ := Option.bind_eq_some_iff.1 h1
    obtain ⟨e, rfl, hin⟩ := open_decl h3
    exact ⟨e, (World.cells?_some h2).2.2, hin⟩
  obtain ⟨q, hq⟩ := Go.Deep.choose_lt each
  have hll : ((List.range len).map q).length = len := by simp
  have hget : ∀ i, (hi : i < ((List.range len).map q).length) → ((List.range len).map q)[i] = q i := fun i hi => by simp
  have hfl : ∀ l : List Dc, (l.flatMap Dc.cells).length = l.length * 17 := fun l => flatLen Dc.cells 17 (fun _ => rfl) l
  rw [maxLen_eq] at hcm
  refine ⟨some a, (List.range len).map q, cap, by rw [hll]; exact h1', ?_⟩
  refine ⟨by rw [hll]; omega, ⟨fun hp => ?_⟩, fun e he => ?_⟩
  · have hp' : 0 < len := by rw [hfl, hll] at hp; omega
    obtain ⟨b, off, spot⟩ := a
    have h0 := (hq 0 hp').1 0 (by omega)
    have hs : spot = none := by
      have := World.cell?_spot (h0.trans (show (Dc.cells (q 0))[0]? = some (.int .i64 (q 0).kd) from rfl))
      simpa [Addr.add] using this
    subst hs
    refine ⟨b, off, rfl, ?_, fun k u hu => ?_⟩
    · have := World.block_lt_of_cell? W _ (h0.trans (show (Dc.cells (q 0))[0]? = some (.int .i64 (q 0).kd) from rfl))
      simpa [Addr.add] using this
    · have hk : k < len * 17 := by
        have := (List.getElem?_eq_some_iff.1 hu).1
        rw [hfl, hll] at this; exact this
      obtain ⟨i, j, hij, hi, hj⟩ : ∃ i j, k = i * 17 + j ∧ i < len ∧ j < 17 := ⟨k / 17, k % 17, by omega, by omega, by omega⟩
      subst hij
      have h1 := flatAt Dc.cells 17 (fun _ => rfl) ((List.range len).map q) (k := i) (j := j) (by rw [hll]; exact hi) hj
      rw [hget] at h1
      have h2 := (hq i hi).1 j hj
      rw [h1] at hu
      rw [hu, add_plain, add_plain] at h2
      rw [← Nat.add_assoc]
      exact h2
  · obtain ⟨i, hi, rfl⟩ := List.mem_map.1 he
    exact (hq i (by have := List.mem_range.1 hi; omega)).2
end
end Go.Proofs.YtlpnbcdnlbghdaaGreatDoor
