/- My texts, packed: Row3, Rn, Ro, Rs, Vl, F1. -/
import Derived.Test.YtpfaddgcfacgdaaGreatDoorPk12
import Derived.Test.YtpfaddgcfacgdaaGreatDoorPk11
import Derived.Test.YtpfaddgcfacgdaaGreatDoorPk13
import Derived.Test.YtpfaddgcfacgdaaGreatDoorPk16
import Derived.Test.YtpfaddgcfacgdaaGreatDoorPk14
/- From a walk to a row: arguments that are fractions. -/
namespace Go.Proofs.YtpfaddgcfacgdaaGreatDoor
open Go.ChangeShapes Go.WideShapes Go.ChangeAt Go.RowKit
set_option linter.unusedVariables false

theorem cellsRat : Tryz.prog.cellsOf 26 = 4 := by kernel_rfl
theorem cellsSlU : Tryz.prog.cellsOf 22 = 1 := by kernel_rfl
section
variable {H : Type} {enc : TypeId × Value → H}
set_option maxRecDepth 100000 in
/-- two cells that are an integer -/
theorem int_of_cells {W : World} {n : Nat} {c0 c1 : Value} {y : DataW H × List MemPlace} (h : DataW.trod enc Tryz.prog W 0 (fun _ => true) true n 24 [c0, c1] = some y) :
    ∃ ng A ws c, c0 = .bool ng ∧ c1 = .slice A ws.length c ∧ Sl W W.heap.size A c ws := by
  obtain ⟨z0, z1, k, _, _, g0, g1⟩ := trod_struct2 Tryz.underlying24 h
  have h0 : DataW.trod enc Tryz.prog W 0 (fun _ => true) true k 4 [c0] = some z0 := by simpa [cellsBool] using g0
  have h1 : DataW.trod enc Tryz.prog W 0 (fun _ => true) true k 22 [c1] = some z1 := by simpa [cellsSlU] using g1
  obtain ⟨a, e0, _⟩ := DataW.trod_bool Tryz.underlying4 h0
  simp only [List.cons.injEq, and_true] at e0
  subst e0
  rcases open_ints Tryz.underlying22 Tryz.underlying84 cellsU32 h1 with ⟨e1, _⟩ | ⟨ad, len, cap, zs, e1, _, hl, _, hz, _, hc, hw⟩
  · simp only [List.cons.injEq, and_true] at e1
    subst e1
    exact ⟨a, none, [], 0, rfl, rfl, Sl.nil _ _⟩
  · simp only [List.cons.injEq, and_true] at e1
    subst e1
    have hzl : zs.length = cap := by simpa using hz
    have hwz : ∀ i, i < zs.length → 0 ≤ zs.getD i 0 ∧ zs.getD i 0 < 4294967296 := fun i hi => by
      have h2 := hw (zs.getD i 0) (by rw [List.getD_eq_getElem?_getD, List.getElem?_eq_getElem hi]; exact List.getElem_mem hi)
      have := (show 0 ≤ zs.getD i 0 ∧ zs.getD i 0 ≤ 4294967295 by simpa [Lit.wf, IntKind.min, IntKind.max, IntKind.signed, IntKind.bits] using h2)
      omega
    obtain ⟨ws, hws⟩ : ∃ ws : List Nat, ws = (List.range len).map fun i => (zs.getD i 0).toNat := ⟨_, rfl⟩
    have hlen : ws.length = len := by rw [hws]; simp
    have hget : ∀ i, i < len → ws[i]? = some (zs.getD i 0).toNat := fun i hi => by rw [hws, List.getElem?_map, List.getElem?_range hi]; rfl
    refine ⟨a, some ad, ws, cap, rfl, by rw [hlen], ⟨⟨⟨fun hp => ?_⟩⟩, ?_, by rw [hlen]; exact hl, fun e => by cases e⟩⟩
    · have hp' : 0 < len := by rw [List.length_map, hlen] at hp; exact hp
      obtain ⟨b, off, rfl, hc'⟩ := ints_at hc (by omega)
      refine ⟨b, off, rfl, World.block_lt_of_cell? W _ (hc' 0 (by omega)), fun k u hu => ?_⟩
      have hk : k < len := by
        have := (List.getElem?_eq_some_iff.1 hu).1
        rw [List.length_map, hlen] at this; exact this
      rw [List.getElem?_map, hget k hk] at hu
      simp only [Option.map_some, Option.some.injEq] at hu
      subst hu
      rw [hc' k (by omega), Int.toNat_of_nonneg (hwz k (by omega)).1]
    · intro x hx
      rw [hws] at hx
      obtain ⟨i, hi, rfl⟩ := List.mem_map.1 hx
      have := hwz i (by have := List.mem_range.1 hi; omega)
      omega
set_option maxRecDepth 100000 in
/-- an argument that is a fraction -/
theorem open_rat {W : World} {base : Nat} {v : Value} {d : DataW H} {p : List MemPlace} (hv : Value.okWide Tryz.prog W .any base 26 v) (h : DataW.Trod enc Tryz.prog W 0 (fun _ => true) true 26 v d p) :
    ∃ s A w c t B u e, v = ratV s A w.length c t B u.length e ∧ Sl W W.heap.size A c w ∧ Sl W W.heap.size B e u := by
  obtain ⟨cs, rfl, hsz⟩ := okWide_struct Tryz.underlying26 hv
  obtain ⟨c0, c1, c2, c3, rfl⟩ := Joins.array4 (hsz.trans cellsRat)
  obtain ⟨fuel, hf⟩ := h
  obtain ⟨y0, y1, n, _, _, h0, h1⟩ := trod_struct2 Tryz.underlying26 hf
  have g0 : DataW.trod enc Tryz.prog W 0 (fun _ => true) true n 24 [c0, c1] = some y0 := by simpa [Value.cells, cellsInt24] using h0
  have g1 : DataW.trod enc Tryz.prog W 0 (fun _ => true) true n 24 [c2, c3] = some y1 := by simpa [Value.cells, cellsInt24] using h1
  obtain ⟨s, A, w, c, rfl, rfl, ha⟩ := int_of_cells g0
  obtain ⟨t, B, u, e, rfl, rfl, hb⟩ := int_of_cells g1
  exact ⟨s, A, w, c, t, B, u, e, rfl, ha, hb⟩
theorem cellsFrac : Tryz.prog.cellsOf 47 = 2 := by kernel_rfl
set_option maxRecDepth 100000 in
/-- an argument that is a small fraction -/
theorem open_frac {W : World} {base : Nat} {v : Value} {d : DataW H} {p : List MemPlace} (hv : Value.okWide Tryz.prog W .any base 47 v) (h : DataW.Trod enc Tryz.prog W 0 (fun _ => true) true 47 v d p) :
    ∃ a b : Int, v = .agg #[.int .i64 a, .int .i64 b] ∧ (-9223372036854775808 ≤ a ∧ a ≤ 9223372036854775807) ∧ (-9223372036854775808 ≤ b ∧ b ≤ 9223372036854775807) := by
  obtain ⟨c0, c1, y0, y1, n, rfl, rfl, rfl, h0, h1⟩ := Joins.open_agg2 Tryz.underlying47 (by kernel_rfl) cellsFrac hv h
  obtain ⟨a, e0, _, ha⟩ := DataW.trod_int Tryz.underlying3 h0
  obtain ⟨b, e1, _, hb⟩ := DataW.trod_int Tryz.underlying3 h1
  simp only [List.cons.injEq, and_true] at e0 e1
  subst e0 e1
  exact ⟨a, b, rfl, by simpa [Lit.wf, IntKind.min, IntKind.max, IntKind.signed, IntKind.bits] using ha, by simpa [Lit.wf, IntKind.min, IntKind.max, IntKind.signed, IntKind.bits] using hb⟩
end
end Go.Proofs.YtpfaddgcfacgdaaGreatDoor
/- Walks of package rational: Divide. -/
namespace Go.Proofs.YtpfaddgcfacgdaaGreatDoor
open Go.RowKit
set_option linter.unusedVariables false

set_option maxRecDepth 100000 in
set_option maxHeartbeats 3000000 in
theorem grdivr {x y x' y' : Int} {n k : Nat} {p : Bool} {A : Option Addr} {c : Nat} {l : List Nat} {q : Bool} {B : Option Addr} {d : Nat} {m : List Nat} {p' : Bool} {A' : Option Addr} {c' : Nat} {l' : List Nat} {q' : Bool} {B' : Option Addr} {d' : Nat} {m' : List Nat} {w : World}
    (h1 : Iv w p A c l x n) (h2 : Iv w q B d m y n) (h3 : Iv w p' A' c' l' x' k) (h4 : Iv w q' B' d' m' y' k) (hn : n ≤ 49) (hn1 : 1 ≤ n) (hk : k ≤ 49) (hk1 : 1 ≤ k) (h0 : Rat.divInt x' y' ≠ 0) :
    Calls Tryz.prog 21 #[ratV p A l.length c q B m.length d, ratV p' A' l'.length c' q' B' m'.length d'] w (GRc (Rat.divInt x y / Rat.divInt x' y') (n + k) w) := by
  obtain ⟨za, hza⟩ : ∃ z, z = Rat.divInt x y := ⟨_, rfl⟩
  obtain ⟨zb, hzb⟩ : ∃ z, z = Rat.divInt x' y' := ⟨_, rfl⟩
  rw [← hza, ← hzb]
  have HK1 := Lib.hid hk1
  have HZB : Hid (zb ≠ 0) := Lib.hid (hzb ▸ h0)
  clear h0
  obtain ⟨z, hz⟩ : ∃ z, z = za / zb := ⟨_, rfl⟩
  rw [← hz]
  have HZ := Lib.hid hz
  clear hz
  have HR1 := Lib.hid (fun (W : World) (h1 : Iv W p A c l x n) (h2 : Iv W q B d m y n) => (by have h := gratio h1 h2 (by omega) hn1; rw [← hza] at h; exact h : Calls Tryz.prog 48 #[.agg #[.bool p, .slice A l.length c, .bool q, .slice B m.length d]] W (Ra za n W)))
  have HR2 := Lib.hid (fun (W : World) (h1 : Iv W p' A' c' l' x' k) (h2 : Iv W q' B' d' m' y' k) => (by have h := gratio h1 h2 (by omega) hk1; rw [← hzb] at h; exact h : Calls Tryz.prog 48 #[.agg #[.bool p', .slice A' l'.length c', .bool q', .slice B' m'.length d']] W (Ra zb k W)))
  have HN := Lib.hid hn
  have HK := Lib.hid hk
  clear hza hzb hn hn1 hk hk1
  unfold ratV
  go_enter Tryz.func21, Tryz.ntmps21
  go_wp2_with fail
  have t1 : Four (((w.alloc (.cells #[.bool p, .slice A l.length c, .bool q, .slice B m.length d] 26)).alloc (.cells #[.bool p', .slice A' l'.length c', .bool q', .slice B' m'.length d'] 26)).alloc (.cells #[.bool false, .slice none 0 0, .bool false, .slice none 0 0] 26)) w.heap.size (.bool p) (.slice A l.length c) (.bool q) (.slice B m.length d) := ((Four.new_ w (.bool p) (.slice A l.length c) (.bool q) (.slice B m.length d) 26).alloc _).alloc _
  have t2 : Four (((w.alloc (.cells #[.bool p, .slice A l.length c, .bool q, .slice B m.length d] 26)).alloc (.cells #[.bool p', .slice A' l'.length c', .bool q', .slice B' m'.length d'] 26)).alloc (.cells #[.bool false, .slice none 0 0, .bool false, .slice none 0 0] 26)) (w.heap.size + 1) (.bool p') (.slice A' l'.length c') (.bool q') (.slice B' m'.length d') := by simpa only [World.size_alloc, Nat.add_assoc, Nat.reduceAdd] using (Four.new_ (w.alloc (.cells #[.bool p, .slice A l.length c, .bool q, .slice B m.length d] 26)) (.bool p') (.slice A' l'.length c') (.bool q') (.slice B' m'.length d') 26).alloc _
  have t3 : Four (((w.alloc (.cells #[.bool p, .slice A l.length c, .bool q, .slice B m.length d] 26)).alloc (.cells #[.bool p', .slice A' l'.length c', .bool q', .slice B' m'.length d'] 26)).alloc (.cells #[.bool false, .slice none 0 0, .bool false, .slice none 0 0] 26)) (w.heap.size + 2) (.bool false) (.slice none 0 0) (.bool false) (.slice none 0 0) := by simpa only [World.size_alloc, Nat.add_assoc, Nat.reduceAdd] using Four.new_ ((w.alloc (.cells #[.bool p, .slice A l.length c, .bool q, .slice B m.length d] 26)).alloc (.cells #[.bool p', .slice A' l'.length c', .bool q', .slice B' m'.length d'] 26)) (.bool false) (.slice none 0 0) (.bool false) (.slice none 0 0) 26
  have bel : Below w.heap.size w (((w.alloc (.cells #[.bool p, .slice A l.length c, .bool q, .slice B m.length d] 26)).alloc (.cells #[.bool p', .slice A' l'.length c', .bool q', .slice B' m'.length d'] 26)).alloc (.cells #[.bool false, .slice none 0 0, .bool false, .slice none 0 0] 26)) := (((Below.refl _ _).alloc (Nat.le_refl _) _).alloc (by simp only [World.size_alloc]; omega) _).alloc (by simp only [World.size_alloc]; omega) _
  generalize (((w.alloc (.cells #[.bool p, .slice A l.length c, .bool q, .slice B m.length d] 26)).alloc (.cells #[.bool p', .slice A' l'.length c', .bool q', .slice B' m'.length d'] 26)).alloc (.cells #[.bool false, .slice none 0 0, .bool false, .slice none 0 0] 26)) = wx at t1 t2 t3 bel ⊢
  have X := h1.below bel
  have Y := h2.below bel
  have t1_0 := t1.c0
  have t1_1 := t1.c1
  have t1_2 := t1.c2
  have t1_3 := t1.c3
  go_wp2_with fail
  refine (HR1.out _ X Y).mono ?_
  rintro e w2 ⟨p1, A1, c1, l1, q1, B1, d1, m1, x1, y1, rfl, X1, Y1, h01, hz1, hb⟩
  clear t1_0 t1_1 t1_2 t1_3
  clear t1
  replace t2 := t2.below hb t2.lt
  replace t3 := t3.below hb t3.lt
  replace bel := bel.trans (hb.mono bel.size)
  clear hb
  have H01 := Lib.hid h01
  have HZ1 := Lib.hid hz1
  clear h01 hz1 X Y
  have t2' := (t2.alloc (.cells #[.bool p1, .slice A1 l1.length c1] 24)).alloc (.cells #[.bool q1, .slice B1 m1.length d1] 24)
  have e0 := t2'.c0
  have e1 := t2'.c1
  have e2 := t2'.c2
  have e3 := t2'.c3
  clear t2'
  go_wp2_with fail
  clear e0 e1 e2 e3
  have hg1 : w.heap.size + 2 < w2.heap.size := t3.lt
  have u1 : Two ((w2.alloc (.cells #[.bool p1, .slice A1 l1.length c1] 24)).alloc (.cells #[.bool q1, .slice B1 m1.length d1] 24)) w2.heap.size (.bool p1) (.slice A1 l1.length c1) := (Two.new_ w2 (.bool p1) (.slice A1 l1.length c1) 24).alloc _
  have u2 : Two ((w2.alloc (.cells #[.bool p1, .slice A1 l1.length c1] 24)).alloc (.cells #[.bool q1, .slice B1 m1.length d1] 24)) (w2.heap.size + 1) (.bool q1) (.slice B1 m1.length d1) := by simpa only [World.size_alloc, Nat.add_assoc, Nat.reduceAdd] using Two.new_ (w2.alloc (.cells #[.bool p1, .slice A1 l1.length c1] 24)) (.bool q1) (.slice B1 m1.length d1) 24
  have bn : Below w2.heap.size w2 ((w2.alloc (.cells #[.bool p1, .slice A1 l1.length c1] 24)).alloc (.cells #[.bool q1, .slice B1 m1.length d1] 24)) := ((Below.refl _ _).alloc (Nat.le_refl _) _).alloc (by simp only [World.size_alloc]; omega) _
  replace t2 := t2.below bn t2.lt
  replace t3 := t3.below bn t3.lt
  replace bel := bel.trans (bn.mono bel.size)
  replace X1 := X1.below bn
  replace Y1 := Y1.below bn
  clear bn
  generalize ((w2.alloc (.cells #[.bool p1, .slice A1 l1.length c1] 24)).alloc (.cells #[.bool q1, .slice B1 m1.length d1] 24)) = w3 at t2 t3 bel X1 Y1 u1 u2 ⊢
  generalize w2.heap.size = g at t2 t3 bel X1 Y1 u1 u2 hg1 ⊢
  have X := h3.below bel
  have Y := h4.below bel
  refine (HR2.out _ X Y).mono ?_
  rintro e w3 ⟨p2, A2, c2, l2, q2, B2, d2, m2, x2, y2, rfl, X2, Y2, h02, hz2, hb⟩
  clear t2
  replace t3 := t3.below hb t3.lt
  replace bel := bel.trans (hb.mono bel.size)
  replace X1 := X1.below hb
  replace Y1 := Y1.below hb
  replace u1 := u1.below hb u1.lt
  replace u2 := u2.below hb u2.lt
  clear hb
  have H02 := Lib.hid h02
  have HZ2 := Lib.hid hz2
  clear h02 hz2 X Y
  go_wp2_with fail
  have hg2 : w.heap.size + 2 < w3.heap.size := t3.lt
  have v1 : Two ((w3.alloc (.cells #[.bool p2, .slice A2 l2.length c2] 24)).alloc (.cells #[.bool q2, .slice B2 m2.length d2] 24)) w3.heap.size (.bool p2) (.slice A2 l2.length c2) := (Two.new_ w3 (.bool p2) (.slice A2 l2.length c2) 24).alloc _
  have v2 : Two ((w3.alloc (.cells #[.bool p2, .slice A2 l2.length c2] 24)).alloc (.cells #[.bool q2, .slice B2 m2.length d2] 24)) (w3.heap.size + 1) (.bool q2) (.slice B2 m2.length d2) := by simpa only [World.size_alloc, Nat.add_assoc, Nat.reduceAdd] using Two.new_ (w3.alloc (.cells #[.bool p2, .slice A2 l2.length c2] 24)) (.bool q2) (.slice B2 m2.length d2) 24
  have bn : Below w3.heap.size w3 ((w3.alloc (.cells #[.bool p2, .slice A2 l2.length c2] 24)).alloc (.cells #[.bool q2, .slice B2 m2.length d2] 24)) := ((Below.refl _ _).alloc (Nat.le_refl _) _).alloc (by simp only [World.size_alloc]; omega) _
  replace t3 := t3.below bn t3.lt
  replace bel := bel.trans (bn.mono bel.size)
  replace X1 := X1.below bn
  replace Y1 := Y1.below bn
  replace u1 := u1.below bn u1.lt
  replace u2 := u2.below bn u2.lt
  replace X2 := X2.below bn
  replace Y2 := Y2.below bn
  clear bn
  generalize ((w3.alloc (.cells #[.bool p2, .slice A2 l2.length c2] 24)).alloc (.cells #[.bool q2, .slice B2 m2.length d2] 24)) = w4 at t3 bel X1 Y1 u1 u2 X2 Y2 v1 v2 ⊢
  generalize w3.heap.size = g' at t3 bel X1 Y1 u1 u2 X2 Y2 v1 v2 hg2 ⊢
  replace t3 := t3.drew
  replace bel := bDrew1 bel
  replace X1 := X1.drew
  replace Y1 := Y1.drew
  replace u1 := u1.drew
  replace u2 := u2.drew
  replace X2 := X2.drew
  replace Y2 := Y2.drew
  replace v1 := v1.drew
  replace v2 := v2.drew
  have HM1 := Lib.hid (fun (W : World) (h : Iv W p1 A1 c1 l1 x1 n) (h' : Iv W q2 B2 d2 m2 y2 k) => gmul h h' (by have := HN.out; have := HK.out; omega) (by have := HN.out; have := HK.out; omega))
  have HM2 := Lib.hid (fun (W : World) (h : Iv W q1 B1 d1 m1 y1 n) (h' : Iv W p2 A2 c2 l2 x2 k) => gmul h h' (by have := HN.out; have := HK.out; omega) (by have := HN.out; have := HK.out; omega))
  have HE : Hid (y1 * x2 ≠ 0) := Lib.hid (by
    intro e
    rcases Int.mul_eq_zero.1 e with e | e
    · have := H01.out; omega
    · exact HZB.out (HZ2.out.symm.trans ((rq_zero_iff H02.out).2 e)))
  have HNW := Lib.hid (fun (W : World) (p3 : Bool) (A3 : Option Addr) (c3 : Nat) (l3 : List Nat) (q3 : Bool) (B3 : Option Addr) (d3 : Nat) (m3 : List Nat) (h : Cn W p3 A3 c3 l3 (x1 * y2) (n + k)) (h' : Cn W q3 B3 d3 m3 (y1 * x2) (n + k)) => (by have h := gnew h.iv h'.iv HE.out (by have := HN.out; have := HK.out; omega) (by have := X1.len; have := HN.out; have := HK.out; have := HK1.out; omega); rw [← rq_div, HZ1.out, HZ2.out, ← HZ.out] at h; exact h : Calls Tryz.prog 17 #[.agg #[.bool p3, .slice A3 l3.length c3], .agg #[.bool q3, .slice B3 m3.length d3]] W (GRc z (n + k) W)))
  go_region_held3 (fun w' => w'.cell? ⟨g, 0, none⟩ = some (.bool p1) ∧ w'.cell? ⟨g, 1, none⟩ = some (.slice A1 l1.length c1) ∧ w'.cell? ⟨g + 1, 0, none⟩ = some (.bool q1) ∧ w'.cell? ⟨g + 1, 1, none⟩ = some (.slice B1 m1.length d1) ∧ w'.cell? ⟨g', 0, none⟩ = some (.bool p2) ∧ w'.cell? ⟨g', 1, none⟩ = some (.slice A2 l2.length c2) ∧ w'.cell? ⟨g' + 1, 0, none⟩ = some (.bool q2) ∧ w'.cell? ⟨g' + 1, 1, none⟩ = some (.slice B2 m2.length d2))
    (first | with_reducible exact ⟨u1.c0, u1.c1, u2.c0, u2.c1, v1.c0, v1.c1, v2.c0, v2.c1⟩ | exact ⟨K1.out.c0, K1.out.c1, K2.out.c0, K2.out.c1, K3.out.c0, K3.out.c1, K4.out.c0, K4.out.c1⟩)
    (first
      | (go_at_call 62; (with_reducible refine (HM1.out _ X1 Y2).mono ?_); rintro e wa ⟨p3, A3, c3, l3, rfl, C3, hb⟩; replace t3 := t3.below hb t3.lt; replace bel := bel.trans (hb.mono bel.size); replace u1 := u1.below hb u1.lt; replace u2 := u2.below hb u2.lt; replace v1 := v1.below hb v1.lt; replace v2 := v2.below hb v2.lt; replace X1 := X1.below hb; replace Y1 := Y1.below hb; replace X2 := X2.below hb; replace Y2 := Y2.below hb; clear hb)
      | (go_at_call 62; (with_reducible refine (HM2.out _ Y1 X2).mono ?_); rintro e wa ⟨q3, B3, d3, m3, rfl, C4, hb⟩; replace t3 := t3.below hb t3.lt; replace bel := bel.trans (hb.mono bel.size); replace u1 := u1.below hb u1.lt; replace u2 := u2.below hb u2.lt; replace v1 := v1.below hb v1.lt; replace v2 := v2.below hb v2.lt; replace C3 := C3.below hb; clear hb)
      | (go_at_call 17; (with_reducible refine (HNW.out _ _ _ _ _ _ _ _ _ C3 C4).mono ?_); rintro e wa ⟨A4, c4, l4, A5, c5, l5, rfl, CC, hb⟩; replace t3 := t3.below hb t3.lt; replace bel := bel.trans (hb.mono bel.size); replace u1 := u1.below hb u1.lt; replace u2 := u2.below hb u2.lt; replace v1 := v1.below hb v1.lt; replace v2 := v2.below hb v2.lt; clear hb
         have d0 := t3.c0
         have f0 := t3.fr 0
         have d1 := t3.c1
         have f1 := t3.fr 1
         have d2 := t3.c2
         have f2 := t3.fr 2
         have d3 := t3.c3
         have f3 := t3.fr 3
         have K1 := Lib.hid (u1.far4 (g := w.heap.size + 2) (by omega) (.bool (decide (z.num < 0))) (.slice A4 l4.length c4) (.bool false) (.slice A5 l5.length c5))
         have K2 := Lib.hid (u2.far4 (g := w.heap.size + 2) (by omega) (.bool (decide (z.num < 0))) (.slice A4 l4.length c4) (.bool false) (.slice A5 l5.length c5))
         have K3 := Lib.hid (v1.far4 (g := w.heap.size + 2) (by omega) (.bool (decide (z.num < 0))) (.slice A4 l4.length c4) (.bool false) (.slice A5 l5.length c5))
         have K4 := Lib.hid (v2.far4 (g := w.heap.size + 2) (by omega) (.bool (decide (z.num < 0))) (.slice A4 l4.length c4) (.bool false) (.slice A5 l5.length c5))
         have R := Lib.hid (t3.put (.bool (decide (z.num < 0))) (.slice A4 l4.length c4) (.bool false) (.slice A5 l5.length c5))
         have CR := Lib.hid (CC.put4 t3 (.bool (decide (z.num < 0))) (.slice A4 l4.length c4) (.bool false) (.slice A5 l5.length c5))
         have BL := Lib.hid (below_set4 bel (b := w.heap.size + 2) (by omega) (.bool (decide (z.num < 0))) (.slice A4 l4.length c4) (.bool false) (.slice A5 l5.length c5))))
  go_wp2_with fail
  have r0 := R.out.c0
  have r1 := R.out.c1
  have r2 := R.out.c2
  have r3 := R.out.c3
  unfold set4 at r0 r1 r2 r3
  refine bodyPost_ret (v := .tuple #[.agg #[.bool (decide (z.num < 0)), .slice A4 l4.length c4, .bool false, .slice A5 l5.length c5], .int .i64 0]) (by simp [results, Tryz.results21, go_sem, r0, r1, r2, r3]) rfl ?_
  exact ⟨A4, c4, l4, A5, c5, l5, rfl, CR.out, BL.out⟩

set_option maxRecDepth 100000 in
set_option maxHeartbeats 3000000 in
theorem grdivr0 {x y x' y' : Int} {n k : Nat} {p : Bool} {A : Option Addr} {c : Nat} {l : List Nat} {q : Bool} {B : Option Addr} {d : Nat} {m : List Nat} {p' : Bool} {A' : Option Addr} {c' : Nat} {l' : List Nat} {q' : Bool} {B' : Option Addr} {d' : Nat} {m' : List Nat} {w : World}
    (h1 : Iv w p A c l x n) (h2 : Iv w q B d m y n) (h3 : Iv w p' A' c' l' x' k) (h4 : Iv w q' B' d' m' y' k) (hn : n ≤ 49) (hn1 : 1 ≤ n) (hk : k ≤ 49) (hk1 : 1 ≤ k) (h0 : Rat.divInt x' y' = 0) :
    Calls Tryz.prog 21 #[ratV p A l.length c q B m.length d, ratV p' A' l'.length c' q' B' m'.length d'] w fun e w' => e = .returned (.tuple #[ratV false none 0 0 false none 0 0, .int .i64 3]) ∧ Below w.heap.size w w' := by
  obtain ⟨za, hza⟩ : ∃ z, z = Rat.divInt x y := ⟨_, rfl⟩
  obtain ⟨zb, hzb⟩ : ∃ z, z = Rat.divInt x' y' := ⟨_, rfl⟩
  have HZB : Hid (zb = 0) := Lib.hid (hzb.trans h0)
  clear h0
  have HR1 := Lib.hid (fun (W : World) (h1 : Iv W p A c l x n) (h2 : Iv W q B d m y n) => (by have h := gratio h1 h2 (by omega) hn1; rw [← hza] at h; exact h : Calls Tryz.prog 48 #[.agg #[.bool p, .slice A l.length c, .bool q, .slice B m.length d]] W (Ra za n W)))
  have HR2 := Lib.hid (fun (W : World) (h1 : Iv W p' A' c' l' x' k) (h2 : Iv W q' B' d' m' y' k) => (by have h := gratio h1 h2 (by omega) hk1; rw [← hzb] at h; exact h : Calls Tryz.prog 48 #[.agg #[.bool p', .slice A' l'.length c', .bool q', .slice B' m'.length d']] W (Ra zb k W)))
  have HN := Lib.hid hn
  have HK := Lib.hid hk
  clear hza hzb hn hn1 hk hk1
  unfold ratV
  go_enter Tryz.func21, Tryz.ntmps21
  go_wp2_with fail
  have t1 : Four (((w.alloc (.cells #[.bool p, .slice A l.length c, .bool q, .slice B m.length d] 26)).alloc (.cells #[.bool p', .slice A' l'.length c', .bool q', .slice B' m'.length d'] 26)).alloc (.cells #[.bool false, .slice none 0 0, .bool false, .slice none 0 0] 26)) w.heap.size (.bool p) (.slice A l.length c) (.bool q) (.slice B m.length d) := ((Four.new_ w (.bool p) (.slice A l.length c) (.bool q) (.slice B m.length d) 26).alloc _).alloc _
  have t2 : Four (((w.alloc (.cells #[.bool p, .slice A l.length c, .bool q, .slice B m.length d] 26)).alloc (.cells #[.bool p', .slice A' l'.length c', .bool q', .slice B' m'.length d'] 26)).alloc (.cells #[.bool false, .slice none 0 0, .bool false, .slice none 0 0] 26)) (w.heap.size + 1) (.bool p') (.slice A' l'.length c') (.bool q') (.slice B' m'.length d') := by simpa only [World.size_alloc, Nat.add_assoc, Nat.reduceAdd] using (Four.new_ (w.alloc (.cells #[.bool p, .slice A l.length c, .bool q, .slice B m.length d] 26)) (.bool p') (.slice A' l'.length c') (.bool q') (.slice B' m'.length d') 26).alloc _
  have t3 : Four (((w.alloc (.cells #[.bool p, .slice A l.length c, .bool q, .slice B m.length d] 26)).alloc (.cells #[.bool p', .slice A' l'.length c', .bool q', .slice B' m'.length d'] 26)).alloc (.cells #[.bool false, .slice none 0 0, .bool false, .slice none 0 0] 26)) (w.heap.size + 2) (.bool false) (.slice none 0 0) (.bool false) (.slice none 0 0) := by simpa only [World.size_alloc, Nat.add_assoc, Nat.reduceAdd] using Four.new_ ((w.alloc (.cells #[.bool p, .slice A l.length c, .bool q, .slice B m.length d] 26)).alloc (.cells #[.bool p', .slice A' l'.length c', .bool q', .slice B' m'.length d'] 26)) (.bool false) (.slice none 0 0) (.bool false) (.slice none 0 0) 26
  have bel : Below w.heap.size w (((w.alloc (.cells #[.bool p, .slice A l.length c, .bool q, .slice B m.length d] 26)).alloc (.cells #[.bool p', .slice A' l'.length c', .bool q', .slice B' m'.length d'] 26)).alloc (.cells #[.bool false, .slice none 0 0, .bool false, .slice none 0 0] 26)) := (((Below.refl _ _).alloc (Nat.le_refl _) _).alloc (by simp only [World.size_alloc]; omega) _).alloc (by simp only [World.size_alloc]; omega) _
  generalize (((w.alloc (.cells #[.bool p, .slice A l.length c, .bool q, .slice B m.length d] 26)).alloc (.cells #[.bool p', .slice A' l'.length c', .bool q', .slice B' m'.length d'] 26)).alloc (.cells #[.bool false, .slice none 0 0, .bool false, .slice none 0 0] 26)) = wx at t1 t2 t3 bel ⊢
  have X := h1.below bel
  have Y := h2.below bel
  have t1_0 := t1.c0
  have t1_1 := t1.c1
  have t1_2 := t1.c2
  have t1_3 := t1.c3
  go_wp2_with fail
  refine (HR1.out _ X Y).mono ?_
  rintro e w2 ⟨p1, A1, c1, l1, q1, B1, d1, m1, x1, y1, rfl, X1, Y1, h01, hz1, hb⟩
  clear t1_0 t1_1 t1_2 t1_3
  clear t1
  replace t2 := t2.below hb t2.lt
  replace t3 := t3.below hb t3.lt
  replace bel := bel.trans (hb.mono bel.size)
  clear hb
  have H01 := Lib.hid h01
  have HZ1 := Lib.hid hz1
  clear h01 hz1 X Y
  have t2' := (t2.alloc (.cells #[.bool p1, .slice A1 l1.length c1] 24)).alloc (.cells #[.bool q1, .slice B1 m1.length d1] 24)
  have e0 := t2'.c0
  have e1 := t2'.c1
  have e2 := t2'.c2
  have e3 := t2'.c3
  clear t2'
  go_wp2_with fail
  clear e0 e1 e2 e3
  have hg1 : w.heap.size + 2 < w2.heap.size := t3.lt
  have u1 : Two ((w2.alloc (.cells #[.bool p1, .slice A1 l1.length c1] 24)).alloc (.cells #[.bool q1, .slice B1 m1.length d1] 24)) w2.heap.size (.bool p1) (.slice A1 l1.length c1) := (Two.new_ w2 (.bool p1) (.slice A1 l1.length c1) 24).alloc _
  have u2 : Two ((w2.alloc (.cells #[.bool p1, .slice A1 l1.length c1] 24)).alloc (.cells #[.bool q1, .slice B1 m1.length d1] 24)) (w2.heap.size + 1) (.bool q1) (.slice B1 m1.length d1) := by simpa only [World.size_alloc, Nat.add_assoc, Nat.reduceAdd] using Two.new_ (w2.alloc (.cells #[.bool p1, .slice A1 l1.length c1] 24)) (.bool q1) (.slice B1 m1.length d1) 24
  have bn : Below w2.heap.size w2 ((w2.alloc (.cells #[.bool p1, .slice A1 l1.length c1] 24)).alloc (.cells #[.bool q1, .slice B1 m1.length d1] 24)) := ((Below.refl _ _).alloc (Nat.le_refl _) _).alloc (by simp only [World.size_alloc]; omega) _
  replace t2 := t2.below bn t2.lt
  replace t3 := t3.below bn t3.lt
  replace bel := bel.trans (bn.mono bel.size)
  replace X1 := X1.below bn
  replace Y1 := Y1.below bn
  clear bn
  generalize ((w2.alloc (.cells #[.bool p1, .slice A1 l1.length c1] 24)).alloc (.cells #[.bool q1, .slice B1 m1.length d1] 24)) = w3 at t2 t3 bel X1 Y1 u1 u2 ⊢
  generalize w2.heap.size = g at t2 t3 bel X1 Y1 u1 u2 hg1 ⊢
  have X := h3.below bel
  have Y := h4.below bel
  refine (HR2.out _ X Y).mono ?_
  rintro e w3 ⟨p2, A2, c2, l2, q2, B2, d2, m2, x2, y2, rfl, X2, Y2, h02, hz2, hb⟩
  clear t2
  replace t3 := t3.below hb t3.lt
  replace bel := bel.trans (hb.mono bel.size)
  replace X1 := X1.below hb
  replace Y1 := Y1.below hb
  replace u1 := u1.below hb u1.lt
  replace u2 := u2.below hb u2.lt
  clear hb
  have H02 := Lib.hid h02
  have HZ2 := Lib.hid hz2
  clear h02 hz2 X Y
  go_wp2_with fail
  have hg2 : w.heap.size + 2 < w3.heap.size := t3.lt
  have v1 : Two ((w3.alloc (.cells #[.bool p2, .slice A2 l2.length c2] 24)).alloc (.cells #[.bool q2, .slice B2 m2.length d2] 24)) w3.heap.size (.bool p2) (.slice A2 l2.length c2) := (Two.new_ w3 (.bool p2) (.slice A2 l2.length c2) 24).alloc _
  have v2 : Two ((w3.alloc (.cells #[.bool p2, .slice A2 l2.length c2] 24)).alloc (.cells #[.bool q2, .slice B2 m2.length d2] 24)) (w3.heap.size + 1) (.bool q2) (.slice B2 m2.length d2) := by simpa only [World.size_alloc, Nat.add_assoc, Nat.reduceAdd] using Two.new_ (w3.alloc (.cells #[.bool p2, .slice A2 l2.length c2] 24)) (.bool q2) (.slice B2 m2.length d2) 24
  have bn : Below w3.heap.size w3 ((w3.alloc (.cells #[.bool p2, .slice A2 l2.length c2] 24)).alloc (.cells #[.bool q2, .slice B2 m2.length d2] 24)) := ((Below.refl _ _).alloc (Nat.le_refl _) _).alloc (by simp only [World.size_alloc]; omega) _
  replace t3 := t3.below bn t3.lt
  replace bel := bel.trans (bn.mono bel.size)
  replace X1 := X1.below bn
  replace Y1 := Y1.below bn
  replace u1 := u1.below bn u1.lt
  replace u2 := u2.below bn u2.lt
  replace X2 := X2.below bn
  replace Y2 := Y2.below bn
  clear bn
  generalize ((w3.alloc (.cells #[.bool p2, .slice A2 l2.length c2] 24)).alloc (.cells #[.bool q2, .slice B2 m2.length d2] 24)) = w4 at t3 bel X1 Y1 u1 u2 X2 Y2 v1 v2 ⊢
  generalize w3.heap.size = g' at t3 bel X1 Y1 u1 u2 X2 Y2 v1 v2 hg2 ⊢
  replace t3 := t3.drew
  replace bel := bDrew1 bel
  replace X1 := X1.drew
  replace Y1 := Y1.drew
  replace u1 := u1.drew
  replace u2 := u2.drew
  replace X2 := X2.drew
  replace Y2 := Y2.drew
  replace v1 := v1.drew
  replace v2 := v2.drew
  have HM1 := Lib.hid (fun (W : World) (h : Iv W p1 A1 c1 l1 x1 n) (h' : Iv W q2 B2 d2 m2 y2 k) => gmul h h' (by have := HN.out; have := HK.out; omega) (by have := HN.out; have := HK.out; omega))
  have HM2 := Lib.hid (fun (W : World) (h : Iv W q1 B1 d1 m1 y1 n) (h' : Iv W p2 A2 c2 l2 x2 k) => gmul h h' (by have := HN.out; have := HK.out; omega) (by have := HN.out; have := HK.out; omega))
  have HE : Hid (y1 * x2 = 0) := Lib.hid (by rw [(rq_zero_iff H02.out).1 (HZ2.out.trans HZB.out), Int.mul_zero])
  have HNW := Lib.hid (fun (W : World) (p3 : Bool) (A3 : Option Addr) (c3 : Nat) (l3 : List Nat) (q3 : Bool) (B3 : Option Addr) (d3 : Nat) (m3 : List Nat) (h : Cn W q3 B3 d3 m3 (y1 * x2) (n + k)) => (by have h' := h.iv; rw [HE.out] at h'; exact gnew0 h' (by have := HN.out; have := HK.out; omega) : Calls Tryz.prog 17 #[.agg #[.bool p3, .slice A3 l3.length c3], .agg #[.bool q3, .slice B3 m3.length d3]] W fun e w' => e = .returned (.tuple #[.agg #[.bool false, .slice none 0 0, .bool false, .slice none 0 0], .int .i64 3]) ∧ Below W.heap.size W w'))
  go_region_held3 (fun w' => w'.cell? ⟨g, 0, none⟩ = some (.bool p1) ∧ w'.cell? ⟨g, 1, none⟩ = some (.slice A1 l1.length c1) ∧ w'.cell? ⟨g + 1, 0, none⟩ = some (.bool q1) ∧ w'.cell? ⟨g + 1, 1, none⟩ = some (.slice B1 m1.length d1) ∧ w'.cell? ⟨g', 0, none⟩ = some (.bool p2) ∧ w'.cell? ⟨g', 1, none⟩ = some (.slice A2 l2.length c2) ∧ w'.cell? ⟨g' + 1, 0, none⟩ = some (.bool q2) ∧ w'.cell? ⟨g' + 1, 1, none⟩ = some (.slice B2 m2.length d2))
    (first | with_reducible exact ⟨u1.c0, u1.c1, u2.c0, u2.c1, v1.c0, v1.c1, v2.c0, v2.c1⟩ | exact ⟨K1.out.c0, K1.out.c1, K2.out.c0, K2.out.c1, K3.out.c0, K3.out.c1, K4.out.c0, K4.out.c1⟩)
    (first
      | (go_at_call 62; (with_reducible refine (HM1.out _ X1 Y2).mono ?_); rintro e wa ⟨p3, A3, c3, l3, rfl, C3, hb⟩; replace t3 := t3.below hb t3.lt; replace bel := bel.trans (hb.mono bel.size); replace u1 := u1.below hb u1.lt; replace u2 := u2.below hb u2.lt; replace v1 := v1.below hb v1.lt; replace v2 := v2.below hb v2.lt; replace X1 := X1.below hb; replace Y1 := Y1.below hb; replace X2 := X2.below hb; replace Y2 := Y2.below hb; clear hb)
      | (go_at_call 62; (with_reducible refine (HM2.out _ Y1 X2).mono ?_); rintro e wa ⟨q3, B3, d3, m3, rfl, C4, hb⟩; replace t3 := t3.below hb t3.lt; replace bel := bel.trans (hb.mono bel.size); replace u1 := u1.below hb u1.lt; replace u2 := u2.below hb u2.lt; replace v1 := v1.below hb v1.lt; replace v2 := v2.below hb v2.lt; replace C3 := C3.below hb; clear hb)
      | (go_at_call 17; (with_reducible refine (HNW.out _ _ _ _ _ _ _ _ _ C4).mono ?_); rintro e wa ⟨rfl, hb⟩; replace t3 := t3.below hb t3.lt; replace bel := bel.trans (hb.mono bel.size); replace u1 := u1.below hb u1.lt; replace u2 := u2.below hb u2.lt; replace v1 := v1.below hb v1.lt; replace v2 := v2.below hb v2.lt; clear hb
         have d0 := t3.c0
         have f0 := t3.fr 0
         have d1 := t3.c1
         have f1 := t3.fr 1
         have d2 := t3.c2
         have f2 := t3.fr 2
         have d3 := t3.c3
         have f3 := t3.fr 3
         have K1 := Lib.hid (u1.far4 (g := w.heap.size + 2) (by omega) (.bool false) (.slice none 0 0) (.bool false) (.slice none 0 0))
         have K2 := Lib.hid (u2.far4 (g := w.heap.size + 2) (by omega) (.bool false) (.slice none 0 0) (.bool false) (.slice none 0 0))
         have K3 := Lib.hid (v1.far4 (g := w.heap.size + 2) (by omega) (.bool false) (.slice none 0 0) (.bool false) (.slice none 0 0))
         have K4 := Lib.hid (v2.far4 (g := w.heap.size + 2) (by omega) (.bool false) (.slice none 0 0) (.bool false) (.slice none 0 0))
         have R := Lib.hid (t3.put (.bool false) (.slice none 0 0) (.bool false) (.slice none 0 0))
         have BL := Lib.hid (below_set4 bel (b := w.heap.size + 2) (by omega) (.bool false) (.slice none 0 0) (.bool false) (.slice none 0 0))))
  go_wp2_with fail
  have r0 := R.out.c0
  have r1 := R.out.c1
  have r2 := R.out.c2
  have r3 := R.out.c3
  unfold set4 at r0 r1 r2 r3
  refine bodyPost_ret (v := .tuple #[.agg #[.bool false, .slice none 0 0, .bool false, .slice none 0 0], .int .i64 3]) (by simp [results, Tryz.results21, go_sem, r0, r1, r2, r3]) rfl ?_
  exact ⟨rfl, BL.out⟩
end Go.Proofs.YtpfaddgcfacgdaaGreatDoor
/- Walks of package rational: Compare. -/
namespace Go.Proofs.YtpfaddgcfacgdaaGreatDoor
open Go.RowKit
set_option linter.unusedVariables false

set_option maxRecDepth 100000 in
set_option maxHeartbeats 3000000 in
theorem grcmpr {x y x' y' : Int} {n k : Nat} {p : Bool} {A : Option Addr} {c : Nat} {l : List Nat} {q : Bool} {B : Option Addr} {d : Nat} {m : List Nat} {p' : Bool} {A' : Option Addr} {c' : Nat} {l' : List Nat} {q' : Bool} {B' : Option Addr} {d' : Nat} {m' : List Nat} {w : World}
    (h1 : Iv w p A c l x n) (h2 : Iv w q B d m y n) (h3 : Iv w p' A' c' l' x' k) (h4 : Iv w q' B' d' m' y' k) (hn : n ≤ 49) (hn1 : 1 ≤ n) (hk : k ≤ 49) (hk1 : 1 ≤ k) :
    Calls Tryz.prog 33 #[ratV p A l.length c q B m.length d, ratV p' A' l'.length c' q' B' m'.length d'] w fun e w' => e = .returned (.int .i64 (Rat.divInt x y - Rat.divInt x' y').num.sign) ∧ Below w.heap.size w w' := by
  obtain ⟨za, hza⟩ : ∃ z, z = Rat.divInt x y := ⟨_, rfl⟩
  obtain ⟨zb, hzb⟩ : ∃ z, z = Rat.divInt x' y' := ⟨_, rfl⟩
  rw [← hza, ← hzb]
  obtain ⟨s, hs⟩ : ∃ s : Int, s = (za - zb).num.sign := ⟨_, rfl⟩
  rw [← hs]
  have HSS := Lib.hid hs
  clear hs
  have HR1 := Lib.hid (fun (W : World) (h1 : Iv W p A c l x n) (h2 : Iv W q B d m y n) => (by have h := gratio h1 h2 (by omega) hn1; rw [← hza] at h; exact h : Calls Tryz.prog 48 #[.agg #[.bool p, .slice A l.length c, .bool q, .slice B m.length d]] W (Ra za n W)))
  have HR2 := Lib.hid (fun (W : World) (h1 : Iv W p' A' c' l' x' k) (h2 : Iv W q' B' d' m' y' k) => (by have h := gratio h1 h2 (by omega) hk1; rw [← hzb] at h; exact h : Calls Tryz.prog 48 #[.agg #[.bool p', .slice A' l'.length c', .bool q', .slice B' m'.length d']] W (Ra zb k W)))
  have HN := Lib.hid hn
  have HK := Lib.hid hk
  clear hza hzb hn hn1 hk hk1
  unfold ratV
  go_enter Tryz.func33, Tryz.ntmps33
  go_wp2_with fail
  have t1 : Four ((w.alloc (.cells #[.bool p, .slice A l.length c, .bool q, .slice B m.length d] 26)).alloc (.cells #[.bool p', .slice A' l'.length c', .bool q', .slice B' m'.length d'] 26)) w.heap.size (.bool p) (.slice A l.length c) (.bool q) (.slice B m.length d) := (Four.new_ w (.bool p) (.slice A l.length c) (.bool q) (.slice B m.length d) 26).alloc _
  have t2 : Four ((w.alloc (.cells #[.bool p, .slice A l.length c, .bool q, .slice B m.length d] 26)).alloc (.cells #[.bool p', .slice A' l'.length c', .bool q', .slice B' m'.length d'] 26)) (w.heap.size + 1) (.bool p') (.slice A' l'.length c') (.bool q') (.slice B' m'.length d') := by simpa only [World.size_alloc, Nat.add_assoc, Nat.reduceAdd] using Four.new_ (w.alloc (.cells #[.bool p, .slice A l.length c, .bool q, .slice B m.length d] 26)) (.bool p') (.slice A' l'.length c') (.bool q') (.slice B' m'.length d') 26
  have bel : Below w.heap.size w ((w.alloc (.cells #[.bool p, .slice A l.length c, .bool q, .slice B m.length d] 26)).alloc (.cells #[.bool p', .slice A' l'.length c', .bool q', .slice B' m'.length d'] 26)) := ((Below.refl _ _).alloc (Nat.le_refl _) _).alloc (by simp only [World.size_alloc]; omega) _
  generalize ((w.alloc (.cells #[.bool p, .slice A l.length c, .bool q, .slice B m.length d] 26)).alloc (.cells #[.bool p', .slice A' l'.length c', .bool q', .slice B' m'.length d'] 26)) = wx at t1 t2 bel ⊢
  have X := h1.below bel
  have Y := h2.below bel
  have t1_0 := t1.c0
  have t1_1 := t1.c1
  have t1_2 := t1.c2
  have t1_3 := t1.c3
  go_wp2_with fail
  refine (HR1.out _ X Y).mono ?_
  rintro e w2 ⟨p1, A1, c1, l1, q1, B1, d1, m1, x1, y1, rfl, X1, Y1, h01, hz1, hb⟩
  clear t1_0 t1_1 t1_2 t1_3
  clear t1
  replace t2 := t2.below hb t2.lt
  replace bel := bel.trans (hb.mono bel.size)
  clear hb
  have H01 := Lib.hid h01
  have HZ1 := Lib.hid hz1
  clear h01 hz1 X Y
  have t2' := (t2.alloc (.cells #[.bool p1, .slice A1 l1.length c1] 24)).alloc (.cells #[.bool q1, .slice B1 m1.length d1] 24)
  have e0 := t2'.c0
  have e1 := t2'.c1
  have e2 := t2'.c2
  have e3 := t2'.c3
  clear t2'
  go_wp2_with fail
  clear e0 e1 e2 e3
  have hg1 : w.heap.size + 1 < w2.heap.size := t2.lt
  have u1 : Two ((w2.alloc (.cells #[.bool p1, .slice A1 l1.length c1] 24)).alloc (.cells #[.bool q1, .slice B1 m1.length d1] 24)) w2.heap.size (.bool p1) (.slice A1 l1.length c1) := (Two.new_ w2 (.bool p1) (.slice A1 l1.length c1) 24).alloc _
  have u2 : Two ((w2.alloc (.cells #[.bool p1, .slice A1 l1.length c1] 24)).alloc (.cells #[.bool q1, .slice B1 m1.length d1] 24)) (w2.heap.size + 1) (.bool q1) (.slice B1 m1.length d1) := by simpa only [World.size_alloc, Nat.add_assoc, Nat.reduceAdd] using Two.new_ (w2.alloc (.cells #[.bool p1, .slice A1 l1.length c1] 24)) (.bool q1) (.slice B1 m1.length d1) 24
  have bn : Below w2.heap.size w2 ((w2.alloc (.cells #[.bool p1, .slice A1 l1.length c1] 24)).alloc (.cells #[.bool q1, .slice B1 m1.length d1] 24)) := ((Below.refl _ _).alloc (Nat.le_refl _) _).alloc (by simp only [World.size_alloc]; omega) _
  replace t2 := t2.below bn t2.lt
  replace bel := bel.trans (bn.mono bel.size)
  replace X1 := X1.below bn
  replace Y1 := Y1.below bn
  clear bn
  generalize ((w2.alloc (.cells #[.bool p1, .slice A1 l1.length c1] 24)).alloc (.cells #[.bool q1, .slice B1 m1.length d1] 24)) = w3 at t2 bel X1 Y1 u1 u2 ⊢
  generalize w2.heap.size = g at t2 bel X1 Y1 u1 u2 hg1 ⊢
  have X := h3.below bel
  have Y := h4.below bel
  refine (HR2.out _ X Y).mono ?_
  rintro e w3 ⟨p2, A2, c2, l2, q2, B2, d2, m2, x2, y2, rfl, X2, Y2, h02, hz2, hb⟩
  clear t2
  replace bel := bel.trans (hb.mono bel.size)
  replace X1 := X1.below hb
  replace Y1 := Y1.below hb
  replace u1 := u1.below hb u1.lt
  replace u2 := u2.below hb u2.lt
  clear hb
  have H02 := Lib.hid h02
  have HZ2 := Lib.hid hz2
  clear h02 hz2 X Y
  go_wp2_with fail
  have hg2 : g < w3.heap.size := u1.lt
  have v1 : Two ((w3.alloc (.cells #[.bool p2, .slice A2 l2.length c2] 24)).alloc (.cells #[.bool q2, .slice B2 m2.length d2] 24)) w3.heap.size (.bool p2) (.slice A2 l2.length c2) := (Two.new_ w3 (.bool p2) (.slice A2 l2.length c2) 24).alloc _
  have v2 : Two ((w3.alloc (.cells #[.bool p2, .slice A2 l2.length c2] 24)).alloc (.cells #[.bool q2, .slice B2 m2.length d2] 24)) (w3.heap.size + 1) (.bool q2) (.slice B2 m2.length d2) := by simpa only [World.size_alloc, Nat.add_assoc, Nat.reduceAdd] using Two.new_ (w3.alloc (.cells #[.bool p2, .slice A2 l2.length c2] 24)) (.bool q2) (.slice B2 m2.length d2) 24
  have bn : Below w3.heap.size w3 ((w3.alloc (.cells #[.bool p2, .slice A2 l2.length c2] 24)).alloc (.cells #[.bool q2, .slice B2 m2.length d2] 24)) := ((Below.refl _ _).alloc (Nat.le_refl _) _).alloc (by simp only [World.size_alloc]; omega) _
  replace bel := bel.trans (bn.mono bel.size)
  replace X1 := X1.below bn
  replace Y1 := Y1.below bn
  replace u1 := u1.below bn u1.lt
  replace u2 := u2.below bn u2.lt
  replace X2 := X2.below bn
  replace Y2 := Y2.below bn
  clear bn
  generalize ((w3.alloc (.cells #[.bool p2, .slice A2 l2.length c2] 24)).alloc (.cells #[.bool q2, .slice B2 m2.length d2] 24)) = w4 at bel X1 Y1 u1 u2 X2 Y2 v1 v2 ⊢
  generalize w3.heap.size = g' at bel X1 Y1 u1 u2 X2 Y2 v1 v2 hg2 ⊢
  replace bel := bDrew1 bel
  replace X1 := X1.drew
  replace Y1 := Y1.drew
  replace u1 := u1.drew
  replace u2 := u2.drew
  replace X2 := X2.drew
  replace Y2 := Y2.drew
  replace v1 := v1.drew
  replace v2 := v2.drew
  have HM1 := Lib.hid (fun (W : World) (h : Iv W p1 A1 c1 l1 x1 n) (h' : Iv W q2 B2 d2 m2 y2 k) => gmul h h' (by have := HN.out; have := HK.out; omega) (by have := HN.out; have := HK.out; omega))
  have HM2 := Lib.hid (fun (W : World) (h : Iv W p2 A2 c2 l2 x2 k) (h' : Iv W q1 B1 d1 m1 y1 n) => gmul h h' (by have := HN.out; have := HK.out; omega) (by have := HN.out; have := HK.out; omega))
  have HCM := Lib.hid (fun (W : World) (p3 : Bool) (A3 : Option Addr) (c3 : Nat) (l3 : List Nat) (q3 : Bool) (B3 : Option Addr) (d3 : Nat) (m3 : List Nat) (h : Cn W p3 A3 c3 l3 (x1 * y2) (n + k)) (h' : Cn W q3 B3 d3 m3 (x2 * y1) (k + n)) => (by have h := gcmp h.iv h'.iv (by have := HN.out; have := HK.out; omega) (by have := HN.out; have := HK.out; omega); rw [cmpI_sign, ← rq_cmp H01.out H02.out, HZ1.out, HZ2.out, ← HSS.out] at h; exact h : Calls Tryz.prog 69 #[.agg #[.bool p3, .slice A3 l3.length c3], .agg #[.bool q3, .slice B3 m3.length d3]] W fun e w' => e = .returned (.int .i64 s) ∧ Below W.heap.size W w'))
  go_region_held3 (fun w' => w'.cell? ⟨g, 0, none⟩ = some (.bool p1) ∧ w'.cell? ⟨g, 1, none⟩ = some (.slice A1 l1.length c1) ∧ w'.cell? ⟨g + 1, 0, none⟩ = some (.bool q1) ∧ w'.cell? ⟨g + 1, 1, none⟩ = some (.slice B1 m1.length d1) ∧ w'.cell? ⟨g', 0, none⟩ = some (.bool p2) ∧ w'.cell? ⟨g', 1, none⟩ = some (.slice A2 l2.length c2) ∧ w'.cell? ⟨g' + 1, 0, none⟩ = some (.bool q2) ∧ w'.cell? ⟨g' + 1, 1, none⟩ = some (.slice B2 m2.length d2))
    (with_reducible exact ⟨u1.c0, u1.c1, u2.c0, u2.c1, v1.c0, v1.c1, v2.c0, v2.c1⟩)
    (first
      | (go_at_call 62; (with_reducible refine (HM1.out _ X1 Y2).mono ?_); rintro e wa ⟨p3, A3, c3, l3, rfl, C3, hb⟩; replace bel := bel.trans (hb.mono bel.size); replace u1 := u1.below hb u1.lt; replace u2 := u2.below hb u2.lt; replace v1 := v1.below hb v1.lt; replace v2 := v2.below hb v2.lt; replace X1 := X1.below hb; replace Y1 := Y1.below hb; replace X2 := X2.below hb; replace Y2 := Y2.below hb; clear hb)
      | (go_at_call 62; (with_reducible refine (HM2.out _ X2 Y1).mono ?_); rintro e wa ⟨q3, B3, d3, m3, rfl, C4, hb⟩; replace bel := bel.trans (hb.mono bel.size); replace u1 := u1.below hb u1.lt; replace u2 := u2.below hb u2.lt; replace v1 := v1.below hb v1.lt; replace v2 := v2.below hb v2.lt; replace C3 := C3.below hb; clear hb)
      | (go_at_call 69; (with_reducible refine (HCM.out _ _ _ _ _ _ _ _ _ C3 C4).mono ?_); rintro e wa ⟨rfl, hb⟩; replace bel := bel.trans (hb.mono bel.size); replace u1 := u1.below hb u1.lt; replace u2 := u2.below hb u2.lt; replace v1 := v1.below hb v1.lt; replace v2 := v2.below hb v2.lt; clear hb))
  go_wp2_with fail
  go_ret
  exact ⟨rfl, bel⟩
end Go.Proofs.YtpfaddgcfacgdaaGreatDoor
/- Walks of package rational: Floor. -/
namespace Go.Proofs.YtpfaddgcfacgdaaGreatDoor
open Go.RowKit
set_option linter.unusedVariables false

set_option maxRecDepth 100000 in
set_option maxHeartbeats 3000000 in
theorem grfloor {x y : Int} {n : Nat} {p : Bool} {A : Option Addr} {c : Nat} {l : List Nat} {q : Bool} {B : Option Addr} {d : Nat} {m : List Nat} {w : World} (h1 : Iv w p A c l x n) (h2 : Iv w q B d m y n) (hn : n ≤ 100) (hn1 : 1 ≤ n) :
    Calls Tryz.prog 37 #[ratV p A l.length c q B m.length d] w (GI (rqfl (Rat.divInt x y)) n w) := by
  obtain ⟨z, hz⟩ : ∃ z, z = Rat.divInt x y := ⟨_, rfl⟩
  rw [← hz]
  have HR := Lib.hid (fun (W : World) (h1 : Iv W p A c l x n) (h2 : Iv W q B d m y n) => (by have h := gratio h1 h2 hn hn1; rw [← hz] at h; exact h : Calls Tryz.prog 48 #[.agg #[.bool p, .slice A l.length c, .bool q, .slice B m.length d]] W (Ra z n W)))
  obtain ⟨fl, hfl⟩ : ∃ f, f = rqfl z := ⟨_, rfl⟩
  rw [← hfl]
  have HF := Lib.hid hfl
  have HN := Lib.hid hn
  clear hz hfl hn hn1
  unfold ratV
  go_enter Tryz.func37, Tryz.ntmps37
  go_wp2_with fail
  have t1 : Four ((w.alloc (.cells #[.bool p, .slice A l.length c, .bool q, .slice B m.length d] 26)).alloc (.cells #[.bool false, .slice none 0 0] 24)) w.heap.size (.bool p) (.slice A l.length c) (.bool q) (.slice B m.length d) := (Four.new_ w (.bool p) (.slice A l.length c) (.bool q) (.slice B m.length d) 26).alloc _
  have t3 : Two ((w.alloc (.cells #[.bool p, .slice A l.length c, .bool q, .slice B m.length d] 26)).alloc (.cells #[.bool false, .slice none 0 0] 24)) (w.heap.size + 1) (.bool false) (.slice none 0 0) := by simpa only [World.size_alloc, Nat.add_assoc, Nat.reduceAdd] using Two.new_ (w.alloc (.cells #[.bool p, .slice A l.length c, .bool q, .slice B m.length d] 26)) (.bool false) (.slice none 0 0) 24
  have bel : Below w.heap.size w ((w.alloc (.cells #[.bool p, .slice A l.length c, .bool q, .slice B m.length d] 26)).alloc (.cells #[.bool false, .slice none 0 0] 24)) := ((Below.refl _ _).alloc (Nat.le_refl _) _).alloc (by simp only [World.size_alloc]; omega) _
  generalize ((w.alloc (.cells #[.bool p, .slice A l.length c, .bool q, .slice B m.length d] 26)).alloc (.cells #[.bool false, .slice none 0 0] 24)) = wx at t1 t3 bel ⊢
  have X := h1.below bel
  have Y := h2.below bel
  have t1_0 := t1.c0
  have t1_1 := t1.c1
  have t1_2 := t1.c2
  have t1_3 := t1.c3
  go_wp2_with fail
  refine (HR.out _ X Y).mono ?_
  rintro e w2 ⟨p1, A1, c1, l1, q1, B1, d1, m1, x1, y1, rfl, X1, Y1, h0, hz, hb⟩
  clear t1_0 t1_1 t1_2 t1_3
  clear t1
  replace t3 := t3.below hb t3.lt
  replace bel := bel.trans (hb.mono bel.size)
  clear hb
  clear X Y
  have HQ := Lib.hid (fun (W : World) (h : Iv W p1 A1 c1 l1 x1 n) (h' : Iv W q1 B1 d1 m1 y1 n) => (by have h := gquot h h' (by omega) HN.out HN.out; rw [← rq_fl h0, hz, ← HF.out] at h; exact h : Calls Tryz.prog 70 #[.agg #[.bool p1, .slice A1 l1.length c1], .agg #[.bool q1, .slice B1 m1.length d1]] W (GI fl n W)))
  clear h0 hz
  go_wp2_with fail
  refine (HQ.out _ X1 Y1).mono ?_
  rintro e w3 ⟨p3, A3, c3, l3, rfl, E3, hb⟩
  clear X1 Y1
  replace t3 := t3.below hb t3.lt
  replace bel := bel.trans (hb.mono bel.size)
  clear hb
  have t3_0 := t3.c0
  have t3_1 := t3.c1
  have f0 := t3.fr 0
  have f1 := t3.fr 1
  have R := Lib.hid (t3.put2 (.bool p3) (.slice A3 l3.length c3))
  have CR := Lib.hid (E3.put2 t3 (.bool p3) (.slice A3 l3.length c3))
  have BL := Lib.hid (below_set2 bel (b := w.heap.size + 1) (by omega) (.bool p3) (.slice A3 l3.length c3))
  clear E3 bel t3
  go_wp2_with fail
  have r0 := R.out.c0
  have r1 := R.out.c1
  unfold set2 at r0 r1
  refine bodyPost_ret (v := .agg #[.bool p3, .slice A3 l3.length c3]) (by simp [results, Tryz.results37, go_sem, r0, r1]) rfl ?_
  exact ⟨p3, A3, c3, l3, rfl, CR.out, BL.out⟩
end Go.Proofs.YtpfaddgcfacgdaaGreatDoor
/- The functions of package rational over fractions in memory, in terms of their values. -/
namespace Go.Proofs.YtpfaddgcfacgdaaGreatDoor
open Go.RowKit
set_option linter.unusedVariables false

/-- a fraction with the value z, in whatever form, of at most n words in each part -/
def Rv (W : World) (p : Bool) (A : Option Addr) (c : Nat) (l : List Nat) (q : Bool) (B : Option Addr) (d : Nat) (m : List Nat) (z : Rat) (n : Nat) : Prop :=
  ∃ x y, Iv W p A c l x n ∧ Iv W q B d m y n ∧ Rat.divInt x y = z
section
variable {W W' : World} {p q p' q' : Bool} {A B A' B' : Option Addr} {c d c' d' : Nat} {l m l' m' : List Nat} {z z' : Rat} {n k : Nat}
theorem Rv.below (h : Rv W p A c l q B d m z n) (hb : Below W.heap.size W W') : Rv W' p A c l q B d m z n := by
  obtain ⟨x, y, hx, hy, hz⟩ := h; exact ⟨x, y, hx.below hb, hy.below hb, hz⟩
theorem Rv.drew (h : Rv W p A c l q B d m z n) : Rv W.drew p A c l q B d m z n := by
  obtain ⟨x, y, hx, hy, hz⟩ := h; exact ⟨x, y, hx.drew, hy.drew, hz⟩
theorem Rv.put4 (h : Rv W p A c l q B d m z n) {b : Nat} {r s : Bool} {C D : Option Addr} {e f g i : Nat} (t : Four W b (.bool r) (.slice C e f) (.bool s) (.slice D g i)) (x' y' u' v' : Value) : Rv (set4 W b x' y' u' v') p A c l q B d m z n := by
  obtain ⟨x, y, hx, hy, hz⟩ := h; exact ⟨x, y, hx.put4 t _ _ _ _, hy.put4 t _ _ _ _, hz⟩
theorem Cr.rv (h : Cr W A c l B d m z n) : Rv W (decide (z.num < 0)) A c l false B d m z n := ⟨_, _, h.a.iv, h.b.iv, rq_self z⟩
theorem radd (h : Rv W p A c l q B d m z n) (h' : Rv W p' A' c' l' q' B' d' m' z' k) (hn : n ≤ 49) (hn1 : 1 ≤ n) (hk : k ≤ 49) (hk1 : 1 ≤ k) :
    Calls Tryz.prog 23 #[ratV p A l.length c q B m.length d, ratV p' A' l'.length c' q' B' m'.length d'] W (GR (z + z') (n + k + 1) W) := by
  obtain ⟨x, y, hx, hy, hz⟩ := h
  obtain ⟨x', y', hx', hy', hz'⟩ := h'
  rw [← hz, ← hz']; exact graddr hx hy hx' hy' hn hn1 hk hk1
theorem rsub (h : Rv W p A c l q B d m z n) (h' : Rv W p' A' c' l' q' B' d' m' z' k) (hn : n ≤ 49) (hn1 : 1 ≤ n) (hk : k ≤ 49) (hk1 : 1 ≤ k) :
    Calls Tryz.prog 25 #[ratV p A l.length c q B m.length d, ratV p' A' l'.length c' q' B' m'.length d'] W (GR (z - z') (n + k + 1) W) := by
  obtain ⟨x, y, hx, hy, hz⟩ := h
  obtain ⟨x', y', hx', hy', hz'⟩ := h'
  rw [← hz, ← hz']; exact grsubr hx hy hx' hy' hn hn1 hk hk1
theorem rmul (h : Rv W p A c l q B d m z n) (h' : Rv W p' A' c' l' q' B' d' m' z' k) (hn : n ≤ 49) (hn1 : 1 ≤ n) (hk : k ≤ 49) (hk1 : 1 ≤ k) :
    Calls Tryz.prog 27 #[ratV p A l.length c q B m.length d, ratV p' A' l'.length c' q' B' m'.length d'] W (GR (z * z') (n + k) W) := by
  obtain ⟨x, y, hx, hy, hz⟩ := h
  obtain ⟨x', y', hx', hy', hz'⟩ := h'
  rw [← hz, ← hz']; exact grmulr hx hy hx' hy' (by omega) hn1 (by omega) hk1
theorem rdiv (h : Rv W p A c l q B d m z n) (h' : Rv W p' A' c' l' q' B' d' m' z' k) (hn : n ≤ 49) (hn1 : 1 ≤ n) (hk : k ≤ 49) (hk1 : 1 ≤ k) (h0 : z' ≠ 0) :
    Calls Tryz.prog 21 #[ratV p A l.length c q B m.length d, ratV p' A' l'.length c' q' B' m'.length d'] W (GRc (z / z') (n + k) W) := by
  obtain ⟨x, y, hx, hy, hz⟩ := h
  obtain ⟨x', y', hx', hy', hz'⟩ := h'
  rw [← hz'] at h0
  rw [← hz, ← hz']; exact grdivr hx hy hx' hy' hn hn1 hk hk1 h0
theorem rdiv0 (h : Rv W p A c l q B d m z n) (h' : Rv W p' A' c' l' q' B' d' m' z' k) (hn : n ≤ 49) (hn1 : 1 ≤ n) (hk : k ≤ 49) (hk1 : 1 ≤ k) (h0 : z' = 0) :
    Calls Tryz.prog 21 #[ratV p A l.length c q B m.length d, ratV p' A' l'.length c' q' B' m'.length d'] W fun e w' => e = .returned (.tuple #[ratV false none 0 0 false none 0 0, .int .i64 3]) ∧ Below W.heap.size W w' := by
  obtain ⟨x, y, hx, hy, hz⟩ := h
  obtain ⟨x', y', hx', hy', hz'⟩ := h'
  rw [← hz'] at h0
  exact grdivr0 hx hy hx' hy' hn hn1 hk hk1 h0
theorem rcmp (h : Rv W p A c l q B d m z n) (h' : Rv W p' A' c' l' q' B' d' m' z' k) (hn : n ≤ 49) (hn1 : 1 ≤ n) (hk : k ≤ 49) (hk1 : 1 ≤ k) :
    Calls Tryz.prog 33 #[ratV p A l.length c q B m.length d, ratV p' A' l'.length c' q' B' m'.length d'] W fun e w' => e = .returned (.int .i64 (z - z').num.sign) ∧ Below W.heap.size W w' := by
  obtain ⟨x, y, hx, hy, hz⟩ := h
  obtain ⟨x', y', hx', hy', hz'⟩ := h'
  rw [← hz, ← hz']; exact grcmpr hx hy hx' hy' hn hn1 hk hk1
theorem rsgn (h : Rv W p A c l q B d m z n) (hn : n ≤ 100) :
    Calls Tryz.prog 31 #[ratV p A l.length c q B m.length d] W fun e w' => e = .returned (.int .i64 z.num.sign) ∧ Below W.heap.size W w' := by
  obtain ⟨x, y, hx, hy, hz⟩ := h
  rw [← hz]; exact grsgn hx hy hn
theorem rcln (h : Rv W p A c l q B d m z n) (hn : n ≤ 100) (hn1 : 1 ≤ n) : Calls Tryz.prog 13 #[ratV p A l.length c q B m.length d] W (GR z n W) := by
  obtain ⟨x, y, hx, hy, hz⟩ := h
  rw [← hz]; exact grcl hx hy hn hn1
theorem rneg (h : Rv W p A c l q B d m z n) (hn : n ≤ 100) (hn1 : 1 ≤ n) : Calls Tryz.prog 29 #[ratV p A l.length c q B m.length d] W (GR (-z) n W) := by
  obtain ⟨x, y, hx, hy, hz⟩ := h
  rw [← hz]; exact grngr hx hy hn hn1
theorem rfloor (h : Rv W p A c l q B d m z n) (hn : n ≤ 100) (hn1 : 1 ≤ n) : Calls Tryz.prog 37 #[ratV p A l.length c q B m.length d] W (GI (rqfl z) n W) := by
  obtain ⟨x, y, hx, hy, hz⟩ := h
  rw [← hz]; exact grfloor hx hy hn hn1
theorem rsame (h : Cr W A c l B d m z n) (h' : Cr W A' c' l' B' d' m' z' k) (hn : n ≤ 1000) (hk : k ≤ 1000) (hz : z = z') :
    Calls Tryz.prog 14 #[ratV (decide (z.num < 0)) A l.length c false B m.length d, ratV (decide (z'.num < 0)) A' l'.length c' false B' m'.length d'] W fun e w' => e = .returned (.bool true) ∧ Below W.heap.size W w' := by
  have h1 := grsame h h' hn hk
  rwa [decide_eq_true hz] at h1
end
set_option maxRecDepth 100000 in
theorem gfew (p : Bool) (A : Option Addr) (c n : Nat) (q : Bool) (B : Option Addr) (d m : Nat) (F : Bool) (hF : Hid (decide (n ≤ 4 ∧ m ≤ 4) = F)) (w : World) :
    Calls Tryz.prog 12 #[ratV p A n c q B m d] w fun e w' => e = .returned (.bool F) ∧ Below w.heap.size w w' := by
  unfold ratV
  by_cases h1 : n ≤ 4
  · have e1 : decide ((n : Int) ≤ 4) = true := decide_eq_true (by omega)
    have k1 : (n : Int) ≤ 4 := by omega
    by_cases h2 : m ≤ 4
    · obtain rfl : true = F := by rw [← hF.out]; exact (decide_eq_true ⟨h1, h2⟩).symm
      have e2 : decide ((m : Int) ≤ 4) = true := decide_eq_true (by omega)
      have k2 : (m : Int) ≤ 4 := by omega
      clear h1 h2
      go_enter Tryz.func12, Tryz.ntmps12
      go_wp2_with fail
      go_ret
      exact ⟨rfl, al1 _ _⟩
    · obtain rfl : false = F := by rw [← hF.out]; exact (decide_eq_false (fun h => h2 h.2)).symm
      have e2 : decide ((m : Int) ≤ 4) = false := decide_eq_false (by omega)
      have k2 : ¬ (m : Int) ≤ 4 := by omega
      clear h1 h2
      go_enter Tryz.func12, Tryz.ntmps12
      go_wp2_with fail
      go_ret
      exact ⟨rfl, al1 _ _⟩
  · obtain rfl : false = F := by rw [← hF.out]; exact (decide_eq_false (fun h => h1 h.1)).symm
    have e1 : decide ((n : Int) ≤ 4) = false := decide_eq_false (by omega)
    have k1 : ¬ (n : Int) ≤ 4 := by omega
    clear h1
    go_enter Tryz.func12, Tryz.ntmps12
    go_wp2_with fail
    go_ret
    exact ⟨rfl, al1 _ _⟩
end Go.Proofs.YtpfaddgcfacgdaaGreatDoor
/- Walks of package rational: RationalField, too long. -/
namespace Go.Proofs.YtpfaddgcfacgdaaGreatDoor
open Go.RowKit
set_option linter.unusedVariables false

set_option maxRecDepth 100000 in
set_option maxHeartbeats 1500000 in
theorem field_few1 (p1 : Bool) (A1 : Option Addr) (l1 : List Nat) (c1 : Nat) (q1 : Bool) (B1 : Option Addr) (m1 : List Nat) (d1 : Nat) (p2 : Bool) (A2 : Option Addr) (l2 : List Nat) (c2 : Nat) (q2 : Bool) (B2 : Option Addr) (m2 : List Nat) (d2 : Nat) (p3 : Bool) (A3 : Option Addr) (l3 : List Nat) (c3 : Nat) (q3 : Bool) (B3 : Option Addr) (m3 : List Nat) (d3 : Nat) (w : World) (ht : Tabs w) (mx : Mx w) (f1 : decide (l1.length ≤ 4 ∧ m1.length ≤ 4) = false) :
    Calls Tryz.prog 7 #[ratV p1 A1 l1.length c1 q1 B1 m1.length d1, ratV p2 A2 l2.length c2 q2 B2 m2.length d2, ratV p3 A3 l3.length c3 q3 B3 m3.length d3] w fun e w' => e = .returned (.bool true) ∧ Below w.heap.size w w' := by
  have HF1 := Lib.hid (fun (W : World) => gfew p1 A1 c1 l1.length q1 B1 d1 m1.length false (Lib.hid f1) W)
  clear f1
  unfold ratV
  go_enter Tryz.func7, Tryz.ntmps7
  go_wp2_with fail
  have t1 : Four (((w.alloc (.cells #[.bool p1, .slice A1 l1.length c1, .bool q1, .slice B1 m1.length d1] 26)).alloc (.cells #[.bool p2, .slice A2 l2.length c2, .bool q2, .slice B2 m2.length d2] 26)).alloc (.cells #[.bool p3, .slice A3 l3.length c3, .bool q3, .slice B3 m3.length d3] 26)) w.heap.size (.bool p1) (.slice A1 l1.length c1) (.bool q1) (.slice B1 m1.length d1) := ((Four.new_ w (.bool p1) (.slice A1 l1.length c1) (.bool q1) (.slice B1 m1.length d1) 26).alloc _).alloc _
  have t2 : Four (((w.alloc (.cells #[.bool p1, .slice A1 l1.length c1, .bool q1, .slice B1 m1.length d1] 26)).alloc (.cells #[.bool p2, .slice A2 l2.length c2, .bool q2, .slice B2 m2.length d2] 26)).alloc (.cells #[.bool p3, .slice A3 l3.length c3, .bool q3, .slice B3 m3.length d3] 26)) (w.heap.size + 1) (.bool p2) (.slice A2 l2.length c2) (.bool q2) (.slice B2 m2.length d2) := by simpa only [World.size_alloc, Nat.add_assoc, Nat.reduceAdd] using (Four.new_ (w.alloc (.cells #[.bool p1, .slice A1 l1.length c1, .bool q1, .slice B1 m1.length d1] 26)) (.bool p2) (.slice A2 l2.length c2) (.bool q2) (.slice B2 m2.length d2) 26).alloc _
  have t3 : Four (((w.alloc (.cells #[.bool p1, .slice A1 l1.length c1, .bool q1, .slice B1 m1.length d1] 26)).alloc (.cells #[.bool p2, .slice A2 l2.length c2, .bool q2, .slice B2 m2.length d2] 26)).alloc (.cells #[.bool p3, .slice A3 l3.length c3, .bool q3, .slice B3 m3.length d3] 26)) (w.heap.size + 2) (.bool p3) (.slice A3 l3.length c3) (.bool q3) (.slice B3 m3.length d3) := by simpa only [World.size_alloc, Nat.add_assoc, Nat.reduceAdd] using Four.new_ ((w.alloc (.cells #[.bool p1, .slice A1 l1.length c1, .bool q1, .slice B1 m1.length d1] 26)).alloc (.cells #[.bool p2, .slice A2 l2.length c2, .bool q2, .slice B2 m2.length d2] 26)) (.bool p3) (.slice A3 l3.length c3) (.bool q3) (.slice B3 m3.length d3) 26
  have bel : Below w.heap.size w (((w.alloc (.cells #[.bool p1, .slice A1 l1.length c1, .bool q1, .slice B1 m1.length d1] 26)).alloc (.cells #[.bool p2, .slice A2 l2.length c2, .bool q2, .slice B2 m2.length d2] 26)).alloc (.cells #[.bool p3, .slice A3 l3.length c3, .bool q3, .slice B3 m3.length d3] 26)) := (((Below.refl _ _).alloc (Nat.le_refl _) _).alloc (by simp only [World.size_alloc]; omega) _).alloc (by simp only [World.size_alloc]; omega) _
  generalize (((w.alloc (.cells #[.bool p1, .slice A1 l1.length c1, .bool q1, .slice B1 m1.length d1] 26)).alloc (.cells #[.bool p2, .slice A2 l2.length c2, .bool q2, .slice B2 m2.length d2] 26)).alloc (.cells #[.bool p3, .slice A3 l3.length c3, .bool q3, .slice B3 m3.length d3] 26)) = wx at t1 t2 t3 bel ⊢
  refine (rknown_ok _ (ht.below bel) (mx.below_ bel)).mono ?_
  rintro e w2 ⟨rfl, hb⟩
  replace t1 := t1.below hb t1.lt
  replace t2 := t2.below hb t2.lt
  replace t3 := t3.below hb t3.lt
  replace bel := bel.trans (hb.mono bel.size)
  clear hb
  have t1_0 := t1.c0
  have t1_1 := t1.c1
  have t1_2 := t1.c2
  have t1_3 := t1.c3
  go_wp2_with fail
  refine (HF1.out _).mono ?_
  rintro e w3 ⟨rfl, hb⟩
  clear t1_0 t1_1 t1_2 t1_3
  replace t1 := t1.below hb t1.lt
  replace t2 := t2.below hb t2.lt
  replace t3 := t3.below hb t3.lt
  replace bel := bel.trans (hb.mono bel.size)
  clear hb
  go_wp2_with fail
  go_ret
  exact ⟨rfl, bel⟩

set_option maxRecDepth 100000 in
set_option maxHeartbeats 1500000 in
theorem field_few2 (p1 : Bool) (A1 : Option Addr) (l1 : List Nat) (c1 : Nat) (q1 : Bool) (B1 : Option Addr) (m1 : List Nat) (d1 : Nat) (p2 : Bool) (A2 : Option Addr) (l2 : List Nat) (c2 : Nat) (q2 : Bool) (B2 : Option Addr) (m2 : List Nat) (d2 : Nat) (p3 : Bool) (A3 : Option Addr) (l3 : List Nat) (c3 : Nat) (q3 : Bool) (B3 : Option Addr) (m3 : List Nat) (d3 : Nat) (w : World) (ht : Tabs w) (mx : Mx w) (f1 : decide (l1.length ≤ 4 ∧ m1.length ≤ 4) = true) (f2 : decide (l2.length ≤ 4 ∧ m2.length ≤ 4) = false) :
    Calls Tryz.prog 7 #[ratV p1 A1 l1.length c1 q1 B1 m1.length d1, ratV p2 A2 l2.length c2 q2 B2 m2.length d2, ratV p3 A3 l3.length c3 q3 B3 m3.length d3] w fun e w' => e = .returned (.bool true) ∧ Below w.heap.size w w' := by
  have HF1 := Lib.hid (fun (W : World) => gfew p1 A1 c1 l1.length q1 B1 d1 m1.length true (Lib.hid f1) W)
  have HF2 := Lib.hid (fun (W : World) => gfew p2 A2 c2 l2.length q2 B2 d2 m2.length false (Lib.hid f2) W)
  clear f1 f2
  unfold ratV
  go_enter Tryz.func7, Tryz.ntmps7
  go_wp2_with fail
  have t1 : Four (((w.alloc (.cells #[.bool p1, .slice A1 l1.length c1, .bool q1, .slice B1 m1.length d1] 26)).alloc (.cells #[.bool p2, .slice A2 l2.length c2, .bool q2, .slice B2 m2.length d2] 26)).alloc (.cells #[.bool p3, .slice A3 l3.length c3, .bool q3, .slice B3 m3.length d3] 26)) w.heap.size (.bool p1) (.slice A1 l1.length c1) (.bool q1) (.slice B1 m1.length d1) := ((Four.new_ w (.bool p1) (.slice A1 l1.length c1) (.bool q1) (.slice B1 m1.length d1) 26).alloc _).alloc _
  have t2 : Four (((w.alloc (.cells #[.bool p1, .slice A1 l1.length c1, .bool q1, .slice B1 m1.length d1] 26)).alloc (.cells #[.bool p2, .slice A2 l2.length c2, .bool q2, .slice B2 m2.length d2] 26)).alloc (.cells #[.bool p3, .slice A3 l3.length c3, .bool q3, .slice B3 m3.length d3] 26)) (w.heap.size + 1) (.bool p2) (.slice A2 l2.length c2) (.bool q2) (.slice B2 m2.length d2) := by simpa only [World.size_alloc, Nat.add_assoc, Nat.reduceAdd] using (Four.new_ (w.alloc (.cells #[.bool p1, .slice A1 l1.length c1, .bool q1, .slice B1 m1.length d1] 26)) (.bool p2) (.slice A2 l2.length c2) (.bool q2) (.slice B2 m2.length d2) 26).alloc _
  have t3 : Four (((w.alloc (.cells #[.bool p1, .slice A1 l1.length c1, .bool q1, .slice B1 m1.length d1] 26)).alloc (.cells #[.bool p2, .slice A2 l2.length c2, .bool q2, .slice B2 m2.length d2] 26)).alloc (.cells #[.bool p3, .slice A3 l3.length c3, .bool q3, .slice B3 m3.length d3] 26)) (w.heap.size + 2) (.bool p3) (.slice A3 l3.length c3) (.bool q3) (.slice B3 m3.length d3) := by simpa only [World.size_alloc, Nat.add_assoc, Nat.reduceAdd] using Four.new_ ((w.alloc (.cells #[.bool p1, .slice A1 l1.length c1, .bool q1, .slice B1 m1.length d1] 26)).alloc (.cells #[.bool p2, .slice A2 l2.length c2, .bool q2, .slice B2 m2.length d2] 26)) (.bool p3) (.slice A3 l3.length c3) (.bool q3) (.slice B3 m3.length d3) 26
  have bel : Below w.heap.size w (((w.alloc (.cells #[.bool p1, .slice A1 l1.length c1, .bool q1, .slice B1 m1.length d1] 26)).alloc (.cells #[.bool p2, .slice A2 l2.length c2, .bool q2, .slice B2 m2.length d2] 26)).alloc (.cells #[.bool p3, .slice A3 l3.length c3, .bool q3, .slice B3 m3.length d3] 26)) := (((Below.refl _ _).alloc (Nat.le_refl _) _).alloc (by simp only [World.size_alloc]; omega) _).alloc (by simp only [World.size_alloc]; omega) _
  generalize (((w.alloc (.cells #[.bool p1, .slice A1 l1.length c1, .bool q1, .slice B1 m1.length d1] 26)).alloc (.cells #[.bool p2, .slice A2 l2.length c2, .bool q2, .slice B2 m2.length d2] 26)).alloc (.cells #[.bool p3, .slice A3 l3.length c3, .bool q3, .slice B3 m3.length d3] 26)) = wx at t1 t2 t3 bel ⊢
  refine (rknown_ok _ (ht.below bel) (mx.below_ bel)).mono ?_
  rintro e w2 ⟨rfl, hb⟩
  replace t1 := t1.below hb t1.lt
  replace t2 := t2.below hb t2.lt
  replace t3 := t3.below hb t3.lt
  replace bel := bel.trans (hb.mono bel.size)
  clear hb
  have t1_0 := t1.c0
  have t1_1 := t1.c1
  have t1_2 := t1.c2
  have t1_3 := t1.c3
  go_wp2_with fail
  refine (HF1.out _).mono ?_
  rintro e w3 ⟨rfl, hb⟩
  clear t1_0 t1_1 t1_2 t1_3
  replace t1 := t1.below hb t1.lt
  replace t2 := t2.below hb t2.lt
  replace t3 := t3.below hb t3.lt
  replace bel := bel.trans (hb.mono bel.size)
  clear hb
  have t2_0 := t2.c0
  have t2_1 := t2.c1
  have t2_2 := t2.c2
  have t2_3 := t2.c3
  go_wp2_with fail
  refine (HF2.out _).mono ?_
  rintro e w4 ⟨rfl, hb⟩
  clear t2_0 t2_1 t2_2 t2_3
  replace t1 := t1.below hb t1.lt
  replace t2 := t2.below hb t2.lt
  replace t3 := t3.below hb t3.lt
  replace bel := bel.trans (hb.mono bel.size)
  clear hb
  go_wp2_with fail
  go_ret
  exact ⟨rfl, bel⟩

set_option maxRecDepth 100000 in
set_option maxHeartbeats 1500000 in
theorem field_few3 (p1 : Bool) (A1 : Option Addr) (l1 : List Nat) (c1 : Nat) (q1 : Bool) (B1 : Option Addr) (m1 : List Nat) (d1 : Nat) (p2 : Bool) (A2 : Option Addr) (l2 : List Nat) (c2 : Nat) (q2 : Bool) (B2 : Option Addr) (m2 : List Nat) (d2 : Nat) (p3 : Bool) (A3 : Option Addr) (l3 : List Nat) (c3 : Nat) (q3 : Bool) (B3 : Option Addr) (m3 : List Nat) (d3 : Nat) (w : World) (ht : Tabs w) (mx : Mx w) (f1 : decide (l1.length ≤ 4 ∧ m1.length ≤ 4) = true) (f2 : decide (l2.length ≤ 4 ∧ m2.length ≤ 4) = true) (f3 : decide (l3.length ≤ 4 ∧ m3.length ≤ 4) = false) :
    Calls Tryz.prog 7 #[ratV p1 A1 l1.length c1 q1 B1 m1.length d1, ratV p2 A2 l2.length c2 q2 B2 m2.length d2, ratV p3 A3 l3.length c3 q3 B3 m3.length d3] w fun e w' => e = .returned (.bool true) ∧ Below w.heap.size w w' := by
  have HF1 := Lib.hid (fun (W : World) => gfew p1 A1 c1 l1.length q1 B1 d1 m1.length true (Lib.hid f1) W)
  have HF2 := Lib.hid (fun (W : World) => gfew p2 A2 c2 l2.length q2 B2 d2 m2.length true (Lib.hid f2) W)
  have HF3 := Lib.hid (fun (W : World) => gfew p3 A3 c3 l3.length q3 B3 d3 m3.length false (Lib.hid f3) W)
  clear f1 f2 f3
  unfold ratV
  go_enter Tryz.func7, Tryz.ntmps7
  go_wp2_with fail
  have t1 : Four (((w.alloc (.cells #[.bool p1, .slice A1 l1.length c1, .bool q1, .slice B1 m1.length d1] 26)).alloc (.cells #[.bool p2, .slice A2 l2.length c2, .bool q2, .slice B2 m2.length d2] 26)).alloc (.cells #[.bool p3, .slice A3 l3.length c3, .bool q3, .slice B3 m3.length d3] 26)) w.heap.size (.bool p1) (.slice A1 l1.length c1) (.bool q1) (.slice B1 m1.length d1) := ((Four.new_ w (.bool p1) (.slice A1 l1.length c1) (.bool q1) (.slice B1 m1.length d1) 26).alloc _).alloc _
  have t2 : Four (((w.alloc (.cells #[.bool p1, .slice A1 l1.length c1, .bool q1, .slice B1 m1.length d1] 26)).alloc (.cells #[.bool p2, .slice A2 l2.length c2, .bool q2, .slice B2 m2.length d2] 26)).alloc (.cells #[.bool p3, .slice A3 l3.length c3, .bool q3, .slice B3 m3.length d3] 26)) (w.heap.size + 1) (.bool p2) (.slice A2 l2.length c2) (.bool q2) (.slice B2 m2.length d2) := by simpa only [World.size_alloc, Nat.add_assoc, Nat.reduceAdd] using (Four.new_ (w.alloc (.cells #[.bool p1, .slice A1 l1.length c1, .bool q1, .slice B1 m1.length d1] 26)) (.bool p2) (.slice A2 l2.length c2) (.bool q2) (.slice B2 m2.length d2) 26).alloc _
  have t3 : Four (((w.alloc (.cells #[.bool p1, .slice A1 l1.length c1, .bool q1, .slice B1 m1.length d1] 26)).alloc (.cells #[.bool p2, .slice A2 l2.length c2, .bool q2, .slice B2 m2.length d2] 26)).alloc (.cells #[.bool p3, .slice A3 l3.length c3, .bool q3, .slice B3 m3.length d3] 26)) (w.heap.size + 2) (.bool p3) (.slice A3 l3.length c3) (.bool q3) (.slice B3 m3.length d3) := by simpa only [World.size_alloc, Nat.add_assoc, Nat.reduceAdd] using Four.new_ ((w.alloc (.cells #[.bool p1, .slice A1 l1.length c1, .bool q1, .slice B1 m1.length d1] 26)).alloc (.cells #[.bool p2, .slice A2 l2.length c2, .bool q2, .slice B2 m2.length d2] 26)) (.bool p3) (.slice A3 l3.length c3) (.bool q3) (.slice B3 m3.length d3) 26
  have bel : Below w.heap.size w (((w.alloc (.cells #[.bool p1, .slice A1 l1.length c1, .bool q1, .slice B1 m1.length d1] 26)).alloc (.cells #[.bool p2, .slice A2 l2.length c2, .bool q2, .slice B2 m2.length d2] 26)).alloc (.cells #[.bool p3, .slice A3 l3.length c3, .bool q3, .slice B3 m3.length d3] 26)) := (((Below.refl _ _).alloc (Nat.le_refl _) _).alloc (by simp only [World.size_alloc]; omega) _).alloc (by simp only [World.size_alloc]; omega) _
  generalize (((w.alloc (.cells #[.bool p1, .slice A1 l1.length c1, .bool q1, .slice B1 m1.length d1] 26)).alloc (.cells #[.bool p2, .slice A2 l2.length c2, .bool q2, .slice B2 m2.length d2] 26)).alloc (.cells #[.bool p3, .slice A3 l3.length c3, .bool q3, .slice B3 m3.length d3] 26)) = wx at t1 t2 t3 bel ⊢
  refine (rknown_ok _ (ht.below bel) (mx.below_ bel)).mono ?_
  rintro e w2 ⟨rfl, hb⟩
  replace t1 := t1.below hb t1.lt
  replace t2 := t2.below hb t2.lt
  replace t3 := t3.below hb t3.lt
  replace bel := bel.trans (hb.mono bel.size)
  clear hb
  have t1_0 := t1.c0
  have t1_1 := t1.c1
  have t1_2 := t1.c2
  have t1_3 := t1.c3
  go_wp2_with fail
  refine (HF1.out _).mono ?_
  rintro e w3 ⟨rfl, hb⟩
  clear t1_0 t1_1 t1_2 t1_3
  replace t1 := t1.below hb t1.lt
  replace t2 := t2.below hb t2.lt
  replace t3 := t3.below hb t3.lt
  replace bel := bel.trans (hb.mono bel.size)
  clear hb
  have t2_0 := t2.c0
  have t2_1 := t2.c1
  have t2_2 := t2.c2
  have t2_3 := t2.c3
  go_wp2_with fail
  refine (HF2.out _).mono ?_
  rintro e w4 ⟨rfl, hb⟩
  clear t2_0 t2_1 t2_2 t2_3
  replace t1 := t1.below hb t1.lt
  replace t2 := t2.below hb t2.lt
  replace t3 := t3.below hb t3.lt
  replace bel := bel.trans (hb.mono bel.size)
  clear hb
  have t3_0 := t3.c0
  have t3_1 := t3.c1
  have t3_2 := t3.c2
  have t3_3 := t3.c3
  go_wp2_with fail
  refine (HF3.out _).mono ?_
  rintro e w5 ⟨rfl, hb⟩
  clear t3_0 t3_1 t3_2 t3_3
  replace t1 := t1.below hb t1.lt
  replace t2 := t2.below hb t2.lt
  replace t3 := t3.below hb t3.lt
  replace bel := bel.trans (hb.mono bel.size)
  clear hb
  go_wp2_with fail
  go_ret
  exact ⟨rfl, bel⟩

end Go.Proofs.YtpfaddgcfacgdaaGreatDoor
