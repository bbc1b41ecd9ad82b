/- Walk: Parse of the reference of package cost. -/
import Derived.Test.YtmemkcaikajnnaaGreatDoorU3
import Derived.Test.YtmemkcaikajnnaaGreatDoorT4
namespace Go.Proofs.YtmemkcaikajnnaaGreatDoor
open Go.RowKit Go.Sort
set_option linter.unusedVariables false

theorem make13i (W : World) : (Instr.makeSlice 33 (.int .i64 13) (.int .i64 13)).run Tryz.prog W = .ok (.slice (some ⟨W.heap.size, 0, none⟩) 13 13) (W.alloc (.cells (Kp.zeros.map (fun x => Value.int .i64 x)).toArray 3)) := by
  have h := run_make_row' (P := Tryz.prog) 33 3 (.int .i64 0) 8 Tryz.underlying33 (by kernel_rfl) rfl .i64 .i64 13 (by omega) (by omega) W
  have e : madeCells #[.int .i64 0] 13 = (Kp.zeros.map (fun x => Value.int .i64 x)).toArray := by first | rfl | kernel_rfl
  rw [← e]
  exact h
theorem make13b (W : World) : (Instr.makeSlice 62 (.int .i64 13) (.int .i64 13)).run Tryz.prog W = .ok (.slice (some ⟨W.heap.size, 0, none⟩) 13 13) (W.alloc (.cells (Kp.falses.map Value.bool).toArray 4)) := by
  have h := run_make_row' (P := Tryz.prog) 62 4 (.bool false) 1 Tryz.underlying62 (by kernel_rfl) rfl .i64 .i64 13 (by omega) (by omega) W
  have e : madeCells #[.bool false] 13 = (Kp.falses.map Value.bool).toArray := by first | rfl | kernel_rfl
  rw [← e]
  exact h
abbrev iA (l : List Int) : Array Value := (l.map (fun x => Value.int .i64 x)).toArray
abbrev bA (m : List Bool) : Array Value := (m.map Value.bool).toArray
theorem iA_at {l : List Int} (hl : l.length = 13) {i : Nat} (h : i < 13) : (iA l)[i]? = some (.int .i64 (l.getD i 0)) := by
  unfold iA
  rw [List.getElem?_toArray, List.getElem?_map, List.getElem?_eq_getElem (by omega), List.getD_eq_getElem?_getD, List.getElem?_eq_getElem (by omega)]
  rfl
theorem bA_at {m : List Bool} (hm : m.length = 13) {i : Nat} (h : i < 13) : (bA m)[i]? = some (.bool (m.getD i false)) := by
  unfold bA
  rw [List.getElem?_toArray, List.getElem?_map, List.getElem?_eq_getElem (by omega), List.getD_eq_getElem?_getD, List.getElem?_eq_getElem (by omega)]
  rfl
theorem iA_set (l : List Int) (i : Nat) (x : Int) : (iA l).setIfInBounds i (.int .i64 x) = iA (l.set i x) := by unfold iA; rw [List.setIfInBounds_toArray, List.map_set]
theorem bA_set (m : List Bool) (i : Nat) (b : Bool) : (bA m).setIfInBounds i (.bool b) = bA (m.set i b) := by unfold bA; rw [List.setIfInBounds_toArray, List.map_set]
theorem zs13 {W : World} {b : Nat} {c : C} (h : Blk W b (iA c.list)) : Zs W W.heap.size (some ⟨b, 0, none⟩) c.list :=
  ⟨⟨fun _ => ⟨b, 0, rfl, h.lt, fun k u hu => by
      rw [Nat.zero_add]
      refine h.c k ?_
      unfold iA
      rw [List.getElem?_toArray]
      exact hu⟩⟩⟩
/-- what follows the first part -/
def restP (t : List UInt8) (k : Nat) : List (List UInt8) := if k < t.length then Kp.parts (t.drop (k + 1)) else []
theorem parts_com {t : List UInt8} {k : Nat} (h : ComP t k) : Kp.parts t = t.take k :: restP t k := by
  obtain ⟨h1, h2, h3⟩ := h
  unfold restP
  by_cases hk : k < t.length
  · rw [if_pos hk]; exact Kp.parts_at h2 (h3 hk)
  · rw [if_neg hk, List.take_of_length_le (by omega)]
    refine Kp.parts_no (fun j => ?_)
    rcases Nat.lt_or_ge j k with g | g
    · exact h2 j g
    · rw [List.getElem?_eq_none (by omega)]; intro h; cases h
theorem cap_big {v : Nat} : 100 < Kp.cap v ↔ 100 < v := by unfold Kp.cap; split <;> omega
theorem stepS_bad {l : List Int} {m : List Bool} {p : List UInt8} (h : Kp.pOk p = false) : Kp.stepS l m p = (6, l, m) := by unfold Kp.stepS; rw [if_pos h]
theorem idx_lt {w : List UInt8} {i : Nat} (h : Kp.idx w = some i) : i < 13 := by
  have key : ∀ (l : List (List UInt8)) (k : Nat), Kp.idxF w l k = some i → i < k + l.length := by
    intro l
    induction l with
    | nil => intro k h; cases h
    | cons x l ih =>
      intro k h
      unfold Kp.idxF at h
      split at h
      · injection h with h; rw [← h, List.length_cons]; omega
      · have := ih _ h; rw [List.length_cons]; omega
  have h2 : i < 0 + 13 := key _ 0 h
  omega
theorem stepS_cases {l : List Int} {m : List Bool} {p : List UInt8} {w : List UInt8} {v : Nat} (h : Kp.pOk p = true) (hw : Kp.word p = w) (hv : Kp.valN (Kp.num p) = v) :
    (fiN w = -1 ∧ Kp.stepS l m p = (7, l, m)) ∨ ∃ i : Nat, i < 13 ∧ fiN w = (i : Int) ∧ ((m.getD i false = true ∧ Kp.stepS l m p = (8, l, m)) ∨ (m.getD i false = false ∧ 100 < v ∧ Kp.stepS l m p = (3, l, m)) ∨ (m.getD i false = false ∧ ¬ 100 < v ∧ Kp.stepS l m p = (0, l.set i (v : Int), m.set i true))) := by
  unfold Kp.stepS fiN
  rw [if_neg (by rw [h]; decide), hw, hv]
  cases hix : Kp.idx w with
  | none => exact .inl ⟨rfl, rfl⟩
  | some i =>
    right
    refine ⟨i, idx_lt hix, rfl, ?_⟩
    dsimp only
    cases hm : m.getD i false with
    | true => exact .inl ⟨rfl, by rw [if_pos rfl]⟩
    | false =>
      right
      rw [if_neg (by decide)]
      by_cases hb : 100 < v
      · exact .inl ⟨rfl, hb, by rw [if_pos hb]⟩
      · exact .inr ⟨rfl, hb, by rw [if_neg hb]⟩
set_option maxRecDepth 100000 in
set_option maxHeartbeats 1000000 in
theorem rparse_long (s : ByteArray) (w : World) (hs : 8192 < s.size) : Calls Tryz.prog 9 #[.string s] w (PaP w (bs s)) := by
  have h5 : Hid (Kp.parseS (bs s) = (5, Kp.zeros)) := Lib.hid (by unfold Kp.parseS; rw [if_pos (by rw [bs_length]; exact hs)])
  have z0 : (8192 : Int) < (s.size : Int) := by omega
  have hz := Blk.new_ w #[.int .i64 0, .int .i64 0, .int .i64 0, .int .i64 0, .int .i64 0, .int .i64 0, .int .i64 0, .int .i64 0, .int .i64 0, .int .i64 0, .int .i64 0, .int .i64 0, .int .i64 0] 23
  have bel := al1 w (.cells #[.int .i64 0, .int .i64 0, .int .i64 0, .int .i64 0, .int .i64 0, .int .i64 0, .int .i64 0, .int .i64 0, .int .i64 0, .int .i64 0, .int .i64 0, .int .i64 0, .int .i64 0] 23)
  clear hs
  go_enter Tryz.func9, Tryz.ntmps9
  go_upto_region 2 with (fail)
  generalize w.alloc (.cells #[.int .i64 0, .int .i64 0, .int .i64 0, .int .i64 0, .int .i64 0, .int .i64 0, .int .i64 0, .int .i64 0, .int .i64 0, .int .i64 0, .int .i64 0, .int .i64 0, .int .i64 0] 23) = w1 at hz bel ⊢
  have z0 : w1.cell? ⟨w.heap.size, 0, none⟩ = some (.int .i64 0) := hz.c 0 rfl
  have f0 := hz.fr 0
  have z1 : w1.cell? ⟨w.heap.size, 1, none⟩ = some (.int .i64 0) := hz.c 1 rfl
  have f1 := hz.fr 1
  have z2 : w1.cell? ⟨w.heap.size, 2, none⟩ = some (.int .i64 0) := hz.c 2 rfl
  have f2 := hz.fr 2
  have z3 : w1.cell? ⟨w.heap.size, 3, none⟩ = some (.int .i64 0) := hz.c 3 rfl
  have f3 := hz.fr 3
  have z4 : w1.cell? ⟨w.heap.size, 4, none⟩ = some (.int .i64 0) := hz.c 4 rfl
  have f4 := hz.fr 4
  have z5 : w1.cell? ⟨w.heap.size, 5, none⟩ = some (.int .i64 0) := hz.c 5 rfl
  have f5 := hz.fr 5
  have z6 : w1.cell? ⟨w.heap.size, 6, none⟩ = some (.int .i64 0) := hz.c 6 rfl
  have f6 := hz.fr 6
  have z7 : w1.cell? ⟨w.heap.size, 7, none⟩ = some (.int .i64 0) := hz.c 7 rfl
  have f7 := hz.fr 7
  have z8 : w1.cell? ⟨w.heap.size, 8, none⟩ = some (.int .i64 0) := hz.c 8 rfl
  have f8 := hz.fr 8
  have z9 : w1.cell? ⟨w.heap.size, 9, none⟩ = some (.int .i64 0) := hz.c 9 rfl
  have f9 := hz.fr 9
  have z10 : w1.cell? ⟨w.heap.size, 10, none⟩ = some (.int .i64 0) := hz.c 10 rfl
  have f10 := hz.fr 10
  have z11 : w1.cell? ⟨w.heap.size, 11, none⟩ = some (.int .i64 0) := hz.c 11 rfl
  have f11 := hz.fr 11
  have z12 : w1.cell? ⟨w.heap.size, 12, none⟩ = some (.int .i64 0) := hz.c 12 rfl
  have f12 := hz.fr 12
  have KK := Lib.hid (put13 hz ⟨0, 0, 0, 0, 0, 0, 0, 0, 0, 0, 0, 0, 0⟩)
  have BB := Lib.hid (below13 bel (show w.heap.size ≤ w.heap.size from Nat.le_refl _) ⟨0, 0, 0, 0, 0, 0, 0, 0, 0, 0, 0, 0, 0⟩)
  clear hz bel
  go_wp2_with fail
  replace KK := KK.out
  replace BB := BB.out
  (try dsimp only at KK BB)
  generalize (((((((((((((w1.setCell ⟨w.heap.size, 0, none⟩ (.int .i64 0)).setCell ⟨w.heap.size, 1, none⟩ (.int .i64 0)).setCell ⟨w.heap.size, 2, none⟩ (.int .i64 0)).setCell ⟨w.heap.size, 3, none⟩ (.int .i64 0)).setCell ⟨w.heap.size, 4, none⟩ (.int .i64 0)).setCell ⟨w.heap.size, 5, none⟩ (.int .i64 0)).setCell ⟨w.heap.size, 6, none⟩ (.int .i64 0)).setCell ⟨w.heap.size, 7, none⟩ (.int .i64 0)).setCell ⟨w.heap.size, 8, none⟩ (.int .i64 0)).setCell ⟨w.heap.size, 9, none⟩ (.int .i64 0)).setCell ⟨w.heap.size, 10, none⟩ (.int .i64 0)).setCell ⟨w.heap.size, 11, none⟩ (.int .i64 0)).setCell ⟨w.heap.size, 12, none⟩ (.int .i64 0)) = w9 at KK BB ⊢
  obtain ⟨r0, r1, r2, r3, r4, r5, r6, r7, r8, r9, r10, r11, r12⟩ := c13 KK
  refine bodyPost_ret (v := .tuple #[.agg #[.int .i64 0, .int .i64 0, .int .i64 0, .int .i64 0, .int .i64 0, .int .i64 0, .int .i64 0, .int .i64 0, .int .i64 0, .int .i64 0, .int .i64 0, .int .i64 0, .int .i64 0], .int .i64 5]) (by simp [results, Tryz.results9, go_sem, r0, r1, r2, r3, r4, r5, r6, r7, r8, r9, r10, r11, r12]) rfl ?_
  exact PaP.zero h5.out rfl BB
set_option maxRecDepth 100000 in
set_option maxHeartbeats 6000000 in
theorem rparse_any (s : ByteArray) (w : World) : Calls Tryz.prog 9 #[.string s] w (PaP w (bs s)) := by
  rcases Nat.lt_or_ge 8192 s.size with hs | hs
  · exact rparse_long s w hs
  have hlen := bs_length s
  have z0 : ¬ (8192 : Int) < (s.size : Int) := by omega
  obtain ⟨P, hP⟩ : ∃ P, Hid (Kp.parseS (bs s) = P) := ⟨_, Lib.hid rfl⟩
  obtain ⟨T0, hT0⟩ : ∃ x, Hid (Lib.trimB (bs s) 32 = x) := ⟨_, Lib.hid rfl⟩
  have HPS : Hid (P = if T0 = [] then (0, Kp.zeros) else Kp.runS Kp.zeros Kp.falses (Kp.parts (bs s))) := Lib.hid (by rw [← hP.out, ← hT0.out]; unfold Kp.parseS; rw [if_neg (by omega)])
  have HTR := Lib.hid (fun (W : World) => (by have h := rtrim_any s (by omega) W; rw [hT0.out] at h; exact h : Calls Tryz.prog 26 #[.string s] W fun e w' => e = .returned (.string (mkB T0)) ∧ Below W.heap.size W w'))
  have HP0 : Hid (Kp.parseS (bs s) = P) := hP
  have HSS := Lib.hid hs
  have hz := Blk.new_ w #[.int .i64 0, .int .i64 0, .int .i64 0, .int .i64 0, .int .i64 0, .int .i64 0, .int .i64 0, .int .i64 0, .int .i64 0, .int .i64 0, .int .i64 0, .int .i64 0, .int .i64 0] 23
  have bel := al1 w (.cells #[.int .i64 0, .int .i64 0, .int .i64 0, .int .i64 0, .int .i64 0, .int .i64 0, .int .i64 0, .int .i64 0, .int .i64 0, .int .i64 0, .int .i64 0, .int .i64 0, .int .i64 0] 23)
  have hm1 := make13i
  have hm2 := make13b
  clear hs hlen hP hT0
  go_enter Tryz.func9, Tryz.ntmps9
  go_upto_region 3 with (fail)
  generalize w.alloc (.cells #[.int .i64 0, .int .i64 0, .int .i64 0, .int .i64 0, .int .i64 0, .int .i64 0, .int .i64 0, .int .i64 0, .int .i64 0, .int .i64 0, .int .i64 0, .int .i64 0, .int .i64 0] 23) = w1 at hz bel ⊢
  go_upto_region 4 with (fail)
  have hL := Blk.new_ w1 (Kp.zeros.map (fun x => Value.int .i64 x)).toArray 3
  have hb := al1 w1 (.cells (Kp.zeros.map (fun x => Value.int .i64 x)).toArray 3)
  have hgl : w.heap.size < w1.heap.size := hz.lt
  replace hz := hz.below hb hz.lt
  replace bel := bel.trans (hb.mono bel.size)
  clear hb
  generalize w1.alloc (.cells (Kp.zeros.map (fun x => Value.int .i64 x)).toArray 3) = w2 at hz bel hL ⊢
  generalize w1.heap.size = bl at hL hgl ⊢
  go_wp2_with fail
  refine (HTR.out _).mono ?_
  rintro r w3 ⟨rfl, hb⟩
  replace hz := hz.below hb hz.lt
  replace hL := hL.below hb hL.lt
  replace bel := bel.trans (hb.mono bel.size)
  clear hb
  by_cases hnil : T0 = []
  · subst hnil
    have h5 : Hid (Kp.parseS (bs s) = (0, (⟨0, 0, 0, 0, 0, 0, 0, 0, 0, 0, 0, 0, 0⟩ : C).list)) := Lib.hid (by rw [HP0.out, HPS.out, if_pos rfl]; rfl)
    have q1 : (mkB []).toList.isEmpty = true := by rw [bs_toList, bs_mk]; rfl
    have q2 : ((mkB []).toList == []) = true := by rw [bs_toList, bs_mk]; rfl
    have q3 : ((mkB []).toList != []) = false := by rw [bs_toList, bs_mk]; rfl
    have HOF := Lib.hid (rof_any ⟨0, 0, 0, 0, 0, 0, 0, 0, 0, 0, 0, 0, 0⟩ bl 0 13 w3 (zs13 hL))
    clear hL
    go_wp2_with fail
    refine HOF.out.mono ?_
    rintro r w4 ⟨rfl, hb⟩
    replace hz := hz.below hb hz.lt
    replace bel := bel.trans (hb.mono bel.size)
    clear hb q1 q2 q3
    have z0 : w4.cell? ⟨w.heap.size, 0, none⟩ = some (.int .i64 0) := hz.c 0 rfl
    have f0 := hz.fr 0
    have z1 : w4.cell? ⟨w.heap.size, 1, none⟩ = some (.int .i64 0) := hz.c 1 rfl
    have f1 := hz.fr 1
    have z2 : w4.cell? ⟨w.heap.size, 2, none⟩ = some (.int .i64 0) := hz.c 2 rfl
    have f2 := hz.fr 2
    have z3 : w4.cell? ⟨w.heap.size, 3, none⟩ = some (.int .i64 0) := hz.c 3 rfl
    have f3 := hz.fr 3
    have z4 : w4.cell? ⟨w.heap.size, 4, none⟩ = some (.int .i64 0) := hz.c 4 rfl
    have f4 := hz.fr 4
    have z5 : w4.cell? ⟨w.heap.size, 5, none⟩ = some (.int .i64 0) := hz.c 5 rfl
    have f5 := hz.fr 5
    have z6 : w4.cell? ⟨w.heap.size, 6, none⟩ = some (.int .i64 0) := hz.c 6 rfl
    have f6 := hz.fr 6
    have z7 : w4.cell? ⟨w.heap.size, 7, none⟩ = some (.int .i64 0) := hz.c 7 rfl
    have f7 := hz.fr 7
    have z8 : w4.cell? ⟨w.heap.size, 8, none⟩ = some (.int .i64 0) := hz.c 8 rfl
    have f8 := hz.fr 8
    have z9 : w4.cell? ⟨w.heap.size, 9, none⟩ = some (.int .i64 0) := hz.c 9 rfl
    have f9 := hz.fr 9
    have z10 : w4.cell? ⟨w.heap.size, 10, none⟩ = some (.int .i64 0) := hz.c 10 rfl
    have f10 := hz.fr 10
    have z11 : w4.cell? ⟨w.heap.size, 11, none⟩ = some (.int .i64 0) := hz.c 11 rfl
    have f11 := hz.fr 11
    have z12 : w4.cell? ⟨w.heap.size, 12, none⟩ = some (.int .i64 0) := hz.c 12 rfl
    have f12 := hz.fr 12
    have KK := Lib.hid (put13 hz ⟨0, 0, 0, 0, 0, 0, 0, 0, 0, 0, 0, 0, 0⟩)
    have BB := Lib.hid (below13 bel (show w.heap.size ≤ w.heap.size from Nat.le_refl _) ⟨0, 0, 0, 0, 0, 0, 0, 0, 0, 0, 0, 0, 0⟩)
    clear hz bel
    go_wp2_with fail
    replace KK := KK.out
    replace BB := BB.out
    (try dsimp only at KK BB)
    generalize (((((((((((((w4.setCell ⟨w.heap.size, 0, none⟩ (.int .i64 0)).setCell ⟨w.heap.size, 1, none⟩ (.int .i64 0)).setCell ⟨w.heap.size, 2, none⟩ (.int .i64 0)).setCell ⟨w.heap.size, 3, none⟩ (.int .i64 0)).setCell ⟨w.heap.size, 4, none⟩ (.int .i64 0)).setCell ⟨w.heap.size, 5, none⟩ (.int .i64 0)).setCell ⟨w.heap.size, 6, none⟩ (.int .i64 0)).setCell ⟨w.heap.size, 7, none⟩ (.int .i64 0)).setCell ⟨w.heap.size, 8, none⟩ (.int .i64 0)).setCell ⟨w.heap.size, 9, none⟩ (.int .i64 0)).setCell ⟨w.heap.size, 10, none⟩ (.int .i64 0)).setCell ⟨w.heap.size, 11, none⟩ (.int .i64 0)).setCell ⟨w.heap.size, 12, none⟩ (.int .i64 0)) = w9 at KK BB ⊢
    obtain ⟨r0, r1, r2, r3, r4, r5, r6, r7, r8, r9, r10, r11, r12⟩ := c13 KK
    refine bodyPost_ret (v := .tuple #[.agg #[.int .i64 0, .int .i64 0, .int .i64 0, .int .i64 0, .int .i64 0, .int .i64 0, .int .i64 0, .int .i64 0, .int .i64 0, .int .i64 0, .int .i64 0, .int .i64 0, .int .i64 0], .int .i64 0]) (by simp [results, Tryz.results9, go_sem, r0, r1, r2, r3, r4, r5, r6, r7, r8, r9, r10, r11, r12]) rfl ?_
    exact PaP.ok h5.out rfl BB
  have HPR : Hid (P = Kp.runS Kp.zeros Kp.falses (Kp.parts (bs s))) := Lib.hid (by rw [HPS.out, if_neg hnil])
  have q1 : (mkB T0).toList.isEmpty = false := by rw [bs_toList, bs_mk]; cases T0 with | nil => exact absurd rfl hnil | cons _ _ => rfl
  have q2 : ((mkB T0).toList == []) = false := by rw [bs_toList, bs_mk, beq_eq_false_iff_ne]; exact hnil
  have q3 : ((mkB T0).toList != []) = true := by rw [bs_toList, bs_mk, bne_iff_ne]; exact hnil
  clear hnil
  go_upto_region 7 with (fail)
  have hM := Blk.new_ w3 (Kp.falses.map Value.bool).toArray 4
  have hb := al1 w3 (.cells (Kp.falses.map Value.bool).toArray 4)
  have hgm : bl < w3.heap.size := hL.lt
  replace hz := hz.below hb hz.lt
  replace hL := hL.below hb hL.lt
  replace bel := bel.trans (hb.mono bel.size)
  clear hb q1 q2 q3
  generalize w3.alloc (.cells (Kp.falses.map Value.bool).toArray 4) = w4 at hz bel hL hM ⊢
  generalize w3.heap.size = bm at hM hgm ⊢
  clear hm1 hm2
  go_wp2_with fail
  go_loopw [0] (fun tv wr => ∃ (t : ByteArray) (l : List Int) (m : List Bool), tv = .string t ∧ t.size ≤ 8192 ∧ Hid (P = Kp.runS l m (Kp.parts (bs t))) ∧ Hid (l.length = 13 ∧ m.length = 13) ∧ Blk wr bl (iA l) ∧ Blk wr bm (bA m) ∧ Blk wr w.heap.size #[.int .i64 0, .int .i64 0, .int .i64 0, .int .i64 0, .int .i64 0, .int .i64 0, .int .i64 0, .int .i64 0, .int .i64 0, .int .i64 0, .int .i64 0, .int .i64 0, .int .i64 0] ∧ Below w.heap.size w wr) (fun tv _ => strK tv)
  case atStart => exact ⟨s, Kp.zeros, Kp.falses, rfl, HSS.out, HPR, Lib.hid ⟨rfl, rfl⟩, hL, hM, hz, bel⟩
  case round =>
    clear hz hL hM bel HPR HSS HTR
    obtain ⟨t, l, m, rfl, hts, HRN, HLM, hL, hM, hz, bel⟩ := hrel
    have HCO := Lib.hid (fun (W : World) => rcomma_any t (by omega) W)
    have htl := bs_length t
    have HTS := Lib.hid hts
    go_wp2_with fail
    refine (HCO.out _).mono ?_
    rintro r w6 ⟨⟨k, rfl, hcom⟩, hb⟩
    replace hz := hz.below hb hz.lt
    replace hL := hL.below hb hL.lt
    replace hM := hM.below hb hM.lt
    replace bel := bel.trans (hb.mono bel.size)
    clear hb HCO
    have hk : k ≤ t.size := by rw [← htl]; exact hcom.1
    have hkI : (k : Int) ≤ (t.size : Int) := by omega
    obtain ⟨p, hp⟩ : ∃ p, Hid (Lib.trimB ((bs t).take k) 32 = p) := ⟨_, Lib.hid rfl⟩
    have hpl : p.length ≤ 8192 := by rw [← hp.out]; have := Kp.trimB_len ((bs t).take k) 32; rw [List.length_take] at this; omega
    have HPT : Hid (Kp.parts (bs t) = (bs t).take k :: restP (bs t) k) := Lib.hid (parts_com hcom)
    have HRS : Hid (restP (bs t) k = if k < t.size then Kp.parts (bs (t.extract (k + 1) t.size)) else []) := Lib.hid (by unfold restP; rw [htl, ext_from, bs_mk])
    have HTX := Lib.hid (fun (W : World) => (by have h := rtrim_any (t.extract 0 k) (by rw [ByteArray.size_extract]; omega) W; rw [ext_to, bs_mk, hp.out] at h; rw [ext_to]; exact h : Calls Tryz.prog 26 #[.string (t.extract 0 k)] W fun e w' => e = .returned (.string (mkB p)) ∧ Below W.heap.size W w'))
    have HPA := Lib.hid (fun (W : World) => (by have h := rpart_any (mkB p) (by rw [mk_size]; omega) W; rw [bs_mk] at h; exact h : Calls Tryz.prog 29 #[.string (mkB p)] W fun r w' => RpP p r ∧ Below W.heap.size W w'))
    clear htl hcom hpl
    go_wp2_with fail
    refine (HTX.out _).mono ?_
    rintro r w7 ⟨rfl, hb⟩
    replace hz := hz.below hb hz.lt
    replace hL := hL.below hb hL.lt
    replace hM := hM.below hb hM.lt
    replace bel := bel.trans (hb.mono bel.size)
    clear hb
    go_wp2_with fail
    refine (HPA.out _).mono ?_
    rintro r w8 ⟨hrp, hb⟩
    replace hz := hz.below hb hz.lt
    replace hL := hL.below hb hL.lt
    replace hM := hM.below hb hM.lt
    replace bel := bel.trans (hb.mono bel.size)
    clear hb HTX HPA
    have HRUN : ∀ K l' m', Kp.stepS l m p = (K, l', m') → Hid (P = if K = 0 then Kp.runS l' m' (restP (bs t) k) else (K, Kp.zeros)) := fun K l' m' h => Lib.hid (by
      rw [HRN.out, HPT.out]
      show (if (Kp.stepS l m (Lib.trimB ((bs t).take k) 32)).1 = 0 then _ else _) = _
      rw [hp.out, h])
    unfold RpP at hrp
    obtain ⟨W1, hW1⟩ : ∃ x, Hid (Kp.word p = x) := ⟨_, Lib.hid rfl⟩
    obtain ⟨V, hV⟩ : ∃ x, Hid (Kp.valN (Kp.num p) = x) := ⟨_, Lib.hid rfl⟩
    rw [hW1.out, hV.out] at hrp
    rcases hrp with ⟨hok, rfl⟩ | ⟨hok, rfl⟩
    · have HF1 := Lib.hid (fun (W : World) => (by have h := rfind_any (mkB W1) W; rw [bs_mk] at h; exact h : Calls Tryz.prog 30 #[.string (mkB W1)] W fun r w' => r = .returned (.int .i64 (fiN W1)) ∧ Below W.heap.size W w'))
      have HCA := stepS_cases (l := l) (m := m) hok hW1.out hV.out
      obtain ⟨F, hF⟩ : ∃ F, Hid (fiN W1 = F) := ⟨_, Lib.hid rfl⟩
      rw [hF.out] at HF1 HCA
      have HCB := Lib.hid HCA
      clear HCA hok hW1 hV hF
      go_wp2_with fail
      refine (HF1.out _).mono ?_
      rintro r w9 ⟨rfl, hb⟩
      replace hz := hz.below hb hz.lt
      replace hL := hL.below hb hL.lt
      replace hM := hM.below hb hM.lt
      replace bel := bel.trans (hb.mono bel.size)
      clear hb HF1
      rcases HCB.out with ⟨rfl, hst⟩ | ⟨i, hi, rfl, hst⟩
      · have h5 : Hid (Kp.parseS (bs s) = (7, Kp.zeros)) := Lib.hid (by rw [HP0.out, (HRUN _ _ _ hst).out]; rfl)
        clear hL hM HRUN HCB hst
        go_upto_region 13 with (fail)
        have z0 : w9.cell? ⟨w.heap.size, 0, none⟩ = some (.int .i64 0) := hz.c 0 rfl
        have f0 := hz.fr 0
        have z1 : w9.cell? ⟨w.heap.size, 1, none⟩ = some (.int .i64 0) := hz.c 1 rfl
        have f1 := hz.fr 1
        have z2 : w9.cell? ⟨w.heap.size, 2, none⟩ = some (.int .i64 0) := hz.c 2 rfl
        have f2 := hz.fr 2
        have z3 : w9.cell? ⟨w.heap.size, 3, none⟩ = some (.int .i64 0) := hz.c 3 rfl
        have f3 := hz.fr 3
        have z4 : w9.cell? ⟨w.heap.size, 4, none⟩ = some (.int .i64 0) := hz.c 4 rfl
        have f4 := hz.fr 4
        have z5 : w9.cell? ⟨w.heap.size, 5, none⟩ = some (.int .i64 0) := hz.c 5 rfl
        have f5 := hz.fr 5
        have z6 : w9.cell? ⟨w.heap.size, 6, none⟩ = some (.int .i64 0) := hz.c 6 rfl
        have f6 := hz.fr 6
        have z7 : w9.cell? ⟨w.heap.size, 7, none⟩ = some (.int .i64 0) := hz.c 7 rfl
        have f7 := hz.fr 7
        have z8 : w9.cell? ⟨w.heap.size, 8, none⟩ = some (.int .i64 0) := hz.c 8 rfl
        have f8 := hz.fr 8
        have z9 : w9.cell? ⟨w.heap.size, 9, none⟩ = some (.int .i64 0) := hz.c 9 rfl
        have f9 := hz.fr 9
        have z10 : w9.cell? ⟨w.heap.size, 10, none⟩ = some (.int .i64 0) := hz.c 10 rfl
        have f10 := hz.fr 10
        have z11 : w9.cell? ⟨w.heap.size, 11, none⟩ = some (.int .i64 0) := hz.c 11 rfl
        have f11 := hz.fr 11
        have z12 : w9.cell? ⟨w.heap.size, 12, none⟩ = some (.int .i64 0) := hz.c 12 rfl
        have f12 := hz.fr 12
        have KK := Lib.hid (put13 hz ⟨0, 0, 0, 0, 0, 0, 0, 0, 0, 0, 0, 0, 0⟩)
        have BB := Lib.hid (below13 bel (show w.heap.size ≤ w.heap.size from Nat.le_refl _) ⟨0, 0, 0, 0, 0, 0, 0, 0, 0, 0, 0, 0, 0⟩)
        clear hz bel
        go_wp2_with fail
        replace KK := KK.out
        replace BB := BB.out
        (try dsimp only at KK BB)
        generalize (((((((((((((w9.setCell ⟨w.heap.size, 0, none⟩ (.int .i64 0)).setCell ⟨w.heap.size, 1, none⟩ (.int .i64 0)).setCell ⟨w.heap.size, 2, none⟩ (.int .i64 0)).setCell ⟨w.heap.size, 3, none⟩ (.int .i64 0)).setCell ⟨w.heap.size, 4, none⟩ (.int .i64 0)).setCell ⟨w.heap.size, 5, none⟩ (.int .i64 0)).setCell ⟨w.heap.size, 6, none⟩ (.int .i64 0)).setCell ⟨w.heap.size, 7, none⟩ (.int .i64 0)).setCell ⟨w.heap.size, 8, none⟩ (.int .i64 0)).setCell ⟨w.heap.size, 9, none⟩ (.int .i64 0)).setCell ⟨w.heap.size, 10, none⟩ (.int .i64 0)).setCell ⟨w.heap.size, 11, none⟩ (.int .i64 0)).setCell ⟨w.heap.size, 12, none⟩ (.int .i64 0)) = w9 at KK BB ⊢
        obtain ⟨r0, r1, r2, r3, r4, r5, r6, r7, r8, r9, r10, r11, r12⟩ := c13 KK
        refine bodyPost_ret (v := .tuple #[.agg #[.int .i64 0, .int .i64 0, .int .i64 0, .int .i64 0, .int .i64 0, .int .i64 0, .int .i64 0, .int .i64 0, .int .i64 0, .int .i64 0, .int .i64 0, .int .i64 0, .int .i64 0], .int .i64 7]) (by simp [results, Tryz.results9, go_sem, r0, r1, r2, r3, r4, r5, r6, r7, r8, r9, r10, r11, r12]) rfl ?_
        exact PaP.zero h5.out rfl BB
      · have hneg : ¬ (i : Int) < 0 := by omega
        have hiI : (i : Int) < 13 := by omega
        have hcm := hM.c i (bA_at HLM.out.2 hi)
        clear HCB
        rcases hst with ⟨hMM, hst⟩ | ⟨hMM, hbig, hst⟩ | ⟨hMM, hbig, hst⟩
        · rw [hMM] at hcm
          have h5 : Hid (Kp.parseS (bs s) = (8, Kp.zeros)) := Lib.hid (by rw [HP0.out, (HRUN _ _ _ hst).out]; rfl)
          clear hL hM HRUN hst hMM
          go_upto_region 15 with (fail)
          clear hcm
          have z0 : w9.cell? ⟨w.heap.size, 0, none⟩ = some (.int .i64 0) := hz.c 0 rfl
          have f0 := hz.fr 0
          have z1 : w9.cell? ⟨w.heap.size, 1, none⟩ = some (.int .i64 0) := hz.c 1 rfl
          have f1 := hz.fr 1
          have z2 : w9.cell? ⟨w.heap.size, 2, none⟩ = some (.int .i64 0) := hz.c 2 rfl
          have f2 := hz.fr 2
          have z3 : w9.cell? ⟨w.heap.size, 3, none⟩ = some (.int .i64 0) := hz.c 3 rfl
          have f3 := hz.fr 3
          have z4 : w9.cell? ⟨w.heap.size, 4, none⟩ = some (.int .i64 0) := hz.c 4 rfl
          have f4 := hz.fr 4
          have z5 : w9.cell? ⟨w.heap.size, 5, none⟩ = some (.int .i64 0) := hz.c 5 rfl
          have f5 := hz.fr 5
          have z6 : w9.cell? ⟨w.heap.size, 6, none⟩ = some (.int .i64 0) := hz.c 6 rfl
          have f6 := hz.fr 6
          have z7 : w9.cell? ⟨w.heap.size, 7, none⟩ = some (.int .i64 0) := hz.c 7 rfl
          have f7 := hz.fr 7
          have z8 : w9.cell? ⟨w.heap.size, 8, none⟩ = some (.int .i64 0) := hz.c 8 rfl
          have f8 := hz.fr 8
          have z9 : w9.cell? ⟨w.heap.size, 9, none⟩ = some (.int .i64 0) := hz.c 9 rfl
          have f9 := hz.fr 9
          have z10 : w9.cell? ⟨w.heap.size, 10, none⟩ = some (.int .i64 0) := hz.c 10 rfl
          have f10 := hz.fr 10
          have z11 : w9.cell? ⟨w.heap.size, 11, none⟩ = some (.int .i64 0) := hz.c 11 rfl
          have f11 := hz.fr 11
          have z12 : w9.cell? ⟨w.heap.size, 12, none⟩ = some (.int .i64 0) := hz.c 12 rfl
          have f12 := hz.fr 12
          have KK := Lib.hid (put13 hz ⟨0, 0, 0, 0, 0, 0, 0, 0, 0, 0, 0, 0, 0⟩)
          have BB := Lib.hid (below13 bel (show w.heap.size ≤ w.heap.size from Nat.le_refl _) ⟨0, 0, 0, 0, 0, 0, 0, 0, 0, 0, 0, 0, 0⟩)
          clear hz bel
          go_wp2_with fail
          replace KK := KK.out
          replace BB := BB.out
          (try dsimp only at KK BB)
          generalize (((((((((((((w9.setCell ⟨w.heap.size, 0, none⟩ (.int .i64 0)).setCell ⟨w.heap.size, 1, none⟩ (.int .i64 0)).setCell ⟨w.heap.size, 2, none⟩ (.int .i64 0)).setCell ⟨w.heap.size, 3, none⟩ (.int .i64 0)).setCell ⟨w.heap.size, 4, none⟩ (.int .i64 0)).setCell ⟨w.heap.size, 5, none⟩ (.int .i64 0)).setCell ⟨w.heap.size, 6, none⟩ (.int .i64 0)).setCell ⟨w.heap.size, 7, none⟩ (.int .i64 0)).setCell ⟨w.heap.size, 8, none⟩ (.int .i64 0)).setCell ⟨w.heap.size, 9, none⟩ (.int .i64 0)).setCell ⟨w.heap.size, 10, none⟩ (.int .i64 0)).setCell ⟨w.heap.size, 11, none⟩ (.int .i64 0)).setCell ⟨w.heap.size, 12, none⟩ (.int .i64 0)) = w9 at KK BB ⊢
          obtain ⟨r0, r1, r2, r3, r4, r5, r6, r7, r8, r9, r10, r11, r12⟩ := c13 KK
          refine bodyPost_ret (v := .tuple #[.agg #[.int .i64 0, .int .i64 0, .int .i64 0, .int .i64 0, .int .i64 0, .int .i64 0, .int .i64 0, .int .i64 0, .int .i64 0, .int .i64 0, .int .i64 0, .int .i64 0, .int .i64 0], .int .i64 8]) (by simp [results, Tryz.results9, go_sem, r0, r1, r2, r3, r4, r5, r6, r7, r8, r9, r10, r11, r12]) rfl ?_
          exact PaP.zero h5.out rfl BB
        · rw [hMM] at hcm
          have h5 : Hid (Kp.parseS (bs s) = (3, Kp.zeros)) := Lib.hid (by rw [HP0.out, (HRUN _ _ _ hst).out]; rfl)
          have hc1 : 100 < Kp.cap V := cap_big.2 hbig
          obtain ⟨Q, hQ⟩ : ∃ Q, Kp.cap V = Q := ⟨_, rfl⟩
          rw [hQ] at hc1 ⊢
          have hcI : (100 : Int) < (Q : Int) := by omega
          have hcD : decide ((100 : Int) < (Q : Int)) = true := decide_eq_true hcI
          have hcN : decide (100 < Q) = true := decide_eq_true hc1
          clear hL hM HRUN hst hMM hQ hbig
          go_upto_region 17 with (fail)
          clear hcm
          have z0 : w9.cell? ⟨w.heap.size, 0, none⟩ = some (.int .i64 0) := hz.c 0 rfl
          have f0 := hz.fr 0
          have z1 : w9.cell? ⟨w.heap.size, 1, none⟩ = some (.int .i64 0) := hz.c 1 rfl
          have f1 := hz.fr 1
          have z2 : w9.cell? ⟨w.heap.size, 2, none⟩ = some (.int .i64 0) := hz.c 2 rfl
          have f2 := hz.fr 2
          have z3 : w9.cell? ⟨w.heap.size, 3, none⟩ = some (.int .i64 0) := hz.c 3 rfl
          have f3 := hz.fr 3
          have z4 : w9.cell? ⟨w.heap.size, 4, none⟩ = some (.int .i64 0) := hz.c 4 rfl
          have f4 := hz.fr 4
          have z5 : w9.cell? ⟨w.heap.size, 5, none⟩ = some (.int .i64 0) := hz.c 5 rfl
          have f5 := hz.fr 5
          have z6 : w9.cell? ⟨w.heap.size, 6, none⟩ = some (.int .i64 0) := hz.c 6 rfl
          have f6 := hz.fr 6
          have z7 : w9.cell? ⟨w.heap.size, 7, none⟩ = some (.int .i64 0) := hz.c 7 rfl
          have f7 := hz.fr 7
          have z8 : w9.cell? ⟨w.heap.size, 8, none⟩ = some (.int .i64 0) := hz.c 8 rfl
          have f8 := hz.fr 8
          have z9 : w9.cell? ⟨w.heap.size, 9, none⟩ = some (.int .i64 0) := hz.c 9 rfl
          have f9 := hz.fr 9
          have z10 : w9.cell? ⟨w.heap.size, 10, none⟩ = some (.int .i64 0) := hz.c 10 rfl
          have f10 := hz.fr 10
          have z11 : w9.cell? ⟨w.heap.size, 11, none⟩ = some (.int .i64 0) := hz.c 11 rfl
          have f11 := hz.fr 11
          have z12 : w9.cell? ⟨w.heap.size, 12, none⟩ = some (.int .i64 0) := hz.c 12 rfl
          have f12 := hz.fr 12
          have KK := Lib.hid (put13 hz ⟨0, 0, 0, 0, 0, 0, 0, 0, 0, 0, 0, 0, 0⟩)
          have BB := Lib.hid (below13 bel (show w.heap.size ≤ w.heap.size from Nat.le_refl _) ⟨0, 0, 0, 0, 0, 0, 0, 0, 0, 0, 0, 0, 0⟩)
          clear hz bel
          go_wp2_with fail
          replace KK := KK.out
          replace BB := BB.out
          (try dsimp only at KK BB)
          generalize (((((((((((((w9.setCell ⟨w.heap.size, 0, none⟩ (.int .i64 0)).setCell ⟨w.heap.size, 1, none⟩ (.int .i64 0)).setCell ⟨w.heap.size, 2, none⟩ (.int .i64 0)).setCell ⟨w.heap.size, 3, none⟩ (.int .i64 0)).setCell ⟨w.heap.size, 4, none⟩ (.int .i64 0)).setCell ⟨w.heap.size, 5, none⟩ (.int .i64 0)).setCell ⟨w.heap.size, 6, none⟩ (.int .i64 0)).setCell ⟨w.heap.size, 7, none⟩ (.int .i64 0)).setCell ⟨w.heap.size, 8, none⟩ (.int .i64 0)).setCell ⟨w.heap.size, 9, none⟩ (.int .i64 0)).setCell ⟨w.heap.size, 10, none⟩ (.int .i64 0)).setCell ⟨w.heap.size, 11, none⟩ (.int .i64 0)).setCell ⟨w.heap.size, 12, none⟩ (.int .i64 0)) = w9 at KK BB ⊢
          obtain ⟨r0, r1, r2, r3, r4, r5, r6, r7, r8, r9, r10, r11, r12⟩ := c13 KK
          refine bodyPost_ret (v := .tuple #[.agg #[.int .i64 0, .int .i64 0, .int .i64 0, .int .i64 0, .int .i64 0, .int .i64 0, .int .i64 0, .int .i64 0, .int .i64 0, .int .i64 0, .int .i64 0, .int .i64 0, .int .i64 0], .int .i64 3]) (by simp [results, Tryz.results9, go_sem, r0, r1, r2, r3, r4, r5, r6, r7, r8, r9, r10, r11, r12]) rfl ?_
          exact PaP.zero h5.out rfl BB
        · rw [hMM] at hcm
          have hcv : Kp.cap V = V := by unfold Kp.cap; rw [if_neg hbig]
          rw [hcv]
          have HRS2 := Lib.hid (HRUN _ _ _ hst)
          have HMM := Lib.hid hMM
          clear hcv HRUN hst hMM
          have hcI : ¬ (100 : Int) < (V : Int) := by omega
          have hcD : decide ((100 : Int) < (V : Int)) = false := decide_eq_false hcI
          have hcN : decide (100 < V) = false := decide_eq_false hbig
          have HR2 : Hid (P = Kp.runS (l.set i (V : Int)) (m.set i true) (restP (bs t) k)) := Lib.hid (by rw [HRS2.out.out]; rfl)
          have HLM2 : Hid ((l.set i (V : Int)).length = 13 ∧ (m.set i true).length = 13) := Lib.hid ⟨by rw [List.length_set]; exact HLM.out.1, by rw [List.length_set]; exact HLM.out.2⟩
          have hcl := hL.c i (iA_at HLM.out.1 hi)
          have hfl := hL.fr i
          have hL2 := hL.put i (.int .i64 (V : Int))
          have hM2 := hM.far (p := ⟨bl, i, none⟩) (by simp; omega) (.int .i64 (V : Int))
          have hz2 := hz.far (p := ⟨bl, i, none⟩) (by simp; omega) (.int .i64 (V : Int))
          have bel2 := bel.setCell (p := ⟨bl, i, none⟩) (by simp; omega) (.int .i64 (V : Int))
          rw [iA_set] at hL2
          have hcm2 := hM2.c i (bA_at HLM.out.2 hi)
          rw [HMM.out] at hcm2
          have hfm := hM2.fr i
          have hL3 := Lib.hid (hL2.far (p := ⟨bm, i, none⟩) (by simp; omega) (.bool true))
          have hM3 := hM2.put i (.bool true)
          rw [bA_set] at hM3
          have hM3 := Lib.hid hM3
          have hz3 := Lib.hid (hz2.far (p := ⟨bm, i, none⟩) (by simp; omega) (.bool true))
          have bel3 := Lib.hid (bel2.setCell (p := ⟨bm, i, none⟩) (by simp; omega) (.bool true))
          clear hL hM hz bel hL2 hM2 hz2 bel2 hbig
          go_upto_region 19 with (fail)
          replace hL3 := hL3.out
          replace hM3 := hM3.out
          replace hz3 := hz3.out
          replace bel3 := bel3.out
          generalize (w9.setCell ⟨bl, i, none⟩ (.int .i64 (V : Int))).setCell ⟨bm, i, none⟩ (.bool true) = wa at hL3 hM3 hz3 bel3 ⊢
          clear hcl hfl hcm hcm2 hfm
          by_cases hend : k = t.size
          · have q1 : ((k : Int) == (t.size : Int)) = true := by rw [hend]; exact beq_self_eq_true _
            obtain ⟨c, hc⟩ := Kp.list13 _ HLM2.out.1
            have h5 : Hid (Kp.parseS (bs s) = (0, c.list)) := Lib.hid (by rw [HP0.out, HR2.out, HRS.out, if_neg (by omega), hc]; rfl)
            rw [hc] at hL3
            have HOF := Lib.hid (rof_any c bl 0 13 wa (zs13 hL3))
            clear hL3 hM3 hend hkI hk hc
            go_wp2_with fail
            refine HOF.out.mono ?_
            rintro r wb ⟨rfl, hb⟩
            have hz := hz3.below hb hz3.lt
            have bel := bel3.trans (hb.mono bel3.size)
            clear hb hz3 bel3
            have z0 : wb.cell? ⟨w.heap.size, 0, none⟩ = some (.int .i64 0) := hz.c 0 rfl
            have f0 := hz.fr 0
            have z1 : wb.cell? ⟨w.heap.size, 1, none⟩ = some (.int .i64 0) := hz.c 1 rfl
            have f1 := hz.fr 1
            have z2 : wb.cell? ⟨w.heap.size, 2, none⟩ = some (.int .i64 0) := hz.c 2 rfl
            have f2 := hz.fr 2
            have z3 : wb.cell? ⟨w.heap.size, 3, none⟩ = some (.int .i64 0) := hz.c 3 rfl
            have f3 := hz.fr 3
            have z4 : wb.cell? ⟨w.heap.size, 4, none⟩ = some (.int .i64 0) := hz.c 4 rfl
            have f4 := hz.fr 4
            have z5 : wb.cell? ⟨w.heap.size, 5, none⟩ = some (.int .i64 0) := hz.c 5 rfl
            have f5 := hz.fr 5
            have z6 : wb.cell? ⟨w.heap.size, 6, none⟩ = some (.int .i64 0) := hz.c 6 rfl
            have f6 := hz.fr 6
            have z7 : wb.cell? ⟨w.heap.size, 7, none⟩ = some (.int .i64 0) := hz.c 7 rfl
            have f7 := hz.fr 7
            have z8 : wb.cell? ⟨w.heap.size, 8, none⟩ = some (.int .i64 0) := hz.c 8 rfl
            have f8 := hz.fr 8
            have z9 : wb.cell? ⟨w.heap.size, 9, none⟩ = some (.int .i64 0) := hz.c 9 rfl
            have f9 := hz.fr 9
            have z10 : wb.cell? ⟨w.heap.size, 10, none⟩ = some (.int .i64 0) := hz.c 10 rfl
            have f10 := hz.fr 10
            have z11 : wb.cell? ⟨w.heap.size, 11, none⟩ = some (.int .i64 0) := hz.c 11 rfl
            have f11 := hz.fr 11
            have z12 : wb.cell? ⟨w.heap.size, 12, none⟩ = some (.int .i64 0) := hz.c 12 rfl
            have f12 := hz.fr 12
            have KK := Lib.hid (put13 hz c)
            have BB := Lib.hid (below13 bel (show w.heap.size ≤ w.heap.size from Nat.le_refl _) c)
            clear hz bel
            go_wp2_with fail
            replace KK := KK.out
            replace BB := BB.out
            generalize (((((((((((((wb.setCell ⟨w.heap.size, 0, none⟩ (.int .i64 c.assign)).setCell ⟨w.heap.size, 1, none⟩ (.int .i64 c.branch)).setCell ⟨w.heap.size, 2, none⟩ (.int .i64 c.loop)).setCell ⟨w.heap.size, 3, none⟩ (.int .i64 c.call)).setCell ⟨w.heap.size, 4, none⟩ (.int .i64 c.output)).setCell ⟨w.heap.size, 5, none⟩ (.int .i64 c.release)).setCell ⟨w.heap.size, 6, none⟩ (.int .i64 c.load)).setCell ⟨w.heap.size, 7, none⟩ (.int .i64 c.index)).setCell ⟨w.heap.size, 8, none⟩ (.int .i64 c.arith)).setCell ⟨w.heap.size, 9, none⟩ (.int .i64 c.multiply)).setCell ⟨w.heap.size, 10, none⟩ (.int .i64 c.divide)).setCell ⟨w.heap.size, 11, none⟩ (.int .i64 c.compare)).setCell ⟨w.heap.size, 12, none⟩ (.int .i64 c.logic)) = w9 at KK BB ⊢
            obtain ⟨r0, r1, r2, r3, r4, r5, r6, r7, r8, r9, r10, r11, r12⟩ := c13 KK
            refine bodyPost_ret (v := .tuple #[.agg #[.int .i64 c.assign, .int .i64 c.branch, .int .i64 c.loop, .int .i64 c.call, .int .i64 c.output, .int .i64 c.release, .int .i64 c.load, .int .i64 c.index, .int .i64 c.arith, .int .i64 c.multiply, .int .i64 c.divide, .int .i64 c.compare, .int .i64 c.logic], .int .i64 0]) (by simp [results, Tryz.results9, go_sem, r0, r1, r2, r3, r4, r5, r6, r7, r8, r9, r10, r11, r12]) rfl ?_
            exact PaP.ok h5.out rfl BB
          · have q1 : ((k : Int) == (t.size : Int)) = false := by rw [beq_eq_false_iff_ne]; omega
            have hkl : (k : Int) + 1 ≤ (t.size : Int) := by omega
            have hwk : IntKind.i64.wrap ((k : Int) + 1) = (k : Int) + 1 := IntWalk.i64_in _ (by omega)
            have htn : ((k : Int) + 1).toNat = k + 1 := by omega
            have HR3 : Hid (P = Kp.runS (l.set i (V : Int)) (m.set i true) (Kp.parts (bs (t.extract (k + 1) t.size)))) := Lib.hid (by rw [HR2.out, HRS.out, if_pos (by omega)])
            have hsz : (t.extract (k + 1) t.size).size ≤ 8192 := by rw [ByteArray.size_extract]; omega
            have HME : Hid ((t.extract (k + 1) t.size).size < t.size) := Lib.hid (by rw [ByteArray.size_extract]; omega)
            clear hend
            go_wp2_with fail
            go_roundw
            case rel => exact ⟨_, _, _, rfl, hsz, HR3, HLM2, hL3, hM3, hz3, bel3⟩
            case measure => exact HME.out
    · have h5 : Hid (Kp.parseS (bs s) = (6, Kp.zeros)) := Lib.hid (by rw [HP0.out, (HRUN 6 l m (stepS_bad hok)).out]; rfl)
      clear hL hM HRUN
      go_upto_region 10 with (fail)
      have z0 : w8.cell? ⟨w.heap.size, 0, none⟩ = some (.int .i64 0) := hz.c 0 rfl
      have f0 := hz.fr 0
      have z1 : w8.cell? ⟨w.heap.size, 1, none⟩ = some (.int .i64 0) := hz.c 1 rfl
      have f1 := hz.fr 1
      have z2 : w8.cell? ⟨w.heap.size, 2, none⟩ = some (.int .i64 0) := hz.c 2 rfl
      have f2 := hz.fr 2
      have z3 : w8.cell? ⟨w.heap.size, 3, none⟩ = some (.int .i64 0) := hz.c 3 rfl
      have f3 := hz.fr 3
      have z4 : w8.cell? ⟨w.heap.size, 4, none⟩ = some (.int .i64 0) := hz.c 4 rfl
      have f4 := hz.fr 4
      have z5 : w8.cell? ⟨w.heap.size, 5, none⟩ = some (.int .i64 0) := hz.c 5 rfl
      have f5 := hz.fr 5
      have z6 : w8.cell? ⟨w.heap.size, 6, none⟩ = some (.int .i64 0) := hz.c 6 rfl
      have f6 := hz.fr 6
      have z7 : w8.cell? ⟨w.heap.size, 7, none⟩ = some (.int .i64 0) := hz.c 7 rfl
      have f7 := hz.fr 7
      have z8 : w8.cell? ⟨w.heap.size, 8, none⟩ = some (.int .i64 0) := hz.c 8 rfl
      have f8 := hz.fr 8
      have z9 : w8.cell? ⟨w.heap.size, 9, none⟩ = some (.int .i64 0) := hz.c 9 rfl
      have f9 := hz.fr 9
      have z10 : w8.cell? ⟨w.heap.size, 10, none⟩ = some (.int .i64 0) := hz.c 10 rfl
      have f10 := hz.fr 10
      have z11 : w8.cell? ⟨w.heap.size, 11, none⟩ = some (.int .i64 0) := hz.c 11 rfl
      have f11 := hz.fr 11
      have z12 : w8.cell? ⟨w.heap.size, 12, none⟩ = some (.int .i64 0) := hz.c 12 rfl
      have f12 := hz.fr 12
      have KK := Lib.hid (put13 hz ⟨0, 0, 0, 0, 0, 0, 0, 0, 0, 0, 0, 0, 0⟩)
      have BB := Lib.hid (below13 bel (show w.heap.size ≤ w.heap.size from Nat.le_refl _) ⟨0, 0, 0, 0, 0, 0, 0, 0, 0, 0, 0, 0, 0⟩)
      clear hz bel
      go_wp2_with fail
      replace KK := KK.out
      replace BB := BB.out
      (try dsimp only at KK BB)
      generalize (((((((((((((w8.setCell ⟨w.heap.size, 0, none⟩ (.int .i64 0)).setCell ⟨w.heap.size, 1, none⟩ (.int .i64 0)).setCell ⟨w.heap.size, 2, none⟩ (.int .i64 0)).setCell ⟨w.heap.size, 3, none⟩ (.int .i64 0)).setCell ⟨w.heap.size, 4, none⟩ (.int .i64 0)).setCell ⟨w.heap.size, 5, none⟩ (.int .i64 0)).setCell ⟨w.heap.size, 6, none⟩ (.int .i64 0)).setCell ⟨w.heap.size, 7, none⟩ (.int .i64 0)).setCell ⟨w.heap.size, 8, none⟩ (.int .i64 0)).setCell ⟨w.heap.size, 9, none⟩ (.int .i64 0)).setCell ⟨w.heap.size, 10, none⟩ (.int .i64 0)).setCell ⟨w.heap.size, 11, none⟩ (.int .i64 0)).setCell ⟨w.heap.size, 12, none⟩ (.int .i64 0)) = w9 at KK BB ⊢
      obtain ⟨r0, r1, r2, r3, r4, r5, r6, r7, r8, r9, r10, r11, r12⟩ := c13 KK
      refine bodyPost_ret (v := .tuple #[.agg #[.int .i64 0, .int .i64 0, .int .i64 0, .int .i64 0, .int .i64 0, .int .i64 0, .int .i64 0, .int .i64 0, .int .i64 0, .int .i64 0, .int .i64 0, .int .i64 0, .int .i64 0], .int .i64 6]) (by simp [results, Tryz.results9, go_sem, r0, r1, r2, r3, r4, r5, r6, r7, r8, r9, r10, r11, r12]) rfl ?_
      exact PaP.zero h5.out rfl BB
end Go.Proofs.YtmemkcaikajnnaaGreatDoor
