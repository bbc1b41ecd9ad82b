/- Walks: OfBdd at the chapter's diagram. -/
import Derived.Test.YtdbboeknknlolaaWe
import Derived.Test.YtdbboeknknlolaaWc
import Derived.Test.YtdbboeknknlolaaW6
namespace Go.Proofs.Ytdbboeknknlolaa
open Go.RowKit Go.Sort
set_option linter.unusedVariables false

theorem lit0 (W : World) (bb : Nat) (c0 : W.cell? ⟨bb, 0, none⟩ = some (.int .i64 2)) : Calls Try.prog 64 #[.int .i64 0, .pointer (some ⟨bb, 0, none⟩)] W fun r w' => r = .returned (.int .i64 (-20001)) ∧ W = w' := by
  go_enter Try.func64, Try.ntmps64
  go_wp2_with fail
  go_ret
  exact ⟨rfl, rfl⟩
theorem lit1 (W : World) (bb : Nat) (c0 : W.cell? ⟨bb, 0, none⟩ = some (.int .i64 2)) : Calls Try.prog 64 #[.int .i64 1, .pointer (some ⟨bb, 0, none⟩)] W fun r w' => r = .returned (.int .i64 20001) ∧ W = w' := by
  go_enter Try.func64, Try.ntmps64
  go_wp2_with fail
  go_ret
  exact ⟨rfl, rfl⟩
theorem lit2 (W : World) (bb : Nat) (c0 : W.cell? ⟨bb, 0, none⟩ = some (.int .i64 2)) : Calls Try.prog 64 #[.int .i64 2, .pointer (some ⟨bb, 0, none⟩)] W fun r w' => r = .returned (.int .i64 3) ∧ W = w' := by
  go_enter Try.func64, Try.ntmps64
  go_wp2_with fail
  go_ret
  exact ⟨rfl, rfl⟩
theorem lit3 (W : World) (bb : Nat) (c0 : W.cell? ⟨bb, 0, none⟩ = some (.int .i64 2)) : Calls Try.prog 64 #[.int .i64 3, .pointer (some ⟨bb, 0, none⟩)] W fun r w' => r = .returned (.int .i64 4) ∧ W = w' := by
  go_enter Try.func64, Try.ntmps64
  go_wp2_with fail
  go_ret
  exact ⟨rfl, rfl⟩
/-- a list of clauses does not lie in a block of two zeros and an empty list -/
theorem LL.off {W W' : World} {b : Nat} {A : Option Addr} {ds : List Cl} (h : LL W W.heap.size A ds) (hb : Blk W b #[.int .i64 0, .int .i64 0, .slice none 0 0]) (hd : 4 ≤ ds.length) (hz : ∀ c ∈ ds, (0 : Int) ∉ c.zs) (hk : ∀ q : Addr, q.block ≠ b → W'.cell? q = W.cell? q) (hs : W.heap.size ≤ W'.heap.size) : LL W' W'.heap.size A ds := by
  obtain ⟨T, hb⟩ := hb.blk
  refine ⟨⟨fun h0 => ?_⟩, fun c hc => ⟨⟨fun h0 => ?_⟩, (h.all c hc).rng, (h.all c hc).len⟩, h.len⟩
  · obtain ⟨b', off, e, hb', hcl⟩ := h.row.cells h0
    have hne : b' ≠ b := by
      rintro rfl
      obtain ⟨u, hu⟩ : ∃ u, (cvals ds)[3]? = some u := ⟨_, List.getElem?_eq_getElem (by rw [cvals_length]; omega)⟩
      have h3 := hcl 3 u hu
      rw [cell_of_row W b' (off + 3) _ _ _ hb] at h3
      rw [Array.getElem?_eq_none (by simp)] at h3
      cases h3
    exact ⟨b', off, e, by omega, fun k u hu => (hk ⟨b', off + k, none⟩ hne).trans (hcl k u hu)⟩
  · obtain ⟨b', off, e, hb', hcl⟩ := (h.all c hc).row.cells h0
    have hne : b' ≠ b := by
      rintro rfl
      rw [zvals_length] at h0
      have h3 := hcl 0 (.int .i64 c.zs[0]) (by unfold zvals; rw [List.getElem?_map, List.getElem?_eq_getElem h0]; rfl)
      rw [cell_of_row W b' (off + 0) _ _ _ hb] at h3
      have hmem : c.zs[0] ∈ c.zs := List.getElem_mem h0
      have h4 := (Array.getElem?_eq_some_iff.1 h3).1
      have h5 : off = 0 ∨ off = 1 ∨ off = 2 := by simp at h4; omega
      rcases h5 with rfl | rfl | rfl
      · simp at h3; exact hz c hc (by rw [h3]; exact hmem)
      · simp at h3; exact hz c hc (by rw [h3]; exact hmem)
      · simp at h3
    exact ⟨b', off, e, by omega, fun k u hu => (hk ⟨b', off + k, none⟩ hne).trans (hcl k u hu)⟩
theorem CoS.ll {w W : World} {cb n c : Nat} {A : Option Addr} {L : List Cl} (h : CoS w W cb (.slice A n c) L) (hn : L.length ≤ 1000) : LL W W.heap.size A L := by
  have hv : n = L.length := by
    rcases h.own.2 with ⟨e, e2⟩ | ⟨g, cap, cur, e, _⟩
    · injection e with _ e _; omega
    · injection e
  subst hv
  exact ⟨(RowS.of_own h.own (by decide)).row, fun c hc => (h.all c hc).zs, by omega⟩
theorem quiet_of_same {P : Program} {f : FuncId} {args : Array Value} {w : World} {n : Nat} {v : Value}
    (h : Calls P f args (w.drewN n) fun e w' => e = .returned v ∧ w.drewN n = w') : Calls P f args (w.drewN n) fun e w'' => e = .returned v ∧ ∃ m, w'' = w.drewN m :=
  h.mono fun _ _ ⟨he, hm⟩ => ⟨he, n, hm.symm⟩
abbrev ls0 : List (List Int) := [[4]]
abbrev ls1 : List (List Int) := [[4], [-3, 2], [-2, 3]]
abbrev ls2 : List (List Int) := [[4], [-3, 2], [-2, 3], [-4, -1, 3], [-4, 1], [-3, -1, 4]]
abbrev lsi (i : Nat) : List (List Int) := if i = 0 then ls0 else if i = 1 then ls1 else ls2
set_option maxRecDepth 100000 in
set_option maxHeartbeats 4000000 in
theorem ofbdd_any (nb : Nat) (w : World) (hn : Blk w nb ndC) : Calls Try.prog 48 #[.agg #[.int .i64 2, .slice (some ⟨nb, 0, none⟩) 2 2, .int .i64 3]] w fun r w' => (∃ A c ds, r = .returned (.agg #[.int .i64 4, .int .i64 2, .slice A ds.length c]) ∧ ct ds = canL ls2 ∧ LL w' w'.heap.size A ds) ∧ Below w.heap.size w w' := by
  have B := (Blk.new_ w #[.int .i64 2, .slice (some ⟨nb, 0, none⟩) 2 2, .int .i64 3] 54).alloc (.cells #[.int .i64 0, .int .i64 0, .slice none 0 0] 24)
  have R := Blk.new_ (w.alloc (.cells #[.int .i64 2, .slice (some ⟨nb, 0, none⟩) 2 2, .int .i64 3] 54)) #[.int .i64 0, .int .i64 0, .slice none 0 0] 24
  have b1 := (al1 w (.cells #[.int .i64 2, .slice (some ⟨nb, 0, none⟩) 2 2, .int .i64 3] 54)).alloc (by simp) (.cells #[.int .i64 0, .int .i64 0, .slice none 0 0] 24)
  have N := (hn.alloc (.cells #[.int .i64 2, .slice (some ⟨nb, 0, none⟩) 2 2, .int .i64 3] 54)).alloc (.cells #[.int .i64 0, .int .i64 0, .slice none 0 0] 24)
  have hz : ((w.alloc (.cells #[.int .i64 2, .slice (some ⟨nb, 0, none⟩) 2 2, .int .i64 3] 54)).alloc (.cells #[.int .i64 0, .int .i64 0, .slice none 0 0] 24)).heap.size = w.heap.size + 2 := by simp
  rw [World.size_alloc] at R
  clear hn
  go_enter Try.func48, Try.ntmps48
  go_upto_region 2 with (fail)
  revert B
  revert R
  revert b1
  revert N
  revert hz
  generalize (w.alloc (.cells #[.int .i64 2, .slice (some ⟨nb, 0, none⟩) 2 2, .int .i64 3] 54)).alloc (.cells #[.int .i64 0, .int .i64 0, .slice none 0 0] 24) = w0
  intro hz N b1 R B
  have X : CoS w0 (w0.alloc (.cells #[.slice none 0 0] 89)) w0.heap.size (.slice none 0 0) [] := ⟨One.new_ _ _ _, World.ownsRow_nil _ _ _ _, fun _ h => absurd h (by simp), al1 _ _, Nat.le_refl _⟩
  have HK := Lib.hid (fun W (h : Below w0.heap.size w0 W) => And.intro (B.below h (by omega)) (N.below h N.lt))
  have HR := Lib.hid (fun W (h : Below w0.heap.size w0 W) => R.below h (by omega))
  clear N B R
  go_upto_region 3 with (fail)
  revert X
  generalize w0.alloc (.cells #[.slice none 0 0] 89) = W1
  intro X
  have c0 := (HK.out _ X.bel).1.c 0 rfl
  have c1 := (HK.out _ X.bel).1.c 1 rfl
  have c2 := (HK.out _ X.bel).1.c 2 rfl
  rw [hz] at X
  have C3 := Lib.hid (lit3 W1 w.heap.size c0)
  have C4 := Lib.hid (add_any X #[.int .i64 4] [4] rfl (by intro x hx; unfold inI; simp at hx; omega) (by simp) (by simp) 1 rfl)
  go_wp2_with fail
  refine C3.out.mono ?_
  rintro r w3 ⟨rfl, rfl⟩
  go_wp2_with fail
  refine C4.out.mono ?_
  rintro r w4 ⟨rfl, v4, L4, h4, X4⟩
  clear C3 C4 X
  have HD := Lib.hid (fun (L' : List (List Int)) W (h : CoR w0 (w.heap.size + 2) L' (.returned (.tuple #[])) W) => h.get.2)
  have H4 : Hid (ct L4 = lsi 0) := Lib.hid (h4.trans (by decide))
  clear h4
  have c3 := (HK.out _ X4.bel).1.c 1 rfl
  clear c0 c1 c2
  go_wp2_with fail
  go_loopw [5, 6, 7, 8, 9, 10, 21] (fun v5 v6 v7 v8 v9 v10 iv wr => ∃ i : Nat, i ≤ 2 ∧ iv = .int .i64 i ∧ ∃ v L, Hid (ct L = lsi i) ∧ CoS w0 wr (w.heap.size + 2) v L) (fun _ _ _ _ _ _ iv _ => 2 - (intOf iv).toNat)
  case atStart => exact ⟨0, by omega, rfl, _, _, H4, X4⟩
  case round =>
    clear X4 H4 c3
    obtain ⟨i, hi, rfl, v, L, HL, Y⟩ := hrel
    by_cases hlt : i < 2
    · obtain rfl | rfl : i = 0 ∨ i = 1 := by omega
      · -- round 0
        have n0 := (HK.out _ Y.bel).2.c 0 rfl
        have n1 := (HK.out _ Y.bel).2.c 1 rfl
        have n2 := (HK.out _ Y.bel).2.c 2 rfl
        have X6 : CoS w0 (wr.alloc (.cells #[.int .i64 1, .int .i64 0, .int .i64 1] 51)) (w.heap.size + 2) v L := Y.to (al1 wr _)
        have P6 : Blk (wr.alloc (.cells #[.int .i64 1, .int .i64 0, .int .i64 1] 51)) wr.heap.size #[.int .i64 1, .int .i64 0, .int .i64 1] := Blk.new_ wr _ _
        have q0 := (Blk.new_ wr #[.int .i64 0, .int .i64 0, .int .i64 0] 51).fr 0
        have q1 := (Blk.new_ wr #[.int .i64 0, .int .i64 0, .int .i64 0] 51).fr 1
        have q2 := (Blk.new_ wr #[.int .i64 0, .int .i64 0, .int .i64 0] 51).fr 2
        clear Y
        go_upto_region 7 with (fail)
        revert P6
        revert X6
        generalize wr.alloc (.cells #[.int .i64 1, .int .i64 0, .int .i64 1] 51) = w6
        intro X6 P6
        clear n0 n1 n2 q0 q1 q2
        have c0 := (HK.out _ X6.bel).1.c 0 rfl
        have p0 := P6.c 0 rfl
        have p1 := P6.c 1 rfl
        have p2 := P6.c 2 rfl
        have Q0 := Lib.hid (fun n => lit0 (w6.drewN n) w.heap.size c0)
        have Q1 := Lib.hid (fun n => lit1 (w6.drewN n) w.heap.size c0)
        have XD := Lib.hid (fun n => X6.to (Gro.dr w6 n).bel)
        have HF := Lib.hid (fun n => fork_any (XD.out n) 3 2 (-20001) 20001 (by omega) (by omega) (by omega) (by omega) (by have := congrArg List.length HL.out; rw [List.length_map] at this; rw [this]; decide))
        have e1 : IntKind.i64.wrap 1 = 1 := rfl
        have e2 : IntKind.i64.wrap 2 = 2 := rfl
        have e3 : IntKind.i64.wrap 3 = 3 := rfl
        have e4 : IntKind.i64.wrap 4 = 4 := rfl
        go_quiet ((go_at_call 64; first | with_reducible exact quiet_of_same (Q0.out _) | with_reducible exact quiet_of_same (Q1.out _)))
        clear X6 P6 c0 p0 p1 p2 Q0 Q1 XD
        go_wp2_with fail
        refine (HF.out _).mono ?_
        rintro r w8 ⟨rfl, v8, L8, h8, X8⟩
        have h8b : ct L8 = addL (addL ls0 [-3, -2, 20001]) [-3, 2, (-20001)] := by rw [h8, HL.out]; rfl
        have l8 : L8.length ≤ 1000 := by have := congrArg List.length h8b; rw [List.length_map] at this; rw [this]; decide
        have A1 := Lib.hid (add_any X8 #[.int .i64 (-20001), .int .i64 (-2), .int .i64 3] [-20001, -2, 3] rfl (by intro x hx; unfold inI; simp at hx; omega) (by simp) l8 3 rfl)
        have H8 := Lib.hid h8b
        clear HF X8 HL h8 h8b l8
        go_wp2_with fail
        refine A1.out.mono ?_
        rintro r w9 ⟨rfl, v9, L9, h9, X9⟩
        rw [H8.out] at h9
        have l9 : L9.length ≤ 1000 := by have := congrArg List.length h9; rw [List.length_map] at this; rw [this]; decide
        have A2 := Lib.hid (add_any X9 #[.int .i64 20001, .int .i64 2, .int .i64 3] [20001, 2, 3] rfl (by intro x hx; unfold inI; simp at hx; omega) (by simp) l9 3 rfl)
        have H9 := Lib.hid h9
        clear A1 X9 H8 h9 l9
        go_wp2_with fail
        refine A2.out.mono ?_
        rintro r w10 ⟨rfl, v10, L10, h10, X10⟩
        rw [H9.out] at h10
        have H10 : Hid (ct L10 = lsi 1) := Lib.hid (h10.trans (by decide))
        clear A2 H9 h10
        go_wp2_with fail
        go_roundw
        case rel => exact ⟨1, by omega, by go_num, v10, L10, H10, X10⟩
        case measure => simp [intOf]
      · -- round 1
        have n0 := (HK.out _ Y.bel).2.c 3 rfl
        have n1 := (HK.out _ Y.bel).2.c 4 rfl
        have n2 := (HK.out _ Y.bel).2.c 5 rfl
        have X6 : CoS w0 (wr.alloc (.cells #[.int .i64 0, .int .i64 0, .int .i64 2] 51)) (w.heap.size + 2) v L := Y.to (al1 wr _)
        have P6 : Blk (wr.alloc (.cells #[.int .i64 0, .int .i64 0, .int .i64 2] 51)) wr.heap.size #[.int .i64 0, .int .i64 0, .int .i64 2] := Blk.new_ wr _ _
        have q0 := (Blk.new_ wr #[.int .i64 0, .int .i64 0, .int .i64 0] 51).fr 0
        have q1 := (Blk.new_ wr #[.int .i64 0, .int .i64 0, .int .i64 0] 51).fr 1
        have q2 := (Blk.new_ wr #[.int .i64 0, .int .i64 0, .int .i64 0] 51).fr 2
        clear Y
        go_upto_region 7 with (fail)
        revert P6
        revert X6
        generalize wr.alloc (.cells #[.int .i64 0, .int .i64 0, .int .i64 2] 51) = w6
        intro X6 P6
        clear n0 n1 n2 q0 q1 q2
        have c0 := (HK.out _ X6.bel).1.c 0 rfl
        have p0 := P6.c 0 rfl
        have p1 := P6.c 1 rfl
        have p2 := P6.c 2 rfl
        have Q0 := Lib.hid (fun n => lit0 (w6.drewN n) w.heap.size c0)
        have Q1 := Lib.hid (fun n => lit2 (w6.drewN n) w.heap.size c0)
        have XD := Lib.hid (fun n => X6.to (Gro.dr w6 n).bel)
        have HF := Lib.hid (fun n => fork_any (XD.out n) 4 1 (-20001) 3 (by omega) (by omega) (by omega) (by omega) (by have := congrArg List.length HL.out; rw [List.length_map] at this; rw [this]; decide))
        have e1 : IntKind.i64.wrap 1 = 1 := rfl
        have e2 : IntKind.i64.wrap 2 = 2 := rfl
        have e3 : IntKind.i64.wrap 3 = 3 := rfl
        have e4 : IntKind.i64.wrap 4 = 4 := rfl
        go_quiet ((go_at_call 64; first | with_reducible exact quiet_of_same (Q0.out _) | with_reducible exact quiet_of_same (Q1.out _)))
        clear X6 P6 c0 p0 p1 p2 Q0 Q1 XD
        go_wp2_with fail
        refine (HF.out _).mono ?_
        rintro r w8 ⟨rfl, v8, L8, h8, X8⟩
        have h8b : ct L8 = addL (addL ls1 [-4, -1, 3]) [-4, 1, (-20001)] := by rw [h8, HL.out]; rfl
        have l8 : L8.length ≤ 1000 := by have := congrArg List.length h8b; rw [List.length_map] at this; rw [this]; decide
        have A1 := Lib.hid (add_any X8 #[.int .i64 (-3), .int .i64 (-1), .int .i64 4] [-3, -1, 4] rfl (by intro x hx; unfold inI; simp at hx; omega) (by simp) l8 3 rfl)
        have H8 := Lib.hid h8b
        clear HF X8 HL h8 h8b l8
        go_wp2_with fail
        refine A1.out.mono ?_
        rintro r w9 ⟨rfl, v9, L9, h9, X9⟩
        rw [H8.out] at h9
        have l9 : L9.length ≤ 1000 := by have := congrArg List.length h9; rw [List.length_map] at this; rw [this]; decide
        have A2 := Lib.hid (add_any X9 #[.int .i64 20001, .int .i64 1, .int .i64 4] [20001, 1, 4] rfl (by intro x hx; unfold inI; simp at hx; omega) (by simp) l9 3 rfl)
        have H9 := Lib.hid h9
        clear A1 X9 H8 h9 l9
        go_wp2_with fail
        refine A2.out.mono ?_
        rintro r w10 ⟨rfl, v10, L10, h10, X10⟩
        rw [H9.out] at h10
        have H10 : Hid (ct L10 = lsi 2) := Lib.hid (h10.trans (by decide))
        clear A2 H9 h10
        go_wp2_with fail
        go_roundw
        case rel => exact ⟨2, by omega, by go_num, v10, L10, H10, X10⟩
        case measure => simp [intOf]
    · obtain rfl : i = 2 := by omega
      go_wp2_with fail
      obtain ⟨A, ca, rfl⟩ := own_slice_ Y.own
      have hL : L.length = 6 := by have := congrArg List.length HL.out; rw [List.length_map] at this; rw [this]; decide
      have Yd := Y.to (Gro.dr1 wr).bel
      have HC0 := canonical_any L A ca wr.drew (Yd.ll (by omega)) (by omega) (fun c hc => (Yd.all c hc).len)
      rw [HL.out, hL] at HC0
      have HC := Lib.hid HC0
      unfold NLL at HC
      have X := Yd
      have HB1 := Lib.hid b1
      have e4 : IntKind.i64.wrap 4 = 4 := rfl
      have hsz := X.be.lt
      clear HC0 Y Yd HL
      have HW := Lib.hid (fun W (h : CoS w0 W (w.heap.size + 2) (.slice A L.length ca) L) u0 u1 u2 => show (((W.setCell ⟨w.heap.size + 1, 0, none⟩ u0).setCell ⟨w.heap.size + 1, 1, none⟩ u1).setCell ⟨w.heap.size + 1, 2, none⟩ u2).cell? ⟨w.heap.size, 0, none⟩ = some (.int .i64 2) ∧ (((W.setCell ⟨w.heap.size + 1, 0, none⟩ u0).setCell ⟨w.heap.size + 1, 1, none⟩ u1).setCell ⟨w.heap.size + 1, 2, none⟩ u2).cell? ⟨w.heap.size, 1, none⟩ = some (.slice (some ⟨nb, 0, none⟩) 2 2) ∧ (((W.setCell ⟨w.heap.size + 1, 0, none⟩ u0).setCell ⟨w.heap.size + 1, 1, none⟩ u1).setCell ⟨w.heap.size + 1, 2, none⟩ u2).cell? ⟨w.heap.size + 2, 0, none⟩ = some (.slice A 6 ca) from by
        have B := (((HK.out _ h.bel).1.far (p := ⟨w.heap.size + 1, 0, none⟩) (by show w.heap.size ≠ w.heap.size + 1; omega) u0).far (p := ⟨w.heap.size + 1, 1, none⟩) (by show w.heap.size ≠ w.heap.size + 1; omega) u1).far (p := ⟨w.heap.size + 1, 2, none⟩) (by show w.heap.size ≠ w.heap.size + 1; omega) u2
        have C := ((h.be.far (p := ⟨w.heap.size + 1, 0, none⟩) (by show w.heap.size + 2 ≠ w.heap.size + 1; omega) u0).far (p := ⟨w.heap.size + 1, 1, none⟩) (by show w.heap.size + 2 ≠ w.heap.size + 1; omega) u1).far (p := ⟨w.heap.size + 1, 2, none⟩) (by show w.heap.size + 2 ≠ w.heap.size + 1; omega) u2
        rw [hL] at C
        exact ⟨B.c 0 rfl, B.c 1 rfl, C.c⟩)
      go_region_held3 (fun w' => w'.cell? ⟨w.heap.size, 0, none⟩ = some (.int .i64 2) ∧ w'.cell? ⟨w.heap.size, 1, none⟩ = some (.slice (some ⟨nb, 0, none⟩) 2 2) ∧ w'.cell? ⟨w.heap.size + 2, 0, none⟩ = some (.slice A 6 ca))
        (first
          | exact ⟨(HK.out _ X.bel).1.c 0 rfl, (HK.out _ X.bel).1.c 1 rfl, by have := X.be.c; rw [hL] at this; exact this⟩
          | exact HW.out _ X _ _ _)
        (first
          | (go_at_call 15; (with_reducible refine HC.out.mono ?_); rintro r w5 ⟨A2, c5, ds, rfl, h1, h2, h3⟩; replace X := X.to h3)
          | (have f0 := (HR.out _ X.bel).fr 0; have f1 := (HR.out _ X.bel).fr 1; have f2 := (HR.out _ X.bel).fr 2; have g0 := (HR.out _ X.bel).c 0 rfl; have g1 := (HR.out _ X.bel).c 1 rfl; have g2 := (HR.out _ X.bel).c 2 rfl; go_simp))
      have P := (((HR.out _ X.bel).put 0 (.int .i64 4)).put 1 (.int .i64 2)).put 2 (.slice A2 ds.length c5)
      have r0 := P.c 0 rfl
      have r1 := P.c 1 rfl
      have r2 := P.c 2 rfl
      have hdl : ds.length = 6 := by have := congrArg List.length h1; rw [List.length_map] at this; rw [this]; decide
      have hdz : ∀ c ∈ ds, (0 : Int) ∉ c.zs := fun c hc h0 => by
        have h4 : c.zs ∈ canL (lsi 2) := by rw [← h1]; exact List.mem_map_of_mem hc
        have h5 : ∀ z ∈ canL (lsi 2), (0 : Int) ∉ z := by decide
        exact h5 _ h4 h0
      have HL5 := Lib.hid (h2.off (W' := ((w5.setCell ⟨w.heap.size + 1, 0, none⟩ (.int .i64 4)).setCell ⟨w.heap.size + 1, 1, none⟩ (.int .i64 2)).setCell ⟨w.heap.size + 1, 2, none⟩ (.slice A2 ds.length c5)) (HR.out _ X.bel) (by omega) hdz (fun q hq => by
        rw [World.cell?_of_block (Below.heap_setCell _ _ _ _ (by exact hq)), World.cell?_of_block (Below.heap_setCell _ _ _ _ (by exact hq)), World.cell?_of_block (Below.heap_setCell _ _ _ _ (by exact hq))]) (by simp [World.setCell]))
      have HB5 := Lib.hid ((((HB1.out.trans (X.bel.mono (show w.heap.size ≤ w0.heap.size by omega))).setCell (p := ⟨w.heap.size + 1, 0, none⟩) (by show w.heap.size ≤ w.heap.size + 1; omega) (.int .i64 4)).setCell (p := ⟨w.heap.size + 1, 1, none⟩) (by show w.heap.size ≤ w.heap.size + 1; omega) (.int .i64 2)).setCell (p := ⟨w.heap.size + 1, 2, none⟩) (by show w.heap.size ≤ w.heap.size + 1; omega) (.slice A2 ds.length c5))
      have H1 := Lib.hid h1
      clear h1 h2 h3 X P hdl hdz HC HW HK HR
      go_wp2_with fail
      refine bodyPost_ret (v := .agg #[.int .i64 4, .int .i64 2, .slice A2 ds.length c5]) (by simp [results, Try.results48, go_sem, r0, r1, r2]) rfl ?_
      exact ⟨⟨A2, c5, ds, rfl, H1.out, HL5.out⟩, HB5.out⟩
end Go.Proofs.Ytdbboeknknlolaa
