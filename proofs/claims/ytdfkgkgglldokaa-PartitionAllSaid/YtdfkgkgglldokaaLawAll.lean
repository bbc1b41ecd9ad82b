/- The law PartitionAll, walked. -/
import Derived.Test.YtdfkgkgglldokaaWj
namespace Go.Proofs.Ytdfkgkgglldokaa
open Go.RowKit Go.Maps
set_option linter.unusedVariables false

set_option maxRecDepth 100000 in
set_option maxHeartbeats 1000000 in
theorem all_walk_neg (n : Int) (hn : n < 0) (A : Option Addr) (ca : Nat) (za : List Int) (w : World) (ha : Ints w w.heap.size A za) :
    Calls Try.prog 9 #[.int .i64 n, .slice A za.length ca] w fun e w' => e = .returned (.bool true) ∧ Below w.heap.size w w' := by
  go_enter Try.func9, Try.ntmps9
  go_wp2_with fail
  refine (known_ok w).mono ?_
  rintro e w1 ⟨rfl, B1⟩
  go_wp2_with fail
  refine (all_neg n hn _).mono ?_
  rintro e w2 ⟨rfl, rfl⟩
  go_wp2_with fail
  go_ret
  exact ⟨rfl, B1⟩

set_option maxRecDepth 100000 in
set_option maxHeartbeats 1000000 in
theorem all_walk_big (n : Int) (hn : 8 < n) (A : Option Addr) (ca : Nat) (za : List Int) (w : World) (ha : Ints w w.heap.size A za) :
    Calls Try.prog 9 #[.int .i64 n, .slice A za.length ca] w fun e w' => e = .returned (.bool true) ∧ Below w.heap.size w w' := by
  have hn0 : ¬ n < 0 := by omega
  go_enter Try.func9, Try.ntmps9
  go_wp2_with fail
  refine (known_ok w).mono ?_
  rintro e w1 ⟨rfl, B1⟩
  go_wp2_with fail
  refine (all_big n hn _).mono ?_
  rintro e w2 ⟨rfl, rfl⟩
  go_wp2_with fail
  go_ret
  exact ⟨rfl, B1⟩

/-- what the law sees of the row of lists -/
structure Seen (G : List (List Nat)) (n N : Nat) (g : Nat) (w : World) : Prop where
  at_ : ∀ i, i < N → ∃ g' c, w.cell? ⟨g, i, none⟩ = some (.slice (some ⟨g', 0, none⟩) n c) ∧ Ints w w.heap.size (some ⟨g', 0, none⟩) (Kp.zN (G.getD i []))
theorem Seen.drewN {G : List (List Nat)} {n N g : Nat} {w : World} (h : Seen G n N g w) (q : Nat) : Seen G n N g (w.drewN q) := ⟨fun i hi => by
  obtain ⟨g', c, h1, h2⟩ := h.at_ i hi
  exact ⟨g', c, h1, h2.drewN q⟩⟩
theorem AlInv.seen {n N g c : Nat} {w wr : World} {es : List (Nat × Nat)} (hn : n ≤ 8) (hN : es.length = N) (hG : (Kp.gen n 0).length = N) (h : AlInv (Kp.gen n 0) n w wr (.slice (some ⟨g, 0, none⟩) es.length c) es) : Seen (Kp.gen n 0) n N g wr := ⟨fun i hi => by
  have hi' : i < es.length := by omega
  obtain ⟨⟨g', c'⟩, he⟩ : ∃ p, es[i]? = some p := ⟨_, List.getElem?_eq_getElem hi'⟩
  obtain ⟨h1, h2, h3⟩ := h.el i g' c' he
  have hc := h.own.cellAt i (by omega)
  have ht := Kp.gen_at (n := n) (k := i) (by omega)
  refine ⟨g', c', ?_, h1.ints h1.lt (zN_wide ht.2 (by rw [ht.1]; omega))⟩
  rw [hc]
  unfold sv
  rw [List.getElem?_map, he]; rfl⟩

set_option maxRecDepth 100000 in
set_option maxHeartbeats 8000000 in
theorem all_walk_ok (n : Nat) (hn : n ≤ 8) (A : Option Addr) (ca : Nat) (za : List Int) (w : World) (ha : Ints w w.heap.size A za) :
    Calls Try.prog 9 #[.int .i64 (n : Int), .slice A za.length ca] w fun e w' => e = .returned (.bool true) ∧ Below w.heap.size w w' := by
  have hn0 : ¬ (n : Int) < 0 := by omega
  have hn8 : ¬ (8 : Int) < (n : Int) := by omega
  have hn9 : (n : Int) < 9 := by omega
  have hnn : (0 : Int) ≤ (n : Int) := by omega
  have hn9' : n < 9 := by omega
  go_enter Try.func9, Try.ntmps9
  go_wp2_with fail
  refine (known_ok w).mono ?_
  rintro e w1 ⟨rfl, B1⟩
  go_wp2_with fail
  refine (all_ok n hn _).mono ?_
  rintro e w2 ⟨A2, c2, es, rfl, hes, I⟩
  have hG := Kp.gen_length hn
  have hT := table_cell n hn w2
  obtain ⟨N, hN⟩ : ∃ N, Hid (Kp.bell n = N) := ⟨_, Lib.hid rfl⟩
  rw [hN.out] at hes hG hT
  have hNb : 0 < N ∧ N ≤ 4140 := by
    rw [← hN.out]
    have : ∀ m, m ≤ 8 → 0 < Kp.bell m ∧ Kp.bell m ≤ 4140 := by decide
    exact this n hn
  obtain ⟨g, cg, hv⟩ : ∃ g cg, Value.slice A2 es.length c2 = .slice (some ⟨g, 0, none⟩) es.length cg := by
    obtain ⟨g, cg, hv, _⟩ := I.own.form (by omega)
    exact ⟨g, cg, hv⟩
  injection hv with e1 e2 e3
  subst e1
  have S2 := I.seen hn hes hG
  have B2 := bTrans B1 I.bel
  have ha2 := ha.at B2
  have hat := Lib.hid (fun k => Kp.gen_at (n := n) (k := k))
  have hstep := Lib.hid (Kp.chk_step (Kp.gen_chk hn))
  have hhas := Lib.hid (Kp.gen_has (n := n) za)
  rw [hes]
  clear I B1 ha hes
  generalize Kp.gen n 0 = G at *
  have HG := Lib.hid hG
  clear hG
  have m3 : Below w2.heap.size w2 (w2.alloc (.cells #[.int .i64 1, .int .i64 1, .int .i64 2, .int .i64 5, .int .i64 15, .int .i64 52, .int .i64 203, .int .i64 877, .int .i64 4140] 3)) := (Below.refl _ _).alloc (Nat.le_refl _) _
  have S3 : Seen G n N g (w2.alloc (.cells #[.int .i64 1, .int .i64 1, .int .i64 2, .int .i64 5, .int .i64 15, .int .i64 52, .int .i64 203, .int .i64 877, .int .i64 4140] 3)) := ⟨fun i hi => by
    obtain ⟨g', c', h1, h2⟩ := S2.at_ i hi
    exact ⟨g', c', (m3.cell (p := ⟨g, i, none⟩) (World.block_lt_of_cell? _ ⟨g, i, none⟩ h1)).trans h1, h2.at m3⟩⟩
  have ha3 := ha2.at m3
  have B3 := bTrans B2 m3
  clear S2 ha2 B2 m3
  go_wp2_with fail
  generalize w2.alloc (.cells #[.int .i64 1, .int .i64 1, .int .i64 2, .int .i64 5, .int .i64 15, .int .i64 52, .int .i64 203, .int .i64 877, .int .i64 4140] 3) = w3 at *
  clear hT
  go_loopw [8, 57] (fun fv iv wr => ∃ (i q : Nat) (F : Bool), i ≤ N ∧ iv = .int .i64 i ∧ fv = .bool F ∧ wr = w3.drewN q ∧ Hid (F = true ↔ ∃ k, k < i ∧ Kp.zN (G.getD k []) = za)) (fun _ iv _ => N - (intOf iv).toNat)
  case atStart => exact ⟨0, 0, false, Nat.zero_le _, rfl, rfl, rfl, Lib.hid (Iff.intro (fun h => (by cases h)) (fun ⟨k, hk, _⟩ => absurd hk (Nat.not_lt_zero _)))⟩
  case round =>
    obtain ⟨i, q, F, hi, rfl, rfl, rfl, hF⟩ := hrel
    have S := S3.drewN q
    have hA : Ints (w3.drewN q) (w3.drewN q).heap.size A za := ha3.drewN q
    have B := bDrew B3 q
    clear S3 ha3 B3
    generalize hW : w3.drewN q = W at *
    by_cases hlt : i < N
    · obtain ⟨g1, c1, hc1, hI1⟩ := S.at_ i hlt
      have h1 := hat.out i (by rw [HG.out]; exact hlt)
      obtain ⟨ws, hws⟩ : ∃ ws, Hid (G.getD i [] = ws) := ⟨_, Lib.hid rfl⟩
      rw [hws.out] at h1 hI1
      have hl1 : Hid ((Kp.zN ws).length = n) := Lib.hid (by rw [Kp.zN_length]; exact h1.1)
      have hv1 : Hid (Kp.vB (Kp.zN ws) = true) := Lib.hid (by rw [Kp.vB_zN]; exact h1.2)
      have hne : ((n : Int) != (n : Int)) = false := by simp
      have HV : ∀ W, Ints W W.heap.size (some ⟨g1, 0, none⟩) (Kp.zN ws) → Calls Try.prog 15 #[.slice (some ⟨g1, 0, none⟩) n c1] W fun e w' => e = .returned (.bool true) ∧ W = w' := by
        intro W hW
        have := rvalid_any (some ⟨g1, 0, none⟩) c1 (Kp.zN ws) W hW (by rw [hl1.out]; omega)
        rw [hl1.out, hv1.out] at this
        exact this
      have HE : ∀ W, Ints W W.heap.size (some ⟨g1, 0, none⟩) (Kp.zN ws) → Ints W W.heap.size A za → Calls Try.prog 12 #[.slice A za.length ca, .slice (some ⟨g1, 0, none⟩) n c1] W fun e w' => e = .returned (.bool (za == Kp.zN ws)) ∧ ∃ q, w' = W.drewN q := by
        intro W hW hA
        have := seqi_short A (some ⟨g1, 0, none⟩) ca c1 za (Kp.zN ws) W hA hW (by rw [hl1.out]; exact hn)
        rw [hl1.out] at this
        exact this
      have HV' := Lib.hid HV
      have HE' := Lib.hid HE
      clear h1 HV HE
      have hFt : Hid (F = true → ∃ k, k < i + 1 ∧ Kp.zN (G.getD k []) = za) := Lib.hid (fun h => by obtain ⟨k, hk, e⟩ := hF.out.1 h; exact ⟨k, by omega, e⟩)
      have hFf : Hid (F = false → ((za == Kp.zN ws) = true ↔ ∃ k, k < i + 1 ∧ Kp.zN (G.getD k []) = za)) := Lib.hid (fun h => by
        rw [beq_iff_eq]
        constructor
        · intro e; exact ⟨i, by omega, by rw [hws.out]; exact e.symm⟩
        · rintro ⟨k, hk, e⟩
          by_cases hki : k = i
          · rw [hki, hws.out] at e; exact e.symm
          · have := hF.out.2 ⟨k, by omega, e⟩
            rw [h] at this; cases this)
      by_cases hi0 : i = 0
      · subst hi0
        go_wp2_with fail
        refine (HV'.out _ hI1).mono ?_
        rintro e w4 ⟨rfl, rfl⟩
        cases F with
        | true =>
          go_wp2_with fail
          go_roundw
          case rel => exact ⟨1, q, true, by omega, by go_num, rfl, hW.symm, Lib.hid ⟨fun _ => hFt.out trivial, fun _ => rfl⟩⟩
          case measure => simp [intOf]; omega
        | false =>
          go_wp2_with fail
          refine (HE'.out _ hI1 hA).mono ?_
          rintro e w4 ⟨rfl, q4, rfl⟩
          go_wp2_with fail
          go_roundw
          case rel => exact ⟨1, q + q4, _, by omega, by go_num, rfl, by rw [← hW]; simp [World.drewN]; omega, Lib.hid (hFf.out trivial)⟩
          case measure => simp [intOf]; omega
      · obtain ⟨k, rfl⟩ : ∃ k, i = k + 1 := ⟨i - 1, by omega⟩
        obtain ⟨g0, c0, hc0, hI0⟩ := S.at_ k (by omega)
        have h0 := hat.out k (by rw [HG.out]; omega)
        have hcm := (hstep.out k (by rw [HG.out]; exact hlt)).2
        obtain ⟨vs, hvs⟩ : ∃ vs, Hid (G.getD k [] = vs) := ⟨_, Lib.hid rfl⟩
        rw [hvs.out] at h0 hI0 hcm
        rw [hws.out] at hcm
        have hl0 : Hid ((Kp.zN vs).length = n) := Lib.hid (by rw [Kp.zN_length]; exact h0.1)
        have HC : ∀ W, Ints W W.heap.size (some ⟨g0, 0, none⟩) (Kp.zN vs) → Ints W W.heap.size (some ⟨g1, 0, none⟩) (Kp.zN ws) → Calls Try.prog 37 #[.slice (some ⟨g0, 0, none⟩) n c0, .slice (some ⟨g1, 0, none⟩) n c1] W fun e w' => e = .returned (.int .i64 (-1)) ∧ W = w' := by
          intro W hW0 hW1
          have := scmp_any (some ⟨g0, 0, none⟩) (some ⟨g1, 0, none⟩) c0 c1 (Kp.zN vs) (Kp.zN ws) W hW0 hW1 (by rw [hl0.out]; omega) (by rw [hl1.out]; omega)
          rw [hl0.out, hl1.out, Kp.lt_cmp hcm] at this
          exact this
        have HC' := Lib.hid HC
        have hk1 : (k : Int) < (N : Int) := by omega
        have hk2 : (k : Int) + 1 < (N : Int) := by omega
        have hk3 : (0 : Int) < (k : Int) + 1 := by omega
        have hk4 : k < N := by omega
        clear HC hcm h0 hi0
        go_wp2_with fail
        refine (HV'.out _ hI1).mono ?_
        rintro e w4 ⟨rfl, rfl⟩
        go_wp2_with fail
        refine (HC'.out _ hI0 hI1).mono ?_
        rintro e w4 ⟨rfl, rfl⟩
        cases F with
        | true =>
          go_wp2_with fail
          go_roundw
          case rel => exact ⟨k + 1 + 1, q, true, by omega, by go_num, rfl, hW.symm, Lib.hid ⟨fun _ => hFt.out trivial, fun _ => rfl⟩⟩
          case measure => simp [intOf]; omega
        | false =>
          go_wp2_with fail
          refine (HE'.out _ hI1 hA).mono ?_
          rintro e w4 ⟨rfl, q4, rfl⟩
          go_wp2_with fail
          go_roundw
          case rel => exact ⟨k + 1 + 1, q + q4, _, by omega, by go_num, rfl, by rw [← hW]; simp [World.drewN]; omega, Lib.hid (hFf.out trivial)⟩
          case measure => simp [intOf]; omega
    · obtain rfl : i = N := by omega
      have hfin : Hid (F = true ↔ za.length = n ∧ Kp.vB za = true) := Lib.hid (by rw [hF.out, ← hhas.out, HG.out])
      by_cases hl : za.length = n
      · have hVA := rvalid_any A ca za W hA (by omega)
        obtain ⟨V, hV⟩ : ∃ V, Hid (Kp.vB za = V) := ⟨_, Lib.hid rfl⟩
        rw [hV.out] at hVA
        have hFV : F = V := by
          have h : F = true ↔ V = true := by
            have h := hfin.out
            rw [hV.out] at h
            exact ⟨fun e => (h.1 e).2, fun e => h.2 ⟨hl, e⟩⟩
          exact Bool.eq_iff_iff.2 h
        subst hFV
        have hl2 : ((za.length : Int) == (n : Int)) = true := by simp; omega
        have hVA' := Lib.hid hVA
        clear hVA hl
        go_wp2_with fail
        refine hVA'.out.mono ?_
        rintro e w4 ⟨rfl, rfl⟩
        go_wp2_with fail
        go_ret
        exact ⟨ret_bool (by simp), B⟩
      · have hl2 : ((za.length : Int) == (n : Int)) = false := by simp; omega
        have hFV : F = false := by
          cases F with
          | false => rfl
          | true => exact absurd (hfin.out.1 rfl).1 hl
        subst hFV
        clear hl
        go_wp2_with fail
        go_ret
        exact ⟨ret_bool (by simp), B⟩
theorem all_walk (n : Int) (A : Option Addr) (ca : Nat) (za : List Int) (w : World) (ha : Ints w w.heap.size A za) :
    Calls Try.prog 9 #[.int .i64 n, .slice A za.length ca] w fun e w' => e = .returned (.bool true) ∧ Below w.heap.size w w' := by
  by_cases h0 : n < 0
  · exact all_walk_neg n h0 A ca za w ha
  · by_cases h8 : 8 < n
    · exact all_walk_big n h8 A ca za w ha
    · obtain ⟨m, rfl⟩ : ∃ m : Nat, n = (m : Int) := ⟨n.toNat, by omega⟩
      exact all_walk_ok m (by omega) A ca za w ha
end Go.Proofs.Ytdfkgkgglldokaa
