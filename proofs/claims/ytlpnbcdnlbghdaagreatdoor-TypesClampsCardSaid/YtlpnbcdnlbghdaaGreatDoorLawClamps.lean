/- Walk: the law TypesClamps. -/
import Derived.Test.YtlpnbcdnlbghdaaGreatDoorRs
import Derived.Test.YtlpnbcdnlbghdaaGreatDoorKw
import Derived.Test.YtlpnbcdnlbghdaaGreatDoorRe
namespace Go.Proofs.YtlpnbcdnlbghdaaGreatDoor
open Go.RowKit Go.Sort
set_option linter.unusedVariables false

/-- what Clamp makes is contained -/
theorem con_clamp {y : List Sl × Int} (hok : ∀ s ∈ y.1, G.sOk s) (zs : List Int) (h : (clR y zs).2 = 0) : conB y (clR y zs).1 = true ∧ decide ((clR y zs).1 = zs) = conB y zs := by
  obtain ⟨ys, c⟩ := y
  unfold clR at h ⊢
  dsimp only at h hok ⊢
  by_cases h0 : c ≠ 0
  · rw [if_pos h0] at h; exact absurd h h0
  rw [if_neg h0] at h ⊢
  by_cases hl : zs.length ≠ ys.length
  · rw [if_pos hl] at h; exact absurd h (by decide)
  rw [if_neg hl]
  have h0' : c = 0 := by simpa using h0
  have hl' : zs.length = ys.length := by simpa using hl
  have hcl : (clL zs ys).length = ys.length := by unfold clL; rw [List.length_zipWith]; omega
  have key : ∀ (zs : List Int) (ys : List Sl), zs.length = ys.length → (∀ s ∈ ys, G.sOk s) → allIn (clL zs ys) ys = true ∧ (clL zs ys = zs ↔ allIn zs ys = true) := by
    intro zs
    induction zs with
    | nil => intro ys hl _; cases ys with
      | nil => exact ⟨rfl, fun _ => rfl, fun _ => rfl⟩
      | cons _ _ => simp at hl
    | cons z zs ih =>
      intro ys hl hk
      cases ys with
      | nil => simp at hl
      | cons s ys =>
        have i1 := ih ys (by simpa using hl) (fun t ht => hk t (by simp [ht]))
        have hs := hk s (by simp)
        unfold G.sOk at hs
        have e1 : clL (z :: zs) (s :: ys) = clZ z s :: clL zs ys := rfl
        have e2 : inB (clZ z s) s = true := by
          unfold inB clZ
          rw [Bool.and_eq_true, decide_eq_true_eq, decide_eq_true_eq]
          omega
        have e3 : clZ z s = z ↔ inB z s = true := by
          unfold inB clZ
          rw [Bool.and_eq_true, decide_eq_true_eq, decide_eq_true_eq]
          omega
        rw [e1]
        constructor
        · show (inB _ s && allIn (clL zs ys) ys) = true
          rw [e2, i1.1]; rfl
        · rw [List.cons.injEq, e3, i1.2]
          show _ ↔ (inB z s && allIn zs ys) = true
          rw [Bool.and_eq_true]
  have k := key zs ys hl' hok
  constructor
  · show (decide (c = 0) && decide ((clL zs ys).length = ys.length) && allIn (clL zs ys) ys) = true
    rw [decide_eq_true h0', decide_eq_true hcl, k.1]; rfl
  · show decide (clL zs ys = zs) = (decide (c = 0) && decide (zs.length = ys.length) && allIn zs ys)
    rw [decide_eq_true h0', decide_eq_true hl', Bool.true_and, Bool.true_and]
    cases hb : allIn zs ys with
    | true => exact decide_eq_true (k.2.2 hb)
    | false => exact decide_eq_false fun hh => by have := k.2.1 hh; rw [hb] at this; cases this
theorem zs_refl (a : List Int) : decide (a = a) = true := decide_eq_true rfl
set_option maxRecDepth 100000 in
set_option maxHeartbeats 4000000 in
theorem clamps_walk (e : G) (A : Option Addr) (zs : List Int) (c : Nat) (w : World) (he : G.In w w.heap.size e) (hz : Zs w w.heap.size A zs) (hT : Tb w.heap.size w) :
    Calls Tryz.prog 9 #[e.val, .slice A zs.length c] w fun r w' => r = .returned (.bool true) ∧ Below w.heap.size w w' := by
  have X := Eb.start w e 26
  have HT := Lib.hid (fun W (i : Below w.heap.size w W) => hT.at i)
  have HZ := Lib.hid (fun W (i : Below w.heap.size w W) => hz.at i)
  have hzl := hz.len
  have F1 := Lib.hid (fun W (i : Eb w W e) => few_any e W (he.at i.bel))
  have K1 := Lib.hid (fun W (i : Eb w W e) => clamp_any e zs A c W (he.at i.bel) (hz.at i.bel) (hT.at i.bel))
  have K2 := Lib.hid (fun (h : e.nodes ≤ 1000000) W (i : Eb w W e) => rclamp_any e zs A c W (he.at i.bel) (hz.at i.bel) h)
  have C1 := Lib.hid (fun W (i : Eb w W e) => contains_any e zs A c W (he.at i.bel) (hz.at i.bel) (hT.at i.bel))
  have C2 := Lib.hid (fun (h : e.nodes ≤ 1000000) W (i : Eb w W e) => rcontains_any e zs A c W (he.at i.bel) (hz.at i.bel) h)
  have C3 := Lib.hid (fun (us : List Int) B d W (i : Eb w W e) (hu : Zs W W.heap.size B us) => contains_any e us B d W (he.at i.bel) hu (hT.at i.bel))
  have HN := Lib.hid (show fewB e = true → e.nodes ≤ 1000000 from few_nodes)
  obtain ⟨_, hok⟩ := G.scalR_ok (nmB := nmB) e
  obtain ⟨y, hy⟩ : ∃ y, Hid (G.scalR nmB e = y) := ⟨_, Lib.hid rfl⟩
  rw [hy.out] at K1 K2 C1 C2 hok
  have C3' := Lib.hid (fun (us : List Int) B d W (i : Eb w W e) (hu : Zs W W.heap.size B us) => by have := C3.out us B d W i hu; rw [hy.out] at this; exact this)
  have HCC := Lib.hid (con_clamp hok zs)
  obtain ⟨v, hv⟩ : ∃ v, Hid (clR y zs = v) := ⟨_, Lib.hid rfl⟩
  obtain ⟨b, hb⟩ : ∃ b, Hid (conB y zs = b) := ⟨_, Lib.hid rfl⟩
  rw [hv.out] at K1 K2 HCC
  rw [hb.out] at C1 C2 HCC
  clear he hT hy hok C3 hz hv hb
  go_enter Tryz.func9, Tryz.ntmps9
  go_upto_region 1 with (fail)
  revert X
  generalize w.alloc (.cells #[.int .i64 e.kd, .int .i64 e.lo, .int .i64 e.hi, .int .i64 e.sz, .string e.nm, .slice e.na e.ns.length e.nc, .slice e.ad e.ks.length e.cap] 26) = w1
  intro X
  go_wp2_with fail
  refine (known_any _ (HT.out _ X.bel)).mono ?_
  rintro r w2 ⟨rfl, b2⟩
  replace X := X.below b2
  clear b2
  obtain ⟨k0, k1, k2, k3, k4, k5, k6⟩ := box_cells X.be
  by_cases hl100 : 100 < zs.length
  · have q100 : (100 : Int) < ((zs.length : Nat) : Int) := by omega
    cases h1 : fewB e with
    | false =>
      rw [h1] at F1
      clear h1
      go_wp2_with fail
      refine (F1.out _ X).mono ?_
      rintro r w3 ⟨rfl, b3⟩
      have b4 := (X.below b3).bel
      go_wp2_with fail
      go_ret
      exact ⟨rfl, b4⟩
    | true =>
      rw [h1] at F1
      clear h1
      go_wp2_with fail
      refine (F1.out _ X).mono ?_
      rintro r w3 ⟨rfl, b3⟩
      have b4 := (X.below b3).bel
      go_wp2_with fail
      go_ret
      exact ⟨rfl, b4⟩
  have q100 : ¬ (100 : Int) < ((zs.length : Nat) : Int) := by omega
  cases h1 : fewB e with
  | false =>
    rw [h1] at F1
    clear h1
    go_wp2_with fail
    refine (F1.out _ X).mono ?_
    rintro r w3 ⟨rfl, b3⟩
    have b4 := (X.below b3).bel
    go_wp2_with fail
    go_ret
    exact ⟨rfl, b4⟩
  | true =>
    rw [h1] at F1
    have K2' := Lib.hid (K2.out (HN.out h1))
    have C2' := Lib.hid (C2.out (HN.out h1))
    clear h1 HN K2 C2
    go_wp2_with fail
    refine (F1.out _ X).mono ?_
    rintro r w3 ⟨rfl, b3⟩
    replace X := X.below b3
    clear b3 F1 k0 k1 k2 k3 k4 k5 k6
    obtain ⟨k0, k1, k2, k3, k4, k5, k6⟩ := box_cells X.be
    go_wp2_with fail
    refine (K1.out _ X).mono ?_
    rintro r w4 ⟨A1, c1, rfl, Z1, b4⟩
    replace X := X.below b4
    clear b4 K1 k0 k1 k2 k3 k4 k5 k6
    obtain ⟨k0, k1, k2, k3, k4, k5, k6⟩ := box_cells X.be
    go_wp2_with fail
    refine (K2'.out _ X).mono ?_
    rintro r w5 ⟨A2, c2, rfl, Z2, b5⟩
    replace X := X.below b5
    replace Z1 := Z1.at b5
    clear b5 K2' k0 k1 k2 k3 k4 k5 k6
    have Z := Lib.hid (fun d os => below_regrown w5 d os)
    have Q1 := Lib.hid (show ∀ d os, Calls Tryz.prog 32 #[e.val, .slice A zs.length c] (grow (redrawn w5 d) os) fun r w'' => r = .returned (.bool b) ∧ ∃ p : Regrown, w'' = grow (redrawn w5 p.d) p.os from
      fun d os => Calls.regrown_of (C1.out _ (X.below (Z.out d os))))
    have Q2 := Lib.hid (show ∀ d os, Calls Tryz.prog 33 #[e.val, .slice A zs.length c] (grow (redrawn w5 d) os) fun r w'' => r = .returned (.bool b) ∧ ∃ p : Regrown, w'' = grow (redrawn w5 p.d) p.os from
      fun d os => Calls.regrown_of (C2'.out _ (X.below (Z.out d os))))
    have Q3 := Lib.hid (show ∀ d os, Calls Tryz.prog 34 #[.slice A1 v.1.length c1, .slice A2 v.1.length c2] (grow (redrawn w5 d) os) fun r w'' => r = .returned (.bool true) ∧ ∃ p : Regrown, w'' = grow (redrawn w5 p.d) p.os from
      fun d os => Calls.regrown_of (by have := zequal_any v.1 v.1 A1 A2 c1 c2 _ (Z1.at (Z.out d os)) (Z2.at (Z.out d os)); rw [zs_refl] at this; exact this))
    obtain ⟨k0, k1, k2, k3, k4, k5, k6⟩ := box_cells X.be
    have ke0 := cell_regrown k0
    have ke1 := cell_regrown k1
    have ke2 := cell_regrown k2
    have ke3 := cell_regrown k3
    have ke4 := cell_regrown k4
    have ke5 := cell_regrown k5
    have ke6 := cell_regrown k6
    have qb : (b != b) = false := by simp
    have qb2 : (b == b) = true := by simp
    have qv : (v.2 != v.2) = false := by simp
    clear k0 k1 k2 k3 k4 k5 k6 C2'
    go_upto_region 7 with (fail)
    refine wp_region_quiet_below (by kernel_rfl) (by kernel_rfl) ?_
    repeat (quiet_step ((first
      | (go_at_call 32; exact Q1.out _ _)
      | (go_at_call 33; exact Q2.out _ _)
      | (go_at_call 34; exact Q3.out _ _))))
    refine wpQuiet_nil ?_
    intro _ hw'
    obtain ⟨⟨dq, osq⟩, hw''⟩ := hw'
    subst hw''
    clear ke0 ke1 ke2 ke3 ke4 ke5 ke6 Q1 Q2 Q3
    have bq := below_regrown w5 dq osq
    replace X := X.below bq
    replace Z1 := Z1.at bq
    clear bq Z Z2
    revert X Z1
    generalize grow (redrawn w5 dq) osq = w6
    intro X Z1
    by_cases hv2 : v.2 = 0
    · have q9 : (v.2 != 0) = false := by rw [hv2]; rfl
      obtain ⟨hc1, hc2⟩ := HCC.out hv2
      have Z := Lib.hid (fun d os => below_regrown w6 d os)
      have Q1 := Lib.hid (show ∀ d os, Calls Tryz.prog 32 #[e.val, .slice A zs.length c] (grow (redrawn w6 d) os) fun r w'' => r = .returned (.bool b) ∧ ∃ p : Regrown, w'' = grow (redrawn w6 p.d) p.os from
        fun d os => Calls.regrown_of (C1.out _ (X.below (Z.out d os))))
      have Q2 := Lib.hid (show ∀ d os, Calls Tryz.prog 32 #[e.val, .slice A1 v.1.length c1] (grow (redrawn w6 d) os) fun r w'' => r = .returned (.bool true) ∧ ∃ p : Regrown, w'' = grow (redrawn w6 p.d) p.os from
        fun d os => Calls.regrown_of (by have := C3'.out v.1 A1 c1 _ (X.below (Z.out d os)) (Z1.at (Z.out d os)); rw [hc1] at this; exact this))
      have Q3 := Lib.hid (show ∀ d os, Calls Tryz.prog 34 #[.slice A1 v.1.length c1, .slice A zs.length c] (grow (redrawn w6 d) os) fun r w'' => r = .returned (.bool b) ∧ ∃ p : Regrown, w'' = grow (redrawn w6 p.d) p.os from
        fun d os => Calls.regrown_of (by have := zequal_any v.1 zs A1 A c1 c _ (Z1.at (Z.out d os)) (HZ.out _ (X.below (Z.out d os)).bel); rw [hc2] at this; exact this))
      obtain ⟨k0, k1, k2, k3, k4, k5, k6⟩ := box_cells X.be
      have ke0 := cell_regrown k0
      have ke1 := cell_regrown k1
      have ke2 := cell_regrown k2
      have ke3 := cell_regrown k3
      have ke4 := cell_regrown k4
      have ke5 := cell_regrown k5
      have ke6 := cell_regrown k6
      clear k0 k1 k2 k3 k4 k5 k6 HCC C1 C3' Z Z1 hc1 hc2 hv2
      go_upto_region 9 with (fail)
      refine wp_region_quiet_below (by kernel_rfl) (by kernel_rfl) ?_
      repeat (quiet_step ((first
        | (go_at_call 32; with_reducible exact Q2.out _ _)
        | (go_at_call 32; with_reducible exact Q1.out _ _)
        | (go_at_call 34; exact Q3.out _ _))))
      refine wpQuiet_nil ?_
      intro _ hw'
      obtain ⟨⟨dq, osq⟩, hw''⟩ := hw'
      subst hw''
      go_wp2_with fail
      go_ret
      exact ⟨rfl, bTrans X.bel (below_regrown w6 dq osq)⟩
    · have q9 : (v.2 != 0) = true := by simpa using hv2
      have b9 := X.bel
      clear hv2 HCC C1 C3' Z1 X
      go_upto_region 9 with (fail)
      go_quiet (fail)
      go_wp2_with fail
      go_ret
      exact ⟨rfl, bDrew b9 _⟩
end Go.Proofs.YtlpnbcdnlbghdaaGreatDoor
