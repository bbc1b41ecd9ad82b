/- Walks: the reference's check of an expression. -/
import Derived.Test.YtkpomjdablopaabGreatDoorRb
namespace Go.Proofs.YtkpomjdablopaabGreatDoor
open Go.RowKit Go.Sort
set_option linter.unusedVariables false

/-- the contract of the form -/
def FmE (e : E) : Prop := ∀ w : World, E.In w w.heap.size e → Calls Tryz.prog 57 #[e.val] w fun r w' => r = .returned (.bool e.rform) ∧ Below w.heap.size w w'
theorem nm_empty {s : ByteArray} (h : s.size = 0) : s.toList.isEmpty = true ∧ s = ⟨#[]⟩ := by
  have : s = ⟨#[]⟩ := empty_bs h
  subst this
  exact ⟨by rw [bs_toList]; rfl, rfl⟩
theorem nm_full {s : ByteArray} (h : s.size ≠ 0) : s.toList.isEmpty = false ∧ s.toList ≠ [] ∧ s ≠ ⟨#[]⟩ := by
  have h1 : s.toList ≠ [] := by
    intro hh
    rw [bs_toList] at hh
    have := congrArg List.length hh
    rw [bs_length] at this
    exact h this
  refine ⟨by simpa using h1, h1, ?_⟩
  rintro rfl; exact h rfl
set_option maxRecDepth 100000 in
set_option maxHeartbeats 8000000 in
theorem rform_any (e : E) : FmE e := by
  induction e using E.ind with
  | h e ih =>
  intro w hin
  have IH := Lib.hid ih
  have hl := hin.l
  have hlen := hin.nd.len
  have HF := Lib.hid (E.rform_eq e)
  have X := Eb.start w e 27
  have b1 := X.bel
  obtain ⟨A, hA⟩ : ∃ A, Hid (e.ad = A) := ⟨_, Lib.hid rfl⟩
  rw [hA.out] at hl
  have c0 : (w.alloc (.cells e.box 27)).cell? ⟨w.heap.size, 0, none⟩ = some (.int .i64 e.op) := X.be.c 0 rfl
  clear ih
  obtain ⟨z, hz⟩ : ∃ z, Hid (E.arity1 e.op = z) := ⟨_, Lib.hid rfl⟩
  have hk : ∀ w : World, Calls Tryz.prog 68 #[.int .i64 e.op] w fun r w' => r = .returned (.int .i64 z) ∧ w = w' := fun w => by rw [← hz.out]; exact kids_any _ _
  have HK := Lib.hid hk
  clear hk c0
  by_cases hzl : z = (e.ks.length : Int)
  case neg =>
    have qz : (z != (e.ks.length : Int)) = true := by simpa using hzl
    have HR : Hid (false = e.rform) := Lib.hid (by
      have : (E.arity1 e.op == (e.ks.length : Int)) = false := by rw [hz.out]; simpa using hzl
      rw [HF.out]; unfold E.rform1; rw [this]; rfl)
    clear hzl
    go_enter Tryz.func57, Tryz.ntmps57
    go_wp2_with fail
    go_quiet ((go_at_call 68; exact qsame (HK.out _)))
    go_wp2_with fail
    go_ret
    exact ⟨ret_bool HR.out, bDrew b1 _⟩
  case pos =>
    subst hzl
    by_cases hc : e.op ≠ 0 ∧ e.n ≠ 0
    · have HR : Hid (false = e.rform) := Lib.hid (by
        have : E.rform1 e = false := by
          rw [Bool.eq_false_iff]; intro hh; unfold E.rform1 at hh
          simp only [Bool.and_eq_true, Bool.or_eq_true, beq_iff_eq, decide_eq_true_eq, Bool.not_eq_true', Bool.or_eq_false_iff, beq_eq_false_iff_ne] at hh
          omega
        rw [HF.out, this]; rfl)
      have q0 : (e.op != 0) = true := by rw [Bool.eq_iff_iff]; simp; omega
      have qn : (e.n != 0) = true := by rw [Bool.eq_iff_iff]; simp; omega
      clear hc
      go_enter Tryz.func57, Tryz.ntmps57
      go_wp2_with fail
      go_quiet ((go_at_call 68; exact qsame (HK.out _)))
      go_wp2_with fail
      go_ret
      exact ⟨ret_bool HR.out, bDrew b1 _⟩
    by_cases hc : e.op = 0 ∧ e.nm.size ≠ 0
    · have HR : Hid (false = e.rform) := Lib.hid (by
        have : E.rform1 e = false := by
          rw [Bool.eq_false_iff]; intro hh; unfold E.rform1 at hh
          simp only [Bool.and_eq_true, Bool.or_eq_true, beq_iff_eq, decide_eq_true_eq, Bool.not_eq_true', Bool.or_eq_false_iff, beq_eq_false_iff_ne] at hh
          omega
        rw [HF.out, this]; rfl)
      have q0 : (e.op != 0) = false := by rw [Bool.eq_iff_iff]; simp; omega
      have q3 : (e.op != 3) = true := by rw [Bool.eq_iff_iff]; simp; omega
      have q4 : (e.op != 4) = true := by rw [Bool.eq_iff_iff]; simp; omega
      obtain ⟨s1, s2, s3⟩ := nm_full hc.2
      clear hc
      go_enter Tryz.func57, Tryz.ntmps57
      go_wp2_with fail
      go_quiet ((go_at_call 68; exact qsame (HK.out _)))
      go_wp2_with fail
      go_ret
      exact ⟨ret_bool HR.out, bDrew b1 _⟩
    by_cases hc : (e.op ≠ 0 ∧ e.op ≠ 3 ∧ e.op ≠ 4) ∧ e.nm.size ≠ 0
    · have HR : Hid (false = e.rform) := Lib.hid (by
        have : E.rform1 e = false := by
          rw [Bool.eq_false_iff]; intro hh; unfold E.rform1 at hh
          simp only [Bool.and_eq_true, Bool.or_eq_true, beq_iff_eq, decide_eq_true_eq, Bool.not_eq_true', Bool.or_eq_false_iff, beq_eq_false_iff_ne] at hh
          omega
        rw [HF.out, this]; rfl)
      have q0 : (e.op != 0) = true := by rw [Bool.eq_iff_iff]; simp; omega
      have qn : (e.n != 0) = false := by rw [Bool.eq_iff_iff]; simp; omega
      have q3 : (e.op != 3) = true := by rw [Bool.eq_iff_iff]; simp; omega
      have q4 : (e.op != 4) = true := by rw [Bool.eq_iff_iff]; simp; omega
      obtain ⟨s1, s2, s3⟩ := nm_full hc.2
      clear hc
      go_enter Tryz.func57, Tryz.ntmps57
      go_wp2_with fail
      go_quiet ((go_at_call 68; exact qsame (HK.out _)))
      go_wp2_with fail
      go_ret
      exact ⟨ret_bool HR.out, bDrew b1 _⟩
    have H1 : Hid (¬ (e.op = 4 ∨ e.op = 5) → e.rform = e.ks.all E.rform) := Lib.hid (fun h45 => by
      have hz2 := hz.out
      have : E.rform1 e = true := by
        unfold E.rform1
        simp only [Bool.and_eq_true, Bool.or_eq_true, beq_iff_eq, decide_eq_true_eq, Bool.not_eq_true', Bool.or_eq_false_iff, beq_eq_false_iff_ne]
        omega
      rw [HF.out, this]; rfl)
    have H2 : Hid (e.op = 4 ∨ e.op = 5 → e.rform = (e.rplace && e.ks.all E.rform)) := Lib.hid (fun h45 => by
      have : E.rform1 e = e.rplace := by
        have e1 : (E.arity1 e.op == (e.ks.length : Int)) = true := by rw [beq_iff_eq]; exact hz.out
        have e2 : (e.op == 0 || e.n == 0) = true := by rw [Bool.or_eq_true, beq_iff_eq, beq_iff_eq]; omega
        have e3 : (e.op == 3 || e.op == 4 || decide (e.nm.size = 0)) = true := by simp only [Bool.or_eq_true, beq_iff_eq, decide_eq_true_eq]; omega
        have e4 : (e.op == 4 || e.op == 5) = true := by rw [Bool.or_eq_true, beq_iff_eq, beq_iff_eq]; exact h45
        unfold E.rform1
        rw [e1, e2, e3, e4]; simp
      rw [HF.out, this])
    clear HF
    by_cases hc : e.op = 0
    · have HR := Lib.hid (H1.out (by omega))
      have q0 : (e.op != 0) = false := by rw [Bool.eq_iff_iff]; simp; omega
      have q3 : (e.op != 3) = true := by rw [Bool.eq_iff_iff]; simp; omega
      have q4 : (e.op != 4) = true := by rw [Bool.eq_iff_iff]; simp; omega
      have p4 : (e.op == 4) = false := by rw [Bool.eq_iff_iff]; simp; omega
      have p5 : (e.op == 5) = false := by rw [Bool.eq_iff_iff]; simp; omega
      have s1 := (nm_empty (s := e.nm) (by omega)).1
      clear hc H1 H2
      go_enter Tryz.func57, Tryz.ntmps57
      go_wp2_with fail
      go_quiet ((go_at_call 68; exact qsame (HK.out _)))
      go_wp2_with fail
      go_loopw [3] (fun iv wr => ∃ i : Nat, i ≤ e.ks.length ∧ iv = .int .i64 i ∧ Hid (∀ k, k < i → ∀ e', E.Is e.ks k e' → E.rform e' = true) ∧ Eb w wr e) (fun iv _ => e.ks.length - (intOf iv).toNat)
      case atStart => exact ⟨0, Nat.zero_le _, rfl, Lib.hid (fun k hk => absurd hk (Nat.not_lt_zero _)), X.below (bDrew (Below.refl _ _) _)⟩
      case round =>
        clear X
        obtain ⟨i, hi, rfl, hg, Y⟩ := hrel
        have c3 := Y.c3
        rw [hA.out] at c3
        have b3 := Y.bel
        by_cases hlt : i < e.ks.length
        · obtain ⟨ab, off, k, rfl, hab, d0, d1, d2, d3, his, hkin⟩ := (hl.below Y.bel).at_ hlt
          have HI := Lib.hid (IH.out k his.mem)
          have hk2 := Y.kid hkin
          cases hb2 : E.rform k with
          | false =>
            have HQ : Hid (false = E.rform e) := Lib.hid (by rw [HR.out, E.all_bad his hb2])
            have HB2 := Lib.hid hb2
            clear hb2 hkin hg
            go_wp2_with fail
            refine (HI.out _ hk2).mono ?_
            rintro r w2 ⟨rfl, b2⟩
            rw [HB2.out]
            go_wp2_with fail
            go_ret
            exact ⟨ret_bool HQ.out, bTrans b3 b2⟩
          | true =>
            have HG : Hid (∀ k, k < i + 1 → ∀ e', E.Is e.ks k e' → E.rform e' = true) := Lib.hid (E.all_next hg.out his hb2)
            have HB2 := Lib.hid hb2
            clear hb2 hkin hg
            go_wp2_with fail
            refine (HI.out _ hk2).mono ?_
            rintro r w2 ⟨rfl, b2⟩
            rw [HB2.out]
            have Y2 := Y.below b2
            go_wp2_with fail
            go_roundw
            case rel => exact ⟨i + 1, by omega, by go_num, HG, Y2⟩
            case measure => simp [intOf]; omega
        · obtain rfl : i = e.ks.length := by omega
          have HQ : Hid (true = E.rform e) := Lib.hid (by rw [HR.out, E.all_good hg.out])
          go_wp2_with fail
          go_ret
          exact ⟨ret_bool HQ.out, b3⟩
    by_cases hc : e.op = 3
    · have HR := Lib.hid (H1.out (by omega))
      have q0 : (e.op != 0) = true := by rw [Bool.eq_iff_iff]; simp; omega
      have qn : (e.n != 0) = false := by rw [Bool.eq_iff_iff]; simp; omega
      have q3 : (e.op != 3) = false := by rw [Bool.eq_iff_iff]; simp; omega
      have p4 : (e.op == 4) = false := by rw [Bool.eq_iff_iff]; simp; omega
      have p5 : (e.op == 5) = false := by rw [Bool.eq_iff_iff]; simp; omega
      clear hc H1 H2
      go_enter Tryz.func57, Tryz.ntmps57
      go_wp2_with fail
      go_quiet ((go_at_call 68; exact qsame (HK.out _)))
      go_wp2_with fail
      go_loopw [3] (fun iv wr => ∃ i : Nat, i ≤ e.ks.length ∧ iv = .int .i64 i ∧ Hid (∀ k, k < i → ∀ e', E.Is e.ks k e' → E.rform e' = true) ∧ Eb w wr e) (fun iv _ => e.ks.length - (intOf iv).toNat)
      case atStart => exact ⟨0, Nat.zero_le _, rfl, Lib.hid (fun k hk => absurd hk (Nat.not_lt_zero _)), X.below (bDrew (Below.refl _ _) _)⟩
      case round =>
        clear X
        obtain ⟨i, hi, rfl, hg, Y⟩ := hrel
        have c3 := Y.c3
        rw [hA.out] at c3
        have b3 := Y.bel
        by_cases hlt : i < e.ks.length
        · obtain ⟨ab, off, k, rfl, hab, d0, d1, d2, d3, his, hkin⟩ := (hl.below Y.bel).at_ hlt
          have HI := Lib.hid (IH.out k his.mem)
          have hk2 := Y.kid hkin
          cases hb2 : E.rform k with
          | false =>
            have HQ : Hid (false = E.rform e) := Lib.hid (by rw [HR.out, E.all_bad his hb2])
            have HB2 := Lib.hid hb2
            clear hb2 hkin hg
            go_wp2_with fail
            refine (HI.out _ hk2).mono ?_
            rintro r w2 ⟨rfl, b2⟩
            rw [HB2.out]
            go_wp2_with fail
            go_ret
            exact ⟨ret_bool HQ.out, bTrans b3 b2⟩
          | true =>
            have HG : Hid (∀ k, k < i + 1 → ∀ e', E.Is e.ks k e' → E.rform e' = true) := Lib.hid (E.all_next hg.out his hb2)
            have HB2 := Lib.hid hb2
            clear hb2 hkin hg
            go_wp2_with fail
            refine (HI.out _ hk2).mono ?_
            rintro r w2 ⟨rfl, b2⟩
            rw [HB2.out]
            have Y2 := Y.below b2
            go_wp2_with fail
            go_roundw
            case rel => exact ⟨i + 1, by omega, by go_num, HG, Y2⟩
            case measure => simp [intOf]; omega
        · obtain rfl : i = e.ks.length := by omega
          have HQ : Hid (true = E.rform e) := Lib.hid (by rw [HR.out, E.all_good hg.out])
          go_wp2_with fail
          go_ret
          exact ⟨ret_bool HQ.out, b3⟩
    by_cases hc : e.op = 4
    · have HP := Lib.hid (H2.out (by omega))
      have q0 : (e.op != 0) = true := by rw [Bool.eq_iff_iff]; simp; omega
      have qn : (e.n != 0) = false := by rw [Bool.eq_iff_iff]; simp; omega
      have q3 : (e.op != 3) = true := by rw [Bool.eq_iff_iff]; simp; omega
      have q4 : (e.op != 4) = false := by rw [Bool.eq_iff_iff]; simp; omega
      have p4 : (e.op == 4) = true := by rw [Bool.eq_iff_iff]; simp; omega
      clear hc H1 H2
      cases hp : e.rplace with
      | false =>
        have HR : Hid (false = e.rform) := Lib.hid (by rw [HP.out, hp]; rfl)
        have HQ2 := Lib.hid hp
        clear hp HP
        go_enter Tryz.func57, Tryz.ntmps57
        go_wp2_with fail
        go_quiet ((go_at_call 68; exact qsame (HK.out _)))
        go_wp2_with fail
        refine (risPlace_any e _ (hin.at (bDrew b1 _))).mono ?_
        rintro r w2 ⟨rfl, b2⟩
        rw [HQ2.out]
        go_wp2_with fail
        go_ret
        exact ⟨ret_bool HR.out, bTrans (bDrew b1 _) b2⟩
      | true =>
        have HR : Hid (e.rform = e.ks.all E.rform) := Lib.hid (by rw [HP.out, hp]; rfl)
        have HQ2 := Lib.hid hp
        clear hp HP
        go_enter Tryz.func57, Tryz.ntmps57
        go_wp2_with fail
        go_quiet ((go_at_call 68; exact qsame (HK.out _)))
        go_wp2_with fail
        refine (risPlace_any e _ (hin.at (bDrew b1 _))).mono ?_
        rintro r w2 ⟨rfl, b2⟩
        rw [HQ2.out]
        have X2 := (X.below (bDrew (Below.refl _ _) _)).below b2
        go_wp2_with fail
        go_loopw [3] (fun iv wr => ∃ i : Nat, i ≤ e.ks.length ∧ iv = .int .i64 i ∧ Hid (∀ k, k < i → ∀ e', E.Is e.ks k e' → E.rform e' = true) ∧ Eb w wr e) (fun iv _ => e.ks.length - (intOf iv).toNat)
        case atStart => exact ⟨0, Nat.zero_le _, rfl, Lib.hid (fun k hk => absurd hk (Nat.not_lt_zero _)), X2⟩
        case round =>
          clear X X2
          obtain ⟨i, hi, rfl, hg, Y⟩ := hrel
          have c3 := Y.c3
          rw [hA.out] at c3
          have b3 := Y.bel
          by_cases hlt : i < e.ks.length
          · obtain ⟨ab, off, k, rfl, hab, d0, d1, d2, d3, his, hkin⟩ := (hl.below Y.bel).at_ hlt
            have HI := Lib.hid (IH.out k his.mem)
            have hk2 := Y.kid hkin
            cases hb2 : E.rform k with
            | false =>
              have HQ : Hid (false = E.rform e) := Lib.hid (by rw [HR.out, E.all_bad his hb2])
              have HB2 := Lib.hid hb2
              clear hb2 hkin hg
              go_wp2_with fail
              refine (HI.out _ hk2).mono ?_
              rintro r w2 ⟨rfl, b2⟩
              rw [HB2.out]
              go_wp2_with fail
              go_ret
              exact ⟨ret_bool HQ.out, bTrans b3 b2⟩
            | true =>
              have HG : Hid (∀ k, k < i + 1 → ∀ e', E.Is e.ks k e' → E.rform e' = true) := Lib.hid (E.all_next hg.out his hb2)
              have HB2 := Lib.hid hb2
              clear hb2 hkin hg
              go_wp2_with fail
              refine (HI.out _ hk2).mono ?_
              rintro r w2 ⟨rfl, b2⟩
              rw [HB2.out]
              have Y2 := Y.below b2
              go_wp2_with fail
              go_roundw
              case rel => exact ⟨i + 1, by omega, by go_num, HG, Y2⟩
              case measure => simp [intOf]; omega
          · obtain rfl : i = e.ks.length := by omega
            have HQ : Hid (true = E.rform e) := Lib.hid (by rw [HR.out, E.all_good hg.out])
            go_wp2_with fail
            go_ret
            exact ⟨ret_bool HQ.out, b3⟩
    by_cases hc : e.op = 5
    · have HP := Lib.hid (H2.out (by omega))
      have q0 : (e.op != 0) = true := by rw [Bool.eq_iff_iff]; simp; omega
      have qn : (e.n != 0) = false := by rw [Bool.eq_iff_iff]; simp; omega
      have q3 : (e.op != 3) = true := by rw [Bool.eq_iff_iff]; simp; omega
      have q4 : (e.op != 4) = true := by rw [Bool.eq_iff_iff]; simp; omega
      have p4 : (e.op == 4) = false := by rw [Bool.eq_iff_iff]; simp; omega
      have p5 : (e.op == 5) = true := by rw [Bool.eq_iff_iff]; simp; omega
      have s1 := (nm_empty (s := e.nm) (by omega)).1
      clear hc H1 H2
      cases hp : e.rplace with
      | false =>
        have HR : Hid (false = e.rform) := Lib.hid (by rw [HP.out, hp]; rfl)
        have HQ2 := Lib.hid hp
        clear hp HP
        go_enter Tryz.func57, Tryz.ntmps57
        go_wp2_with fail
        go_quiet ((go_at_call 68; exact qsame (HK.out _)))
        go_wp2_with fail
        refine (risPlace_any e _ (hin.at (bDrew b1 _))).mono ?_
        rintro r w2 ⟨rfl, b2⟩
        rw [HQ2.out]
        go_wp2_with fail
        go_ret
        exact ⟨ret_bool HR.out, bTrans (bDrew b1 _) b2⟩
      | true =>
        have HR : Hid (e.rform = e.ks.all E.rform) := Lib.hid (by rw [HP.out, hp]; rfl)
        have HQ2 := Lib.hid hp
        clear hp HP
        go_enter Tryz.func57, Tryz.ntmps57
        go_wp2_with fail
        go_quiet ((go_at_call 68; exact qsame (HK.out _)))
        go_wp2_with fail
        refine (risPlace_any e _ (hin.at (bDrew b1 _))).mono ?_
        rintro r w2 ⟨rfl, b2⟩
        rw [HQ2.out]
        have X2 := (X.below (bDrew (Below.refl _ _) _)).below b2
        go_wp2_with fail
        go_loopw [3] (fun iv wr => ∃ i : Nat, i ≤ e.ks.length ∧ iv = .int .i64 i ∧ Hid (∀ k, k < i → ∀ e', E.Is e.ks k e' → E.rform e' = true) ∧ Eb w wr e) (fun iv _ => e.ks.length - (intOf iv).toNat)
        case atStart => exact ⟨0, Nat.zero_le _, rfl, Lib.hid (fun k hk => absurd hk (Nat.not_lt_zero _)), X2⟩
        case round =>
          clear X X2
          obtain ⟨i, hi, rfl, hg, Y⟩ := hrel
          have c3 := Y.c3
          rw [hA.out] at c3
          have b3 := Y.bel
          by_cases hlt : i < e.ks.length
          · obtain ⟨ab, off, k, rfl, hab, d0, d1, d2, d3, his, hkin⟩ := (hl.below Y.bel).at_ hlt
            have HI := Lib.hid (IH.out k his.mem)
            have hk2 := Y.kid hkin
            cases hb2 : E.rform k with
            | false =>
              have HQ : Hid (false = E.rform e) := Lib.hid (by rw [HR.out, E.all_bad his hb2])
              have HB2 := Lib.hid hb2
              clear hb2 hkin hg
              go_wp2_with fail
              refine (HI.out _ hk2).mono ?_
              rintro r w2 ⟨rfl, b2⟩
              rw [HB2.out]
              go_wp2_with fail
              go_ret
              exact ⟨ret_bool HQ.out, bTrans b3 b2⟩
            | true =>
              have HG : Hid (∀ k, k < i + 1 → ∀ e', E.Is e.ks k e' → E.rform e' = true) := Lib.hid (E.all_next hg.out his hb2)
              have HB2 := Lib.hid hb2
              clear hb2 hkin hg
              go_wp2_with fail
              refine (HI.out _ hk2).mono ?_
              rintro r w2 ⟨rfl, b2⟩
              rw [HB2.out]
              have Y2 := Y.below b2
              go_wp2_with fail
              go_roundw
              case rel => exact ⟨i + 1, by omega, by go_num, HG, Y2⟩
              case measure => simp [intOf]; omega
          · obtain rfl : i = e.ks.length := by omega
            have HQ : Hid (true = E.rform e) := Lib.hid (by rw [HR.out, E.all_good hg.out])
            go_wp2_with fail
            go_ret
            exact ⟨ret_bool HQ.out, b3⟩
    have HR := Lib.hid (H1.out (by omega))
    have q0 : (e.op != 0) = true := by rw [Bool.eq_iff_iff]; simp; omega
    have qn : (e.n != 0) = false := by rw [Bool.eq_iff_iff]; simp; omega
    have q3 : (e.op != 3) = true := by rw [Bool.eq_iff_iff]; simp; omega
    have q4 : (e.op != 4) = true := by rw [Bool.eq_iff_iff]; simp; omega
    have p4 : (e.op == 4) = false := by rw [Bool.eq_iff_iff]; simp; omega
    have p5 : (e.op == 5) = false := by rw [Bool.eq_iff_iff]; simp; omega
    have s1 := (nm_empty (s := e.nm) (by omega)).1
    clear H1 H2
    go_enter Tryz.func57, Tryz.ntmps57
    go_wp2_with fail
    go_quiet ((go_at_call 68; exact qsame (HK.out _)))
    go_wp2_with fail
    go_loopw [3] (fun iv wr => ∃ i : Nat, i ≤ e.ks.length ∧ iv = .int .i64 i ∧ Hid (∀ k, k < i → ∀ e', E.Is e.ks k e' → E.rform e' = true) ∧ Eb w wr e) (fun iv _ => e.ks.length - (intOf iv).toNat)
    case atStart => exact ⟨0, Nat.zero_le _, rfl, Lib.hid (fun k hk => absurd hk (Nat.not_lt_zero _)), X.below (bDrew (Below.refl _ _) _)⟩
    case round =>
      clear X
      obtain ⟨i, hi, rfl, hg, Y⟩ := hrel
      have c3 := Y.c3
      rw [hA.out] at c3
      have b3 := Y.bel
      by_cases hlt : i < e.ks.length
      · obtain ⟨ab, off, k, rfl, hab, d0, d1, d2, d3, his, hkin⟩ := (hl.below Y.bel).at_ hlt
        have HI := Lib.hid (IH.out k his.mem)
        have hk2 := Y.kid hkin
        cases hb2 : E.rform k with
        | false =>
          have HQ : Hid (false = E.rform e) := Lib.hid (by rw [HR.out, E.all_bad his hb2])
          have HB2 := Lib.hid hb2
          clear hb2 hkin hg
          go_wp2_with fail
          refine (HI.out _ hk2).mono ?_
          rintro r w2 ⟨rfl, b2⟩
          rw [HB2.out]
          go_wp2_with fail
          go_ret
          exact ⟨ret_bool HQ.out, bTrans b3 b2⟩
        | true =>
          have HG : Hid (∀ k, k < i + 1 → ∀ e', E.Is e.ks k e' → E.rform e' = true) := Lib.hid (E.all_next hg.out his hb2)
          have HB2 := Lib.hid hb2
          clear hb2 hkin hg
          go_wp2_with fail
          refine (HI.out _ hk2).mono ?_
          rintro r w2 ⟨rfl, b2⟩
          rw [HB2.out]
          have Y2 := Y.below b2
          go_wp2_with fail
          go_roundw
          case rel => exact ⟨i + 1, by omega, by go_num, HG, Y2⟩
          case measure => simp [intOf]; omega
      · obtain rfl : i = e.ks.length := by omega
        have HQ : Hid (true = E.rform e) := Lib.hid (by rw [HR.out, E.all_good hg.out])
        go_wp2_with fail
        go_ret
        exact ⟨ret_bool HQ.out, b3⟩
end Go.Proofs.YtkpomjdablopaabGreatDoor
