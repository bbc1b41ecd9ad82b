/- Walks: the reference's check of an expression, its parts. -/
import Derived.Test.YtkpomjdablopaabGreatDoorRa
import Derived.Test.YtkpomjdablopaabGreatDoorIsr
namespace Go.Proofs.YtkpomjdablopaabGreatDoor
open Go.RowKit Go.Sort
set_option linter.unusedVariables false

set_option maxRecDepth 100000 in
set_option maxHeartbeats 1000000 in
theorem kids_any (o : Int) (w : World) : Calls Tryz.prog 68 #[.int .i64 o] w fun r w' => r = .returned (.int .i64 (E.arity1 o)) ∧ w = w' := by
  obtain ⟨z, hz⟩ : ∃ z, Hid (z = E.arity1 o) := ⟨_, Lib.hid rfl⟩
  rw [← hz.out]
  go_enter Tryz.func68, Tryz.ntmps68
  go_wp2_with fail
  all_goals
    go_ret
    refine ⟨ret_int ?_, rfl⟩
    rw [hz.out]
    clear hz
    unfold E.arity1 E.occ E.arity
    simp only [Bool.and_eq_true, decide_eq_true_eq]
    (repeat' split) <;> simp_all <;> omega

/-- the contract of the place test at one expression -/
def RpE (e : E) : Prop := ∀ w : World, E.In w w.heap.size e → Calls Tryz.prog 69 #[e.val] w fun r w' => r = .returned (.bool e.rplace) ∧ Below w.heap.size w w'
theorem rplaceH_is {l : List E} {k : E} (h : E.Is l 0 k) : E.rplaceH l = k.rplace := by
  obtain ⟨h1, h2⟩ := h.eq
  cases l with
  | nil => exact absurd h1 (by simp)
  | cons a l => simp only [List.getElem_cons_zero] at h2; subst h2; simp [E.rplaceH]
set_option maxRecDepth 100000 in
set_option maxHeartbeats 1000000 in
theorem risPlace_any (e : E) : RpE e := by
  induction e using E.ind with
  | h e ih =>
  intro w hin
  have IH := Lib.hid ih
  have hl := hin.l
  have hlen := hin.nd.len
  have HP := Lib.hid (E.rplace_eq e)
  have X := Eb.start w e 27
  have b1 := X.bel
  clear ih
  by_cases h3 : e.op = 3
  · have HR : Hid (true = e.rplace) := Lib.hid (by rw [HP.out, h3]; rfl)
    have q3 : (e.op == 3) = true := by rw [h3]; rfl
    clear h3
    go_enter Tryz.func69, Tryz.ntmps69
    go_wp2_with fail
    go_ret
    exact ⟨ret_bool HR.out, b1⟩
  have q3 : (e.op == 3) = false := by simpa using h3
  by_cases h45 : e.op = 4 ∨ e.op = 5
  · by_cases hn : 0 < e.ks.length
    · obtain ⟨ab, off, k, hA, hab, d0, d1, d2, d3, his, hkin⟩ := hl.at_ hn
      simp only [Nat.zero_mul, Nat.add_zero] at d0 d1 d2 d3
      have HI := Lib.hid (IH.out k his.mem)
      have HR : Hid (k.rplace = e.rplace) := Lib.hid (by
        rw [HP.out, rplaceH_is his]
        rcases h45 with h | h <;> rw [h] <;> simp)
      replace b1 := al1 w (.cells #[.int .i64 e.op, .int .i64 e.n, .string e.nm, .slice (some ⟨ab, off, none⟩) e.ks.length e.cap] 27)
      have hk2 := hkin.at b1
      have hnI : (0 : Int) < (e.ks.length : Int) := by omega
      clear hkin X
      rcases h45 with h4 | h5
      · have q4 : (e.op == 4) = true := by rw [h4]; rfl
        clear h4 h3
        go_enter Tryz.func69, Tryz.ntmps69
        go_wp2_with fail
        refine (HI.out _ hk2).mono ?_
        rintro r w2 ⟨rfl, b2⟩
        go_wp2_with fail
        go_ret
        exact ⟨ret_bool HR.out, bTrans b1 b2⟩
      · have q4 : (e.op == 4) = false := by rw [h5]; rfl
        have q5 : (e.op == 5) = true := by rw [h5]; rfl
        clear h5 h3
        go_enter Tryz.func69, Tryz.ntmps69
        go_wp2_with fail
        refine (HI.out _ hk2).mono ?_
        rintro r w2 ⟨rfl, b2⟩
        go_wp2_with fail
        go_ret
        exact ⟨ret_bool HR.out, bTrans b1 b2⟩
    · have h0 : e.ks.length = 0 := by omega
      have HR : Hid (false = e.rplace) := Lib.hid (by
        rw [HP.out, List.eq_nil_of_length_eq_zero h0, q3]; simp [E.rplaceH])
      have hnI : ¬ (0 : Int) < (e.ks.length : Int) := by omega
      clear h0 X
      rcases h45 with h4 | h5
      · have q4 : (e.op == 4) = true := by rw [h4]; rfl
        clear h4 h3
        go_enter Tryz.func69, Tryz.ntmps69
        go_wp2_with fail
        go_ret
        exact ⟨ret_bool HR.out, b1⟩
      · have q4 : (e.op == 4) = false := by rw [h5]; rfl
        have q5 : (e.op == 5) = true := by rw [h5]; rfl
        clear h5 h3
        go_enter Tryz.func69, Tryz.ntmps69
        go_wp2_with fail
        go_ret
        exact ⟨ret_bool HR.out, b1⟩
  · have q4 : (e.op == 4) = false := by simp; omega
    have q5 : (e.op == 5) = false := by simp; omega
    have HR : Hid (false = e.rplace) := Lib.hid (by rw [HP.out, q3, q4, q5]; rfl)
    clear h3 h45 X
    go_enter Tryz.func69, Tryz.ntmps69
    go_wp2_with fail
    go_ret
    exact ⟨ret_bool HR.out, b1⟩

/-- the contract of the test of the numbers -/
def NuE (e : E) : Prop := ∀ w : World, E.In w w.heap.size e → Calls Tryz.prog 59 #[e.val] w fun r w' => r = .returned (.bool e.rnumbers) ∧ Below w.heap.size w w'
set_option maxRecDepth 100000 in
set_option maxHeartbeats 1000000 in
theorem rnumbers_any (e : E) : NuE e := by
  induction e using E.ind with
  | h e ih =>
  intro w hin
  have IH := Lib.hid ih
  have hl := hin.l
  have hlen := hin.nd.len
  have HF := Lib.hid (E.rnumbers_eq e)
  have X := Eb.start w e 27
  have b1 := X.bel
  obtain ⟨A, hA⟩ : ∃ A, Hid (e.ad = A) := ⟨_, Lib.hid rfl⟩
  rw [hA.out] at hl
  clear ih
  by_cases h0 : e.op = 0
  · have q0 : (e.op == 0) = true := by rw [h0]; rfl
    by_cases hn : e.n < 0
    · have HR : Hid (false = e.rnumbers) := Lib.hid (by rw [HF.out]; unfold E.rnum1; rw [q0, decide_eq_true hn]; rfl)
      clear h0
      go_enter Tryz.func59, Tryz.ntmps59
      go_wp2_with fail
      go_ret
      exact ⟨ret_bool HR.out, b1⟩
    by_cases hm : 1048576 < e.n
    · have HR : Hid (false = e.rnumbers) := Lib.hid (by rw [HF.out]; unfold E.rnum1; rw [q0, decide_eq_false hn, decide_eq_true hm]; rfl)
      clear h0
      go_enter Tryz.func59, Tryz.ntmps59
      go_wp2_with fail
      go_ret
      exact ⟨ret_bool HR.out, b1⟩
    have HR : Hid (e.rnumbers = e.ks.all E.rnumbers) := Lib.hid (by rw [HF.out]; unfold E.rnum1; rw [q0, decide_eq_false hn, decide_eq_false hm]; rfl)
    clear h0 HF
    go_enter Tryz.func59, Tryz.ntmps59
    go_wp2_with fail
    go_loopw [3] (fun iv wr => ∃ i : Nat, i ≤ e.ks.length ∧ iv = .int .i64 i ∧ Hid (∀ k, k < i → ∀ e', E.Is e.ks k e' → E.rnumbers e' = true) ∧ Eb w wr e) (fun iv _ => e.ks.length - (intOf iv).toNat)
    case atStart => exact ⟨0, Nat.zero_le _, rfl, Lib.hid (fun k hk => absurd hk (Nat.not_lt_zero _)), X⟩
    case round =>
      clear X
      obtain ⟨i, hi, rfl, hg, Y⟩ := hrel
      have c3 := Y.c3
      rw [hA.out] at c3
      have b3 := Y.bel
      by_cases hlt : i < e.ks.length
      · obtain ⟨ab, off, k, rfl, hab, d0, d1, d2, d3, his, hkin⟩ := (hl.below Y.bel).at_ hlt
        have HI := Lib.hid (IH.out k his.mem)
        have hk2 := Y.kid hkin
        cases hb2 : E.rnumbers k with
        | false =>
          have HQ : Hid (false = E.rnumbers e) := Lib.hid (by rw [HR.out, E.all_bad his hb2])
          have HB2 := Lib.hid hb2
          clear hb2 hkin hg
          go_wp2_with fail
          refine (HI.out _ hk2).mono ?_
          rintro r w2 ⟨rfl, b2⟩
          rw [HB2.out]
          go_wp2_with fail
          go_ret
          exact ⟨ret_bool HQ.out, bTrans b3 b2⟩
        | true =>
          have HG : Hid (∀ k, k < i + 1 → ∀ e', E.Is e.ks k e' → E.rnumbers e' = true) := Lib.hid (E.all_next hg.out his hb2)
          have HB2 := Lib.hid hb2
          clear hb2 hkin hg
          go_wp2_with fail
          refine (HI.out _ hk2).mono ?_
          rintro r w2 ⟨rfl, b2⟩
          rw [HB2.out]
          have Y2 := Y.below b2
          go_wp2_with fail
          go_roundw
          case rel => exact ⟨i + 1, by omega, by go_num, HG, Y2⟩
          case measure => simp [intOf]; omega
      · obtain rfl : i = e.ks.length := by omega
        have HQ : Hid (true = E.rnumbers e) := Lib.hid (by rw [HR.out, E.all_good hg.out])
        go_wp2_with fail
        go_ret
        exact ⟨ret_bool HQ.out, b3⟩
  · have q0 : (e.op == 0) = false := by simpa using h0
    have HR : Hid (e.rnumbers = e.ks.all E.rnumbers) := Lib.hid (by rw [HF.out]; unfold E.rnum1; rw [q0]; rfl)
    clear h0 HF
    go_enter Tryz.func59, Tryz.ntmps59
    go_wp2_with fail
    go_loopw [3] (fun iv wr => ∃ i : Nat, i ≤ e.ks.length ∧ iv = .int .i64 i ∧ Hid (∀ k, k < i → ∀ e', E.Is e.ks k e' → E.rnumbers e' = true) ∧ Eb w wr e) (fun iv _ => e.ks.length - (intOf iv).toNat)
    case atStart => exact ⟨0, Nat.zero_le _, rfl, Lib.hid (fun k hk => absurd hk (Nat.not_lt_zero _)), X⟩
    case round =>
      clear X
      obtain ⟨i, hi, rfl, hg, Y⟩ := hrel
      have c3 := Y.c3
      rw [hA.out] at c3
      have b3 := Y.bel
      by_cases hlt : i < e.ks.length
      · obtain ⟨ab, off, k, rfl, hab, d0, d1, d2, d3, his, hkin⟩ := (hl.below Y.bel).at_ hlt
        have HI := Lib.hid (IH.out k his.mem)
        have hk2 := Y.kid hkin
        cases hb2 : E.rnumbers k with
        | false =>
          have HQ : Hid (false = E.rnumbers e) := Lib.hid (by rw [HR.out, E.all_bad his hb2])
          have HB2 := Lib.hid hb2
          clear hb2 hkin hg
          go_wp2_with fail
          refine (HI.out _ hk2).mono ?_
          rintro r w2 ⟨rfl, b2⟩
          rw [HB2.out]
          go_wp2_with fail
          go_ret
          exact ⟨ret_bool HQ.out, bTrans b3 b2⟩
        | true =>
          have HG : Hid (∀ k, k < i + 1 → ∀ e', E.Is e.ks k e' → E.rnumbers e' = true) := Lib.hid (E.all_next hg.out his hb2)
          have HB2 := Lib.hid hb2
          clear hb2 hkin hg
          go_wp2_with fail
          refine (HI.out _ hk2).mono ?_
          rintro r w2 ⟨rfl, b2⟩
          rw [HB2.out]
          have Y2 := Y.below b2
          go_wp2_with fail
          go_roundw
          case rel => exact ⟨i + 1, by omega, by go_num, HG, Y2⟩
          case measure => simp [intOf]; omega
      · obtain rfl : i = e.ks.length := by omega
        have HQ : Hid (true = E.rnumbers e) := Lib.hid (by rw [HR.out, E.all_good hg.out])
        go_wp2_with fail
        go_ret
        exact ⟨ret_bool HQ.out, b3⟩

/-- the contract of the test of the names -/
def NmE (e : E) : Prop := ∀ w : World, E.In w w.heap.size e → e.any E.big = false → Calls Tryz.prog 58 #[e.val] w fun r w' => r = .returned (.bool (e.rnames nmB)) ∧ Below w.heap.size w w'
theorem xisname_any (s : ByteArray) (hs : s.size ≤ 1000000) (w : World) : Calls Tryz.prog 70 #[.string s] w fun e w' => e = .returned (.bool (nmB s)) ∧ w = w' := by
  go_enter Tryz.func70, Tryz.ntmps70
  go_wp2_with fail
  refine (risname_any s hs _).mono ?_
  rintro e w1 ⟨rfl, rfl⟩
  go_wp2_with fail
  go_ret
  exact ⟨rfl, rfl⟩
set_option maxRecDepth 100000 in
set_option maxHeartbeats 1000000 in
theorem rnames_any (e : E) : NmE e := by
  induction e using E.ind with
  | h e ih =>
  intro w hin hbig
  have IH : Hid (∀ k ∈ e.ks, ∀ w : World, E.In w w.heap.size k → Calls Tryz.prog 58 #[k.val] w fun r w' => r = .returned (.bool (k.rnames nmB)) ∧ Below w.heap.size w w') := Lib.hid (fun k hk w hkin => ih k hk w hkin (E.any_kid hbig hk))
  have hsz : e.nm.size ≤ 1000000 := by
    have := E.any_self hbig
    unfold E.big at this
    have := of_decide_eq_false this
    omega
  have hl := hin.l
  have hlen := hin.nd.len
  have HF := Lib.hid (E.rnames_eq nmB e)
  have X := Eb.start w e 27
  have b1 := X.bel
  obtain ⟨A, hA⟩ : ∃ A, Hid (e.ad = A) := ⟨_, Lib.hid rfl⟩
  rw [hA.out] at hl
  clear ih hbig
  by_cases h34 : e.op = 3 ∨ e.op = 4
  · have q34 : (e.op == 3 || e.op == 4) = true := by rcases h34 with h | h <;> rw [h] <;> rfl
    cases hb : nmB e.nm with
    | false =>
      have HR : Hid (false = e.rnames nmB) := Lib.hid (by rw [HF.out]; unfold E.rname1; rw [q34, hb]; rfl)
      have HB := Lib.hid hb
      clear hb q34
      rcases h34 with h3 | h4
      · have q3 : (e.op == 3) = true := by rw [h3]; rfl
        clear h3
        go_enter Tryz.func58, Tryz.ntmps58
        go_wp2_with fail
        refine (xisname_any e.nm hsz _).mono ?_
        rintro r w2 ⟨rfl, rfl⟩
        rw [HB.out]
        go_wp2_with fail
        go_ret
        exact ⟨ret_bool HR.out, b1⟩
      · have q3 : (e.op == 3) = false := by rw [h4]; rfl
        have q4 : (e.op == 4) = true := by rw [h4]; rfl
        clear h4
        go_enter Tryz.func58, Tryz.ntmps58
        go_wp2_with fail
        refine (xisname_any e.nm hsz _).mono ?_
        rintro r w2 ⟨rfl, rfl⟩
        rw [HB.out]
        go_wp2_with fail
        go_ret
        exact ⟨ret_bool HR.out, b1⟩
    | true =>
      have HR : Hid (e.rnames nmB = e.ks.all (E.rnames nmB)) := Lib.hid (by rw [HF.out]; unfold E.rname1; rw [q34, hb]; rfl)
      have HB := Lib.hid hb
      clear hb q34 HF
      rcases h34 with h3 | h4
      · have q3 : (e.op == 3) = true := by rw [h3]; rfl
        clear h3
        go_enter Tryz.func58, Tryz.ntmps58
        go_wp2_with fail
        refine (xisname_any e.nm hsz _).mono ?_
        rintro r w2 ⟨rfl, rfl⟩
        rw [HB.out]
        go_wp2_with fail
        go_loopw [3] (fun iv wr => ∃ i : Nat, i ≤ e.ks.length ∧ iv = .int .i64 i ∧ Hid (∀ k, k < i → ∀ e', E.Is e.ks k e' → E.rnames nmB e' = true) ∧ Eb w wr e) (fun iv _ => e.ks.length - (intOf iv).toNat)
        case atStart => exact ⟨0, Nat.zero_le _, rfl, Lib.hid (fun k hk => absurd hk (Nat.not_lt_zero _)), X⟩
        case round =>
          clear X
          obtain ⟨i, hi, rfl, hg, Y⟩ := hrel
          have c3 := Y.c3
          rw [hA.out] at c3
          have b3 := Y.bel
          by_cases hlt : i < e.ks.length
          · obtain ⟨ab, off, k, rfl, hab, d0, d1, d2, d3, his, hkin⟩ := (hl.below Y.bel).at_ hlt
            have HI := Lib.hid (IH.out k his.mem)
            have hk2 := Y.kid hkin
            cases hb2 : E.rnames nmB k with
            | false =>
              have HQ : Hid (false = E.rnames nmB e) := Lib.hid (by rw [HR.out, E.all_bad his hb2])
              have HB2 := Lib.hid hb2
              clear hb2 hkin hg
              go_wp2_with fail
              refine (HI.out _ hk2).mono ?_
              rintro r w2 ⟨rfl, b2⟩
              rw [HB2.out]
              go_wp2_with fail
              go_ret
              exact ⟨ret_bool HQ.out, bTrans b3 b2⟩
            | true =>
              have HG : Hid (∀ k, k < i + 1 → ∀ e', E.Is e.ks k e' → E.rnames nmB e' = true) := Lib.hid (E.all_next hg.out his hb2)
              have HB2 := Lib.hid hb2
              clear hb2 hkin hg
              go_wp2_with fail
              refine (HI.out _ hk2).mono ?_
              rintro r w2 ⟨rfl, b2⟩
              rw [HB2.out]
              have Y2 := Y.below b2
              go_wp2_with fail
              go_roundw
              case rel => exact ⟨i + 1, by omega, by go_num, HG, Y2⟩
              case measure => simp [intOf]; omega
          · obtain rfl : i = e.ks.length := by omega
            have HQ : Hid (true = E.rnames nmB e) := Lib.hid (by rw [HR.out, E.all_good hg.out])
            go_wp2_with fail
            go_ret
            exact ⟨ret_bool HQ.out, b3⟩
      · have q3 : (e.op == 3) = false := by rw [h4]; rfl
        have q4 : (e.op == 4) = true := by rw [h4]; rfl
        clear h4
        go_enter Tryz.func58, Tryz.ntmps58
        go_wp2_with fail
        refine (xisname_any e.nm hsz _).mono ?_
        rintro r w2 ⟨rfl, rfl⟩
        rw [HB.out]
        go_wp2_with fail
        go_loopw [3] (fun iv wr => ∃ i : Nat, i ≤ e.ks.length ∧ iv = .int .i64 i ∧ Hid (∀ k, k < i → ∀ e', E.Is e.ks k e' → E.rnames nmB e' = true) ∧ Eb w wr e) (fun iv _ => e.ks.length - (intOf iv).toNat)
        case atStart => exact ⟨0, Nat.zero_le _, rfl, Lib.hid (fun k hk => absurd hk (Nat.not_lt_zero _)), X⟩
        case round =>
          clear X
          obtain ⟨i, hi, rfl, hg, Y⟩ := hrel
          have c3 := Y.c3
          rw [hA.out] at c3
          have b3 := Y.bel
          by_cases hlt : i < e.ks.length
          · obtain ⟨ab, off, k, rfl, hab, d0, d1, d2, d3, his, hkin⟩ := (hl.below Y.bel).at_ hlt
            have HI := Lib.hid (IH.out k his.mem)
            have hk2 := Y.kid hkin
            cases hb2 : E.rnames nmB k with
            | false =>
              have HQ : Hid (false = E.rnames nmB e) := Lib.hid (by rw [HR.out, E.all_bad his hb2])
              have HB2 := Lib.hid hb2
              clear hb2 hkin hg
              go_wp2_with fail
              refine (HI.out _ hk2).mono ?_
              rintro r w2 ⟨rfl, b2⟩
              rw [HB2.out]
              go_wp2_with fail
              go_ret
              exact ⟨ret_bool HQ.out, bTrans b3 b2⟩
            | true =>
              have HG : Hid (∀ k, k < i + 1 → ∀ e', E.Is e.ks k e' → E.rnames nmB e' = true) := Lib.hid (E.all_next hg.out his hb2)
              have HB2 := Lib.hid hb2
              clear hb2 hkin hg
              go_wp2_with fail
              refine (HI.out _ hk2).mono ?_
              rintro r w2 ⟨rfl, b2⟩
              rw [HB2.out]
              have Y2 := Y.below b2
              go_wp2_with fail
              go_roundw
              case rel => exact ⟨i + 1, by omega, by go_num, HG, Y2⟩
              case measure => simp [intOf]; omega
          · obtain rfl : i = e.ks.length := by omega
            have HQ : Hid (true = E.rnames nmB e) := Lib.hid (by rw [HR.out, E.all_good hg.out])
            go_wp2_with fail
            go_ret
            exact ⟨ret_bool HQ.out, b3⟩
  · have q3 : (e.op == 3) = false := by simp; omega
    have q4 : (e.op == 4) = false := by simp; omega
    have HR : Hid (e.rnames nmB = e.ks.all (E.rnames nmB)) := Lib.hid (by rw [HF.out]; unfold E.rname1; rw [q3, q4]; rfl)
    clear h34 HF
    go_enter Tryz.func58, Tryz.ntmps58
    go_wp2_with fail
    go_loopw [3] (fun iv wr => ∃ i : Nat, i ≤ e.ks.length ∧ iv = .int .i64 i ∧ Hid (∀ k, k < i → ∀ e', E.Is e.ks k e' → E.rnames nmB e' = true) ∧ Eb w wr e) (fun iv _ => e.ks.length - (intOf iv).toNat)
    case atStart => exact ⟨0, Nat.zero_le _, rfl, Lib.hid (fun k hk => absurd hk (Nat.not_lt_zero _)), X⟩
    case round =>
      clear X
      obtain ⟨i, hi, rfl, hg, Y⟩ := hrel
      have c3 := Y.c3
      rw [hA.out] at c3
      have b3 := Y.bel
      by_cases hlt : i < e.ks.length
      · obtain ⟨ab, off, k, rfl, hab, d0, d1, d2, d3, his, hkin⟩ := (hl.below Y.bel).at_ hlt
        have HI := Lib.hid (IH.out k his.mem)
        have hk2 := Y.kid hkin
        cases hb2 : E.rnames nmB k with
        | false =>
          have HQ : Hid (false = E.rnames nmB e) := Lib.hid (by rw [HR.out, E.all_bad his hb2])
          have HB2 := Lib.hid hb2
          clear hb2 hkin hg
          go_wp2_with fail
          refine (HI.out _ hk2).mono ?_
          rintro r w2 ⟨rfl, b2⟩
          rw [HB2.out]
          go_wp2_with fail
          go_ret
          exact ⟨ret_bool HQ.out, bTrans b3 b2⟩
        | true =>
          have HG : Hid (∀ k, k < i + 1 → ∀ e', E.Is e.ks k e' → E.rnames nmB e' = true) := Lib.hid (E.all_next hg.out his hb2)
          have HB2 := Lib.hid hb2
          clear hb2 hkin hg
          go_wp2_with fail
          refine (HI.out _ hk2).mono ?_
          rintro r w2 ⟨rfl, b2⟩
          rw [HB2.out]
          have Y2 := Y.below b2
          go_wp2_with fail
          go_roundw
          case rel => exact ⟨i + 1, by omega, by go_num, HG, Y2⟩
          case measure => simp [intOf]; omega
      · obtain rfl : i = e.ks.length := by omega
        have HQ : Hid (true = E.rnames nmB e) := Lib.hid (by rw [HR.out, E.all_good hg.out])
        go_wp2_with fail
        go_ret
        exact ⟨ret_bool HQ.out, b3⟩
end Go.Proofs.YtkpomjdablopaabGreatDoor
