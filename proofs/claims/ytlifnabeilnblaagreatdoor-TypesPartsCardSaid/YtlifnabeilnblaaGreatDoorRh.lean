/- Walks: typeNames of the reference. -/
import Derived.Test.YtlifnabeilnblaaGreatDoorRf
import Derived.Test.YtlifnabeilnblaaGreatDoorCe
namespace Go.Proofs.YtlifnabeilnblaaGreatDoor
open Go.RowKit Go.Sort
set_option linter.unusedVariables false

theorem xisname_any (s : ByteArray) (w : World) : Calls Tryz.prog 83 #[.string s] w fun e w' => e = .returned (.bool (nmB s)) ∧ w = w' := by
  go_enter Tryz.func83, Tryz.ntmps83
  go_wp2_with fail
  refine (risname_any s _).mono ?_
  rintro e w1 ⟨rfl, rfl⟩
  go_wp2_with fail
  go_ret
  exact ⟨rfl, rfl⟩
/-- the contract of the names -/
def NaE (e : G) : Prop := ∀ w : World, G.In w w.heap.size e → Calls Tryz.prog 68 #[e.val] w fun r w' => r = .returned (.bool (G.rnames nmB e)) ∧ Below w.heap.size w w'
set_option maxRecDepth 100000 in
set_option maxHeartbeats 8000000 in
theorem xnames_any (e : G) : NaE e := by
  induction e using G.ind with
  | h e ih =>
  intro w hin
  have IH := Lib.hid ih
  have hl := hin.l
  have hnd := Lib.hid hin.nd
  have hlen := hin.nd.len
  have hnlen := hin.nd.nlen
  have HF : Hid (G.rnames nmB e = (((decide (e.kd ≠ 4) || nmB e.nm) && e.ns.all nmB) && e.ks.all (G.rnames nmB))) := Lib.hid (G.rnames_eq nmB e)
  have X := Eb.start w e 26
  obtain ⟨A, hA⟩ : ∃ A, Hid (e.ad = A) := ⟨_, Lib.hid rfl⟩
  rw [hA.out] at hl
  obtain ⟨D, hD⟩ : ∃ D, Hid (e.na = D) := ⟨_, Lib.hid rfl⟩
  obtain ⟨z, hz⟩ : ∃ z, Hid (G.rnames nmB e = z) := ⟨_, Lib.hid rfl⟩
  rw [hz.out] at HF ⊢
  clear ih hin hz
  obtain ⟨f1, hf1⟩ : ∃ f1, Hid (f1 = !(decide (e.kd ≠ 4) || nmB e.nm)) := ⟨_, Lib.hid rfl⟩
  go_enter Tryz.func68, Tryz.ntmps68
  go_upto_region 1 with (fail)
  revert X
  generalize w.alloc (.cells #[.int .i64 e.kd, .int .i64 e.lo, .int .i64 e.hi, .int .i64 e.sz, .string e.nm, .slice e.na e.ns.length e.nc, .slice e.ad e.ks.length e.cap] 26) = w1
  intro X
  go_cut [13] (fun s wx => s = .bool f1 ∧ Eb w wx e)
  case first =>
    obtain ⟨k0, k1, k2, k3, k4, k5, k6⟩ := bx7 X.be
    by_cases h4 : e.kd = 4
    · rw [h4] at k0
      cases hq : nmB e.nm with
      | false =>
        have HR : Hid (Value.bool true = Value.bool f1) := Lib.hid (by rw [hf1.out, h4, hq]; rfl)
        have HQ : Hid ((!nmB e.nm) = true) := Lib.hid (by rw [hq]; rfl)
        clear hq h4
        go_wp2_with fail
        refine (xisname_any _ _).mono ?_
        rintro r w2 ⟨rfl, rfl⟩
        go_wp2_with fail
        go_meet
        exact ⟨by rw [HQ.out]; exact HR.out, X⟩
      | true =>
        have HR : Hid (Value.bool false = Value.bool f1) := Lib.hid (by rw [hf1.out, h4, hq]; rfl)
        have HQ : Hid ((!nmB e.nm) = false) := Lib.hid (by rw [hq]; rfl)
        clear hq h4
        go_wp2_with fail
        refine (xisname_any _ _).mono ?_
        rintro r w2 ⟨rfl, rfl⟩
        go_wp2_with fail
        go_meet
        exact ⟨by rw [HQ.out]; exact HR.out, X⟩
    · have q4 : (e.kd == 4) = false := by simpa using h4
      have HR : Hid (Value.bool false = Value.bool f1) := Lib.hid (by rw [hf1.out, decide_eq_true h4]; rfl)
      clear h4
      go_wp2_with fail
      go_meet
      exact ⟨HR.out, X⟩
  case rest =>
    obtain ⟨rfl, X⟩ := hcut
    cases hq : (decide (e.kd ≠ 4) || nmB e.nm) with
    | false =>
      have HQ : Hid (false = z) := Lib.hid (by rw [HF.out, hq]; rfl)
      have b1 := X.bel
      have hf1v : Hid (f1 = true) := Lib.hid (by rw [hf1.out, hq]; rfl)
      obtain rfl := hf1v.out
      clear hq HF
      go_wp2_with fail
      go_ret
      exact ⟨ret_bool HQ.out, b1⟩
    | true =>
      have HF2 : Hid (z = (e.ns.all nmB && e.ks.all (G.rnames nmB))) := Lib.hid (by rw [HF.out, hq]; rfl)
      have hf1v : Hid (f1 = false) := Lib.hid (by rw [hf1.out, hq]; rfl)
      obtain rfl := hf1v.out
      clear hq HF
      go_wp2_with fail
      go_loopw [3] (fun iv wr => ∃ i : Nat, i ≤ e.ns.length ∧ iv = .int .i64 i ∧ Hid (∀ k, k < i → ∀ hk : k < e.ns.length, nmB e.ns[k] = true) ∧ Eb w wr e) (fun iv _ => e.ns.length - (intOf iv).toNat)
      case atStart => exact ⟨0, Nat.zero_le _, rfl, Lib.hid (fun k hk => absurd hk (Nat.not_lt_zero _)), X⟩
      case round =>
        clear X
        obtain ⟨i, hi, rfl, hg, Y⟩ := hrel
        have c5 : wr.cell? ⟨w.heap.size, 5, none⟩ = some (.slice D e.ns.length e.nc) := by have := Y.be.c 5 (show e.box[5]? = some (.slice e.na e.ns.length e.nc) from rfl); rwa [hD.out] at this
        have c6 : wr.cell? ⟨w.heap.size, 6, none⟩ = some (.slice A e.ks.length e.cap) := by have := Y.c6; rwa [hA.out] at this
        have b3 := Y.bel
        by_cases hlt : i < e.ns.length
        · obtain ⟨ab, off, hA2, hab, hc⟩ := (hnd.out.below Y.bel).name_at hlt
          obtain rfl : D = some ⟨ab, off, none⟩ := hD.out.symm.trans hA2
          clear hA2
          have HG := Lib.hid (fun (h : nmB e.ns[i] = true) k (hk : k < i + 1) (hk2 : k < e.ns.length) => show nmB e.ns[k] = true by
            by_cases hki : k = i
            · subst hki; exact h
            · exact hg.out k (by omega) hk2)
          have HB := Lib.hid (fun (h : nmB e.ns[i] = false) => all_hit hlt h)
          revert HG HB hc
          generalize e.ns[i] = s
          intro hc HG HB
          cases hq : nmB s with
          | false =>
            have HN : Hid ((!nmB s) = true) := Lib.hid (by rw [hq]; rfl)
            have HR : Hid (false = z) := Lib.hid (by rw [HF2.out, HB.out hq]; rfl)
            clear hq HB HG hg
            go_wp2_with fail
            refine (xisname_any _ _).mono ?_
            rintro r w2 ⟨rfl, rfl⟩
            rw [show nmB s = false by have := HN.out; simpa using this]
            go_wp2_with fail
            go_ret
            exact ⟨ret_bool HR.out, b3⟩
          | true =>
            have HN : Hid (nmB s = true) := Lib.hid hq
            have HG2 := Lib.hid (HG.out hq)
            clear hq HB HG hg
            go_wp2_with fail
            refine (xisname_any _ _).mono ?_
            rintro r w2 ⟨rfl, rfl⟩
            rw [HN.out]
            go_wp2_with fail
            go_roundw
            case rel => exact ⟨i + 1, by omega, by go_num, HG2, Y⟩
            case measure => simp [intOf]; omega
        · obtain rfl : i = e.ns.length := by omega
          have HR : Hid (z = e.ks.all (G.rnames nmB)) := Lib.hid (by rw [HF2.out, all_take (p := nmB) hg.out]; rfl)
          clear hg HF2
          go_wp2_with fail
          clear c5 c6
          go_loopw [4] (fun iv wr => ∃ i : Nat, i ≤ e.ks.length ∧ iv = .int .i64 i ∧ Hid (∀ k, k < i → ∀ e', G.Is e.ks k e' → (G.rnames nmB) e' = true) ∧ Eb w wr e) (fun iv _ => e.ks.length - (intOf iv).toNat)
          case atStart => exact ⟨0, Nat.zero_le _, rfl, Lib.hid (fun k hk => absurd hk (Nat.not_lt_zero _)), Y⟩
          case round =>
            clear Y
            obtain ⟨i, hi, rfl, hg, Y⟩ := hrel
            have c6 := Y.c6
            rw [hA.out] at c6
            have b3 := Y.bel
            by_cases hlt : i < e.ks.length
            · obtain ⟨ab, off, k, rfl, hab, ⟨d0, d1, d2, d3, d4, d5, d6⟩, his, hkin⟩ := (hl.below Y.bel).at_ hlt
              have HI := Lib.hid (IH.out k his.mem)
              have hk2 := Y.kid hkin
              cases hb2 : (G.rnames nmB) k with
              | false =>
                have HQ : Hid (false = z) := Lib.hid (by rw [HR.out, G.all_bad his hb2])
                have HB2 := Lib.hid hb2
                clear hb2 hkin hg
                go_wp2_with fail
                refine (HI.out _ hk2).mono ?_
                rintro r w2 ⟨rfl, b2⟩
                rw [HB2.out]
                go_wp2_with fail
                go_ret
                exact ⟨ret_bool HQ.out, bTrans b3 b2⟩
              | true =>
                have HG : Hid (∀ k, k < i + 1 → ∀ e', G.Is e.ks k e' → (G.rnames nmB) e' = true) := Lib.hid (G.all_next (p := (G.rnames nmB)) hg.out his hb2)
                have HB2 := Lib.hid hb2
                clear hb2 hkin hg
                go_wp2_with fail
                refine (HI.out _ hk2).mono ?_
                rintro r w2 ⟨rfl, b2⟩
                rw [HB2.out]
                have Y2 := Y.below b2
                go_wp2_with fail
                go_roundw
                case rel => exact ⟨i + 1, by omega, by go_num, HG, Y2⟩
                case measure => simp [intOf]; omega
            · obtain rfl : i = e.ks.length := by omega
              have HQ : Hid (true = z) := Lib.hid (by rw [HR.out, G.all_good hg.out])
              go_wp2_with fail
              go_ret
              exact ⟨ret_bool HQ.out, b3⟩
end Go.Proofs.YtlifnabeilnblaaGreatDoor
/- Walks: within, typeNumbers of the reference. -/
namespace Go.Proofs.YtlifnabeilnblaaGreatDoor
open Go.RowKit Go.Sort
set_option linter.unusedVariables false

/-- within the range of numbers -/
def wI (n : Int) : Bool := decide (-1048576 ≤ n) && decide (n ≤ 1048576)
theorem rwithin_any (n : Int) (w : World) : Calls Tryz.prog 84 #[.int .i64 n] w fun e w' => e = .returned (.bool (wI n)) ∧ w = w' := by
  by_cases h1 : -1048576 ≤ n
  · have HR : Hid (decide (n ≤ 1048576) = wI n) := Lib.hid (by unfold wI; rw [decide_eq_true h1]; rfl)
    go_enter Tryz.func84, Tryz.ntmps84
    go_wp2_with fail
    go_ret
    exact ⟨ret_bool HR.out, rfl⟩
  · have HR : Hid (false = wI n) := Lib.hid (by unfold wI; rw [decide_eq_false h1]; rfl)
    go_enter Tryz.func84, Tryz.ntmps84
    go_wp2_with fail
    go_ret
    exact ⟨ret_bool HR.out, rfl⟩
theorem rnum1_eq (e : G) : G.rnum1 e = ((decide (e.kd ≠ 1) || (wI e.lo && wI e.hi && decide (e.lo ≤ e.hi))) && (decide (e.kd ≠ 2) || (decide (1 ≤ e.sz) && decide (e.sz ≤ 32))) && decide (e.ks.length ≤ 32)) := rfl
/-- the contract of the numbers -/
def NuE (e : G) : Prop := ∀ w : World, G.In w w.heap.size e → Calls Tryz.prog 69 #[e.val] w fun r w' => r = .returned (.bool e.rnumbers) ∧ Below w.heap.size w w'
set_option maxRecDepth 100000 in
set_option maxHeartbeats 8000000 in
theorem xnumbers_any (e : G) : NuE e := by
  induction e using G.ind with
  | h e ih =>
  intro w hin
  have IH := Lib.hid ih
  have hl := hin.l
  have hlen := hin.nd.len
  have HF : Hid (e.rnumbers = (G.rnum1 e && e.ks.all G.rnumbers)) := Lib.hid (G.rnumbers_eq e)
  have X := Eb.start w e 26
  obtain ⟨A, hA⟩ : ∃ A, Hid (e.ad = A) := ⟨_, Lib.hid rfl⟩
  rw [hA.out] at hl
  obtain ⟨z, hz⟩ : ∃ z, Hid (e.rnumbers = z) := ⟨_, Lib.hid rfl⟩
  rw [hz.out] at HF ⊢
  clear ih hin hz
  obtain ⟨f1, hf1⟩ : ∃ f1, Hid (f1 = !G.rnum1 e) := ⟨_, Lib.hid rfl⟩
  go_enter Tryz.func69, Tryz.ntmps69
  go_upto_region 1 with (fail)
  revert X
  generalize w.alloc (.cells #[.int .i64 e.kd, .int .i64 e.lo, .int .i64 e.hi, .int .i64 e.sz, .string e.nm, .slice e.na e.ns.length e.nc, .slice e.ad e.ks.length e.cap] 26) = w1
  intro X
  go_cut [46] (fun s wx => s = .bool f1 ∧ Eb w wx e)
  case first =>
    obtain ⟨k0, k1, k2, k3, k4, k5, k6⟩ := bx7 X.be
    by_cases h1 : e.kd = 1
    · rw [h1] at k0
      cases ha : wI e.lo with
      | false =>
        have HA : Hid (wI e.lo = false) := Lib.hid ha
        have HR : Hid (Value.bool true = Value.bool f1) := Lib.hid (by rw [hf1.out, rnum1_eq]; simp [h1, ha])
        clear h1 ha
        go_wp2_with fail
        refine (rwithin_any _ _).mono ?_
        rintro r w2 ⟨rfl, rfl⟩
        rw [HA.out]
        go_wp2_with fail
        go_meet
        refine ⟨?_, X⟩
        first
          | exact HR.out
          | (rw [← HR.out]; simp; omega)
          | (rw [← HR.out]; simp; done)
      | true =>
        have HA : Hid (wI e.lo = true) := Lib.hid ha
        cases hb : wI e.hi with
        | false =>
          have HB : Hid (wI e.hi = false) := Lib.hid hb
          have HR : Hid (Value.bool true = Value.bool f1) := Lib.hid (by rw [hf1.out, rnum1_eq]; simp [h1, ha, hb])
          clear h1 ha hb
          go_wp2_with fail
          refine (rwithin_any _ _).mono ?_
          rintro r w2 ⟨rfl, rfl⟩
          rw [HA.out]
          go_wp2_with fail
          refine (rwithin_any _ _).mono ?_
          rintro r w2 ⟨rfl, rfl⟩
          rw [HB.out]
          go_wp2_with fail
          go_meet
          refine ⟨?_, X⟩
          first
            | exact HR.out
            | (rw [← HR.out]; simp; omega)
            | (rw [← HR.out]; simp; done)
        | true =>
          have HB : Hid (wI e.hi = true) := Lib.hid hb
          by_cases hc : e.lo ≤ e.hi
          · have qc : ¬ e.hi < e.lo := by omega
            by_cases hk : e.ks.length ≤ 32
            · have qk : ¬ (32 : Int) < ((e.ks.length : Nat) : Int) := by omega
              have HR : Hid (Value.bool false = Value.bool f1) := Lib.hid (by rw [hf1.out, rnum1_eq]; simp [h1, ha, hb, hc, hk])
              clear h1 ha hb hc hk
              go_wp2_with fail
              refine (rwithin_any _ _).mono ?_
              rintro r w2 ⟨rfl, rfl⟩
              rw [HA.out]
              go_wp2_with fail
              refine (rwithin_any _ _).mono ?_
              rintro r w2 ⟨rfl, rfl⟩
              rw [HB.out]
              go_wp2_with fail
              go_meet
              refine ⟨?_, X⟩
              first
                | exact HR.out
                | (rw [← HR.out]; simp; omega)
                | (rw [← HR.out]; simp; done)
            · have qk : (32 : Int) < ((e.ks.length : Nat) : Int) := by omega
              have HR : Hid (Value.bool true = Value.bool f1) := Lib.hid (by rw [hf1.out, rnum1_eq]; simp [h1, ha, hb, hc, show ¬ e.ks.length ≤ 32 from hk])
              clear h1 ha hb hc hk
              go_wp2_with fail
              refine (rwithin_any _ _).mono ?_
              rintro r w2 ⟨rfl, rfl⟩
              rw [HA.out]
              go_wp2_with fail
              refine (rwithin_any _ _).mono ?_
              rintro r w2 ⟨rfl, rfl⟩
              rw [HB.out]
              go_wp2_with fail
              go_meet
              refine ⟨?_, X⟩
              first
                | exact HR.out
                | (rw [← HR.out]; simp; omega)
                | (rw [← HR.out]; simp; done)
          · have qc : e.hi < e.lo := by omega
            have HR : Hid (Value.bool true = Value.bool f1) := Lib.hid (by rw [hf1.out, rnum1_eq]; simp [h1, ha, hb, show ¬ e.lo ≤ e.hi from hc])
            clear h1 ha hb hc
            go_wp2_with fail
            refine (rwithin_any _ _).mono ?_
            rintro r w2 ⟨rfl, rfl⟩
            rw [HA.out]
            go_wp2_with fail
            refine (rwithin_any _ _).mono ?_
            rintro r w2 ⟨rfl, rfl⟩
            rw [HB.out]
            go_wp2_with fail
            go_meet
            refine ⟨?_, X⟩
            first
              | exact HR.out
              | (rw [← HR.out]; simp; omega)
              | (rw [← HR.out]; simp; done)
    by_cases h2 : e.kd = 2
    · rw [h2] at k0
      by_cases ha : 1 ≤ e.sz
      · have qa : ¬ e.sz < 1 := by omega
        by_cases hb : e.sz ≤ 32
        · have qb : ¬ 32 < e.sz := by omega
          by_cases hk : e.ks.length ≤ 32
          · have qk : ¬ (32 : Int) < ((e.ks.length : Nat) : Int) := by omega
            have HR : Hid (Value.bool false = Value.bool f1) := Lib.hid (by rw [hf1.out, rnum1_eq]; simp [h2, ha, hb, hk])
            clear h1 h2 ha hb hk
            go_wp2_with fail
            go_meet
            refine ⟨?_, X⟩
            first
              | exact HR.out
              | (rw [← HR.out]; simp; omega)
              | (rw [← HR.out]; simp; done)
          · have qk : (32 : Int) < ((e.ks.length : Nat) : Int) := by omega
            have HR : Hid (Value.bool true = Value.bool f1) := Lib.hid (by rw [hf1.out, rnum1_eq]; simp [h2, ha, hb, show ¬ e.ks.length ≤ 32 from hk])
            clear h1 h2 ha hb hk
            go_wp2_with fail
            go_meet
            refine ⟨?_, X⟩
            first
              | exact HR.out
              | (rw [← HR.out]; simp; omega)
              | (rw [← HR.out]; simp; done)
        · have qb : 32 < e.sz := by omega
          have HR : Hid (Value.bool true = Value.bool f1) := Lib.hid (by rw [hf1.out, rnum1_eq]; simp [h2, ha, show ¬ e.sz ≤ 32 from hb])
          clear h1 h2 ha hb
          go_wp2_with fail
          go_meet
          refine ⟨?_, X⟩
          first
            | exact HR.out
            | (rw [← HR.out]; simp; omega)
            | (rw [← HR.out]; simp; done)
      · have qa : e.sz < 1 := by omega
        have HR : Hid (Value.bool true = Value.bool f1) := Lib.hid (by rw [hf1.out, rnum1_eq]; simp [h2, show ¬ 1 ≤ e.sz from ha])
        clear h1 h2 ha
        go_wp2_with fail
        go_meet
        refine ⟨?_, X⟩
        first
          | exact HR.out
          | (rw [← HR.out]; simp; omega)
          | (rw [← HR.out]; simp; done)
    have q1 : (e.kd == 1) = false := by simpa using h1
    have q2 : (e.kd == 2) = false := by simpa using h2
    by_cases hk : e.ks.length ≤ 32
    · have qk : ¬ (32 : Int) < ((e.ks.length : Nat) : Int) := by omega
      have HR : Hid (Value.bool false = Value.bool f1) := Lib.hid (by rw [hf1.out, rnum1_eq]; simp [h1, h2, hk])
      clear h1 h2 hk
      go_wp2_with fail
      go_meet
      refine ⟨?_, X⟩
      first
        | exact HR.out
        | (rw [← HR.out]; simp; omega)
        | (rw [← HR.out]; simp; done)
    · have qk : (32 : Int) < ((e.ks.length : Nat) : Int) := by omega
      have HR : Hid (Value.bool true = Value.bool f1) := Lib.hid (by rw [hf1.out, rnum1_eq]; simp [h1, h2, show ¬ e.ks.length ≤ 32 from hk])
      clear h1 h2 hk
      go_wp2_with fail
      go_meet
      refine ⟨?_, X⟩
      first
        | exact HR.out
        | (rw [← HR.out]; simp; omega)
        | (rw [← HR.out]; simp; done)
  case rest =>
    obtain ⟨rfl, X⟩ := hcut
    cases hq : G.rnum1 e with
    | false =>
      have HQ : Hid (false = z) := Lib.hid (by rw [HF.out, hq]; rfl)
      have b1 := X.bel
      have hf1v : Hid (f1 = true) := Lib.hid (by rw [hf1.out, hq]; rfl)
      obtain rfl := hf1v.out
      clear hq HF
      go_wp2_with fail
      go_ret
      exact ⟨ret_bool HQ.out, b1⟩
    | true =>
      have HR : Hid (z = e.ks.all G.rnumbers) := Lib.hid (by rw [HF.out, hq]; rfl)
      have hf1v : Hid (f1 = false) := Lib.hid (by rw [hf1.out, hq]; rfl)
      obtain rfl := hf1v.out
      clear hq HF
      go_wp2_with fail
      go_loopw [3] (fun iv wr => ∃ i : Nat, i ≤ e.ks.length ∧ iv = .int .i64 i ∧ Hid (∀ k, k < i → ∀ e', G.Is e.ks k e' → G.rnumbers e' = true) ∧ Eb w wr e) (fun iv _ => e.ks.length - (intOf iv).toNat)
      case atStart => exact ⟨0, Nat.zero_le _, rfl, Lib.hid (fun k hk => absurd hk (Nat.not_lt_zero _)), X⟩
      case round =>
        clear X
        obtain ⟨i, hi, rfl, hg, Y⟩ := hrel
        have c6 := Y.c6
        rw [hA.out] at c6
        have b3 := Y.bel
        by_cases hlt : i < e.ks.length
        · obtain ⟨ab, off, k, rfl, hab, ⟨d0, d1, d2, d3, d4, d5, d6⟩, his, hkin⟩ := (hl.below Y.bel).at_ hlt
          have HI := Lib.hid (IH.out k his.mem)
          have hk2 := Y.kid hkin
          cases hb2 : G.rnumbers k with
          | false =>
            have HQ : Hid (false = z) := Lib.hid (by rw [HR.out, G.all_bad his hb2])
            have HB2 := Lib.hid hb2
            clear hb2 hkin hg
            go_wp2_with fail
            refine (HI.out _ hk2).mono ?_
            rintro r w2 ⟨rfl, b2⟩
            rw [HB2.out]
            go_wp2_with fail
            go_ret
            exact ⟨ret_bool HQ.out, bTrans b3 b2⟩
          | true =>
            have HG : Hid (∀ k, k < i + 1 → ∀ e', G.Is e.ks k e' → G.rnumbers e' = true) := Lib.hid (G.all_next (p := G.rnumbers) hg.out his hb2)
            have HB2 := Lib.hid hb2
            clear hb2 hkin hg
            go_wp2_with fail
            refine (HI.out _ hk2).mono ?_
            rintro r w2 ⟨rfl, b2⟩
            rw [HB2.out]
            have Y2 := Y.below b2
            go_wp2_with fail
            go_roundw
            case rel => exact ⟨i + 1, by omega, by go_num, HG, Y2⟩
            case measure => simp [intOf]; omega
        · obtain rfl : i = e.ks.length := by omega
          have HQ : Hid (true = z) := Lib.hid (by rw [HR.out, G.all_good hg.out])
          go_wp2_with fail
          go_ret
          exact ⟨ret_bool HQ.out, b3⟩
end Go.Proofs.YtlifnabeilnblaaGreatDoor
/- Walks: deeper, verdict, addType of the reference. -/
namespace Go.Proofs.YtlifnabeilnblaaGreatDoor
open Go.RowKit Go.Sort
set_option linter.unusedVariables false

abbrev szV (n d : Nat) : Value := .agg #[.int .i64 (n : Int), .int .i64 (d : Int)]
theorem two_put {w : World} {b : Nat} {x y : Value} (h : Blk w b #[x, y]) (u v : Value) : Blk ((w.setCell ⟨b, 0, none⟩ u).setCell ⟨b, 1, none⟩ v) b #[u, v] := (h.put 0 u).put 1 v
theorem c2 {w : World} {b : Nat} {x y : Value} (h : Blk w b #[x, y]) : w.cell? ⟨b, 0, none⟩ = some x ∧ w.cell? ⟨b, 1, none⟩ = some y := ⟨h.c 0 rfl, h.c 1 rfl⟩
/-- the boxes of deeper: the size, the result -/
structure DeW (w wr : World) (n d : Nat) : Prop where
  bs : Blk wr w.heap.size #[.int .i64 (n : Int), .int .i64 (d : Int)]
  br : Blk wr (w.heap.size + 1) #[.int .i64 0, .int .i64 0]
  bel : Below w.heap.size w wr
theorem DeW.start (w : World) (n d : Nat) (T T' : TypeId) : DeW w ((w.alloc (.cells #[.int .i64 (n : Int), .int .i64 (d : Int)] T)).alloc (.cells #[.int .i64 0, .int .i64 0] T')) n d :=
  ⟨(Blk.new_ _ _ _).alloc _, by
    have := Blk.new_ (w.alloc (.cells #[.int .i64 (n : Int), .int .i64 (d : Int)] T)) #[.int .i64 0, .int .i64 0] T'
    rwa [World.size_alloc] at this, (al1 w _).alloc (by simp) _⟩
set_option maxRecDepth 100000 in
set_option maxHeartbeats 1000000 in
theorem deeper_any (n d k : Nat) (w : World) : Calls Tryz.prog 81 #[szV n d, .int .i64 (k : Int)] w fun r w' => r = .returned (szV n (max d k)) ∧ Below w.heap.size w w' := by
  have X := DeW.start w n d 111 111
  obtain ⟨m, hm⟩ : ∃ m, Hid (max d k = m) := ⟨_, Lib.hid rfl⟩
  rw [hm.out]
  go_enter Tryz.func81, Tryz.ntmps81
  go_upto_region 1 with (fail)
  revert X
  generalize (w.alloc (.cells #[.int .i64 (n : Int), .int .i64 (d : Int)] 111)).alloc (.cells #[.int .i64 0, .int .i64 0] 111) = w1
  intro X
  obtain ⟨c0, c1⟩ := c2 X.bs
  have f0 := X.bs.fr 0
  have f1 := X.bs.fr 1
  obtain ⟨e0, e1⟩ := c2 X.br
  have g0 := X.br.fr 0
  have g1 := X.br.fr 1
  have hlt := X.br.lt
  by_cases h : d < k
  · obtain rfl : m = k := by have := hm.out; omega
    clear hm
    have s0 := X.bs.put 1 (.int .i64 (m : Int))
    obtain ⟨i0, i1⟩ := c2 (x := .int .i64 (n : Int)) (y := .int .i64 (m : Int)) s0
    go_wp2_with fail
    obtain ⟨r0, r1⟩ := c2 (two_put (X.br.far (p := ⟨w.heap.size, 1, none⟩) (by simp) (.int .i64 (m : Int))) (.int .i64 (n : Int)) (.int .i64 (m : Int)))
    refine bodyPost_ret (v := szV n m) (by simp [results, Tryz.results81, go_sem, r0, r1]) rfl ⟨rfl, ?_⟩
    exact ((X.bel.setCell (p := ⟨w.heap.size, 1, none⟩) (by simp) _).setCell (p := ⟨w.heap.size + 1, 0, none⟩) (by simp) _).setCell (p := ⟨w.heap.size + 1, 1, none⟩) (by simp) _
  · obtain rfl : m = d := by have := hm.out; omega
    clear hm
    go_wp2_with fail
    obtain ⟨r0, r1⟩ := c2 (two_put X.br (.int .i64 (n : Int)) (.int .i64 (m : Int)))
    refine bodyPost_ret (v := szV n m) (by simp [results, Tryz.results81, go_sem, r0, r1]) rfl ⟨rfl, ?_⟩
    exact (X.bel.setCell (p := ⟨w.heap.size + 1, 0, none⟩) (by simp) _).setCell (p := ⟨w.heap.size + 1, 1, none⟩) (by simp) _
/-- the verdict -/
def vdC (n d : Nat) (f m u : Bool) : Int := if 1024 < n ∨ 12 < d then 4 else if !f then 1 else if !m then 7 else if !u then 3 else 0
set_option maxRecDepth 100000 in
set_option maxHeartbeats 1000000 in
theorem verdict_any (n d : Nat) (f m u : Bool) (w : World) : Calls Tryz.prog 65 #[szV n d, .bool f, .bool m, .bool u] w fun r w' => r = .returned (.int .i64 (vdC n d f m u)) ∧ Below w.heap.size w w' := by
  obtain ⟨z, hz⟩ : ∃ z, Hid (z = vdC n d f m u) := ⟨_, Lib.hid rfl⟩
  rw [← hz.out]
  by_cases h1 : 1024 < n
  · have HR : Hid (4 = z) := Lib.hid (by rw [hz.out]; unfold vdC; rw [if_pos (.inl h1)])
    go_enter Tryz.func65, Tryz.ntmps65
    go_wp2_with fail
    go_ret
    exact ⟨ret_int HR.out, al1 _ _⟩
  by_cases h2 : 12 < d
  · have HR : Hid (4 = z) := Lib.hid (by rw [hz.out]; unfold vdC; rw [if_pos (.inr h2)])
    go_enter Tryz.func65, Tryz.ntmps65
    go_wp2_with fail
    go_ret
    exact ⟨ret_int HR.out, al1 _ _⟩
  have HZ : Hid (z = if !f then 1 else if !m then 7 else if !u then 3 else 0) := Lib.hid (by rw [hz.out]; unfold vdC; rw [if_neg (by omega)])
  cases f
  all_goals cases m
  all_goals cases u
  all_goals
    have HR := HZ.out
    simp only [Bool.not_false, Bool.not_true, if_true, Bool.false_eq_true, if_false] at HR
    have HR2 := Lib.hid HR.symm
    clear HR hz
    go_enter Tryz.func65, Tryz.ntmps65
    go_wp2_with fail
    go_ret
    exact ⟨ret_int HR2.out, al1 _ _⟩
/-- the boxes of addType: the size, the expression, the result -/
structure AxW (w wr : World) (e : G) (n : Nat) : Prop where
  bs : Blk wr w.heap.size #[.int .i64 (n : Int), .int .i64 0]
  be : Blk wr (w.heap.size + 1) e.box
  br : Blk wr (w.heap.size + 2) #[.int .i64 0, .int .i64 0]
  bel : Below w.heap.size w wr
theorem AxW.start (w : World) (e : G) (T T' T'' : TypeId) : AxW w (((w.alloc (.cells #[.int .i64 0, .int .i64 0] T)).alloc (.cells e.box T')).alloc (.cells #[.int .i64 0, .int .i64 0] T'')) e 0 :=
  ⟨((Blk.new_ _ _ _).alloc _).alloc _, by
    have := (Blk.new_ (w.alloc (.cells #[.int .i64 0, .int .i64 0] T)) e.box T').alloc (.cells #[.int .i64 0, .int .i64 0] T'')
    rwa [World.size_alloc] at this, by
    have := Blk.new_ ((w.alloc (.cells #[.int .i64 0, .int .i64 0] T)).alloc (.cells e.box T')) #[.int .i64 0, .int .i64 0] T''
    rwa [World.size_alloc, World.size_alloc] at this, ((al1 w _).alloc (by simp) _).alloc (by simp; omega) _⟩
theorem AxW.below {w wr w' : World} {e : G} {n : Nat} (h : AxW w wr e n) (hb : Below wr.heap.size wr w') : AxW w w' e n := ⟨h.bs.below hb h.bs.lt, h.be.below hb h.be.lt, h.br.below hb h.br.lt, bTrans h.bel hb⟩
theorem AxW.drew {w wr : World} {e : G} {n : Nat} (h : AxW w wr e n) : AxW w wr.drew e n := h.below (show Below wr.heap.size wr wr.drew from (Below.refl _ _).drew)
theorem AxW.put {w wr : World} {e : G} {n : Nat} (h : AxW w wr e n) (m : Nat) : AxW w (wr.setCell ⟨w.heap.size, 0, none⟩ (.int .i64 (m : Int))) e m :=
  ⟨h.bs.put 0 _, h.be.far (by simp) _, h.br.far (by simp) _, h.bel.setCell (by simp) _⟩
/-- the size with the nodes in it -/
def AxM (w : World) (e : G) (n : Nat) (w' : World) : Prop := AxW w w' e n
def AxE (w : World) (n d : Nat) (w' : World) : Prop := Blk w' (w.heap.size + 2) #[.int .i64 (n : Int), .int .i64 (d : Int)] ∧ Below w.heap.size w w'
set_option maxRecDepth 100000 in
set_option maxHeartbeats 1000000 in
theorem addType_any (e : G) (w : World) (hin : G.In w w.heap.size e) (hn : e.nodes ≤ 1000000) : Calls Tryz.prog 66 #[.agg #[.int .i64 0, .int .i64 0], e.val, .bool true] w fun r w' => r = .returned (szV e.nodes e.dep) ∧ Below w.heap.size w w' := by
  have X := AxW.start w e 111 26 111
  obtain ⟨n, hnn⟩ : ∃ n, Hid (e.nodes = n) := ⟨_, Lib.hid rfl⟩
  obtain ⟨d, hd⟩ : ∃ d, Hid (e.dep = d) := ⟨_, Lib.hid rfl⟩
  rw [hnn.out, hd.out]
  go_enter Tryz.func66, Tryz.ntmps66
  go_upto_region 1 with (fail)
  revert X
  generalize ((w.alloc (.cells #[.int .i64 0, .int .i64 0] 111)).alloc (.cells #[.int .i64 e.kd, .int .i64 e.lo, .int .i64 e.hi, .int .i64 e.sz, .string e.nm, .slice e.na e.ns.length e.nc, .slice e.ad e.ks.length e.cap] 26)).alloc (.cells #[.int .i64 0, .int .i64 0] 111) = w1
  intro X
  go_upto_region 3 with (fail)
  replace X := X.drew
  obtain ⟨c0, c1⟩ := c2 (x := .int .i64 0) X.bs
  obtain ⟨e0, e1, e2, e3, e4, e5, e6⟩ := bx7 X.be
  have f0 := X.bs.fr 0
  have hnb : n ≤ 1000000 := by rw [← hnn.out]; exact hn
  have hwn : IntKind.i64.wrap (n : Int) = (n : Int) := IntWalk.i64_in _ (by omega)
  go_cut [17] (fun s17 wx => s17 = .int .i64 (n : Int) ∧ AxM w e n wx)
  case first =>
    go_region_with ((go_at_call 80; refine (rnodes_any e _ (hin.at X.bel) hn).mono ?_; rintro r w3 ⟨rfl, hb3⟩; rw [hnn.out]; have Y := X.below hb3; obtain ⟨d0, d1⟩ := c2 (x := .int .i64 0) Y.bs; have g0 := Y.bs.fr 0))
    all_goals
      go_wp2_with fail
      go_meet
      exact ⟨rfl, Y.put n⟩
  case rest =>
    obtain ⟨rfl, hx⟩ := hcut
    have Z : AxW w wc e n := hx
    clear hx X c0 c1 e0 e1 e2 e3 e4 e5 e6 f0 hwn
    replace Z := Z.drew
    obtain ⟨c0, c1⟩ := c2 Z.bs
    obtain ⟨e0, e1, e2, e3, e4, e5, e6⟩ := bx7 Z.be
    obtain ⟨r0, r1⟩ := c2 Z.br
    have f0 := Z.br.fr 0
    have f1 := Z.br.fr 1
    have hmx : Hid (max 0 d = d) := Lib.hid (by omega)
    go_upto_region 4 with (fail)
    go_cut [23] (fun s23 wx => s23 = szV n d ∧ AxE w n d wx)
    case first =>
      go_region_with (first
        | (go_at_call 82; refine (rdepth_any e _ (hin.at Z.bel) (G.dep_le hn)).mono ?_; rintro r w3 ⟨rfl, hb3⟩; rw [hd.out]; have Y := Z.below hb3; obtain ⟨d0, d1⟩ := c2 Y.bs; obtain ⟨s0, s1⟩ := c2 Y.br; have g0 := Y.br.fr 0; have g1 := Y.br.fr 1)
        | (go_at_call 81; refine (deeper_any n 0 d _).mono ?_; rintro r w4 ⟨rfl, hb4⟩; rw [hmx.out]; have V := Y.below hb4; obtain ⟨v0, v1⟩ := c2 V.br; have h0 := V.br.fr 0; have h1 := V.br.fr 1))
      all_goals
        go_wp2_with fail
        go_meet
        exact ⟨rfl, two_put V.br _ _, (V.bel.setCell (p := ⟨w.heap.size + 2, 0, none⟩) (by simp) _).setCell (p := ⟨w.heap.size + 2, 1, none⟩) (by simp) _⟩
    case rest =>
      obtain ⟨rfl, hx2⟩ := hcut
      obtain ⟨z0, z1⟩ := c2 hx2.1
      have b2 := hx2.2
      clear Z c0 c1 e0 e1 e2 e3 e4 e5 e6 r0 r1 f0 f1
      go_wp2_with fail
      exact bodyPost_ret (v := szV n d) (by simp [results, Tryz.results66, go_sem, z0, z1]) rfl ⟨rfl, b2⟩
end Go.Proofs.YtlifnabeilnblaaGreatDoor
/- Walks: CheckType of the reference. -/
namespace Go.Proofs.YtlifnabeilnblaaGreatDoor
open Go.RowKit Go.Sort
set_option linter.unusedVariables false

set_option maxRecDepth 100000 in
set_option maxHeartbeats 1000000 in
theorem xcheck_any (e : G) (w : World) (hin : G.In w w.heap.size e) (hn : e.nodes ≤ 1000000) : Calls Tryz.prog 41 #[e.val] w fun r w' => r = .returned (.int .i64 (G.chk nmB e)) ∧ Below w.heap.size w w' := by
  have HV : Hid (vdC e.nodes e.dep e.rform (G.rnames nmB e) e.rnumbers = G.chk nmB e) := Lib.hid (by rw [G.chk_rchk]; rfl)
  have X := Eb.start w e 26
  obtain ⟨z, hz⟩ : ∃ z, Hid (G.chk nmB e = z) := ⟨_, Lib.hid rfl⟩
  rw [hz.out]
  go_enter Tryz.func41, Tryz.ntmps41
  go_upto_region 1 with (fail)
  revert X
  generalize w.alloc (.cells #[.int .i64 e.kd, .int .i64 e.lo, .int .i64 e.hi, .int .i64 e.sz, .string e.nm, .slice e.na e.ns.length e.nc, .slice e.ad e.ks.length e.cap] 26) = w1
  intro X
  have H : ∀ d os, G.In (grow (redrawn w1 d) os) (grow (redrawn w1 d) os).heap.size e := fun d os => hin.at (bTrans X.bel (below_regrown w1 d os))
  have Q1 := Lib.hid (show ∀ d os, Calls Tryz.prog 66 #[.agg #[.int .i64 0, .int .i64 0], e.val, .bool true] (grow (redrawn w1 d) os) fun r w'' => r = .returned (szV e.nodes e.dep) ∧ ∃ p : Regrown, w'' = grow (redrawn w1 p.d) p.os from
    fun d os => Calls.regrown_of (addType_any e _ (H d os) hn))
  have Q2 := Lib.hid (show ∀ d os, Calls Tryz.prog 67 #[e.val] (grow (redrawn w1 d) os) fun r w'' => r = .returned (.bool e.rform) ∧ ∃ p : Regrown, w'' = grow (redrawn w1 p.d) p.os from
    fun d os => Calls.regrown_of (rform_any e _ (H d os)))
  have Q3 := Lib.hid (show ∀ d os, Calls Tryz.prog 68 #[e.val] (grow (redrawn w1 d) os) fun r w'' => r = .returned (.bool (G.rnames nmB e)) ∧ ∃ p : Regrown, w'' = grow (redrawn w1 p.d) p.os from
    fun d os => Calls.regrown_of (xnames_any e _ (H d os)))
  have Q4 := Lib.hid (show ∀ d os, Calls Tryz.prog 69 #[e.val] (grow (redrawn w1 d) os) fun r w'' => r = .returned (.bool e.rnumbers) ∧ ∃ p : Regrown, w'' = grow (redrawn w1 p.d) p.os from
    fun d os => Calls.regrown_of (xnumbers_any e _ (H d os)))
  have Q5 := Lib.hid (show ∀ d os, Calls Tryz.prog 65 #[szV e.nodes e.dep, .bool e.rform, .bool (G.rnames nmB e), .bool e.rnumbers] (grow (redrawn w1 d) os) fun r w'' => r = .returned (.int .i64 z) ∧ ∃ p : Regrown, w'' = grow (redrawn w1 p.d) p.os from
    fun d os => by rw [← hz.out, ← HV.out]; exact Calls.regrown_of (verdict_any _ _ _ _ _ _))
  clear H HV hz
  obtain ⟨he0, he1, he2, he3, he4, he5, he6⟩ := bx7 X.be
  have ke0 := cell_regrown he0
  have ke1 := cell_regrown he1
  have ke2 := cell_regrown he2
  have ke3 := cell_regrown he3
  have ke4 := cell_regrown he4
  have ke5 := cell_regrown he5
  have ke6 := cell_regrown he6
  clear he0 he1 he2 he3 he4 he5 he6
  refine wp_region_quiet_below (by kernel_rfl) (by kernel_rfl) ?_
  repeat (quiet_step ((first
    | (go_at_call 66; exact Q1.out _ _)
    | (go_at_call 67; exact Q2.out _ _)
    | (go_at_call 68; exact Q3.out _ _)
    | (go_at_call 69; exact Q4.out _ _)
    | (go_at_call 65; exact Q5.out _ _))))
  refine wpQuiet_nil ?_
  intro _ hw'
  obtain ⟨⟨dq, osq⟩, hw''⟩ := hw'
  subst hw''
  go_wp2_with fail
  go_ret
  exact ⟨rfl, bTrans X.bel (below_regrown w1 dq osq)⟩
end Go.Proofs.YtlifnabeilnblaaGreatDoor
