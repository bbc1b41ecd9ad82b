/- Walks: math/bits.Div64 at ten to the nineteenth. -/
import Derived.Test.YtmhfdmidaheoeaaDoorT1
namespace Go.Proofs.YtmhfdmidaheoeaaDoor
open Go.RowKit
set_option linter.unusedVariables false

theorem lz_len : Lib.bitLen (Int.toNat 10000000000000000000) = 64 := by decide +kernel
theorem lz_top (y : Nat) (h : Hid (y = 10000000000000000000)) (w : World) : Calls Tryd.prog 89 #[.int .u64 (y : Int)] w fun e w' => e = .returned (.int .i64 0) ∧ w = w' := by
  rw [h.out]
  exact (Tryd.bits_LeadingZeros64 10000000000000000000 w (by decide) (by decide)).mono fun e w' ⟨he, hw⟩ => ⟨by rw [he, lz_len]; rfl, hw.symm⟩

theorem and_low (n : Nat) (h : n < 18446744073709551616) : bits BinOp.and IntKind.u64 (n : Int) 4294967295 = ((n % 4294967296 : Nat) : Int) := by
  have := u64_and_nat n 4294967295 h (by decide)
  rw [show ((4294967295 : Nat) : Int) = 4294967295 from rfl] at this
  rw [this, show (4294967295 : Nat) = 2 ^ 32 - 1 from rfl, Nat.and_two_pow_sub_one_eq_mod]

/-- what a digit's guess keeps -/
def Gs (h u q r : Nat) : Prop := q * 2328306436 + r = h ∧ h * 4294967296 + u < (q + 1) * 10000000000000000000
theorem gs_start {h u : Nat} (hh : h < 10000000000000000000) (hu : u < 4294967296) : Gs h u (h / 2328306436) (h % 2328306436) ∧ h / 2328306436 ≤ 4294967296 := by
  have e := Nat.div_add_mod h 2328306436
  have l := Nat.mod_lt h (show 0 < 2328306436 by decide)
  unfold Gs
  generalize h / 2328306436 = q at *
  generalize h % 2328306436 = r at *
  omega
theorem gs_step {h u q r : Nat} (hh : h < 10000000000000000000) (hu : u < 4294967296) (hr : r < 4294967296) (g : Gs h u q r) (hq : q ≤ 4294967296) (hc : 4294967296 ≤ q ∨ 4294967296 * r + u < q * 2313682944) : Gs h u (q - 1) (r + 2328306436) ∧ 0 < q := by
  unfold Gs at *; omega
theorem gs_end {h u q r : Nat} (g : Gs h u q r) (hc : q * 2313682944 ≤ 4294967296 * r + u) : (h * 4294967296 + u) / 10000000000000000000 = q := by
  unfold Gs at *
  rw [Nat.div_eq_iff (by decide)]
  omega
theorem gs_break {h u q r : Nat} (g : Gs h u q r) (hq : q ≤ 4294967296) (hr : 4294967296 ≤ r) : (h * 4294967296 + u) / 10000000000000000000 = q := by
  unfold Gs at *
  rw [Nat.div_eq_iff (by decide)]
  omega
theorem w64 {n : Nat} {z : Int} (h : z = (n : Int)) (hn : n < 18446744073709551616) : IntKind.u64.wrap z = (n : Int) := by rw [h]; exact wrap_nat hn
theorem rem_w {h u q y : Nat} (hh : h < 10000000000000000000) (hu : u < 4294967296) (hy : y = 10000000000000000000) (hq : (h * 4294967296 + u) / 10000000000000000000 = q) :
    IntKind.u64.wrap (IntKind.u64.wrap (IntKind.u64.wrap ((h : Int) * 4294967296) + (u : Int)) - IntKind.u64.wrap ((q : Int) * (y : Int))) = (((h * 4294967296 + u) % 10000000000000000000 : Nat) : Int) := by
  subst hy; rw [IntKind.wrap_u64, IntKind.wrap_u64, IntKind.wrap_u64, IntKind.wrap_u64]; omega

theorem div_e {hi lo u1 u0 v q1 q2 : Nat} (hh : hi < 10000000000000000000) (hl : lo < 18446744073709551616) (h1 : u1 = lo / 4294967296) (h0 : u0 = lo % 4294967296) (hv : v = (hi * 4294967296 + u1) % 10000000000000000000)
    (e1 : (hi * 4294967296 + u1) / 10000000000000000000 = q1) (e2 : (v * 4294967296 + u0) / 10000000000000000000 = q2) :
    (hi * 18446744073709551616 + lo) / 10000000000000000000 = q1 * 4294967296 + q2 := by
  have a1 : 10000000000000000000 * q1 + v = hi * 4294967296 + u1 := by rw [hv, ← e1]; exact Nat.div_add_mod _ _
  have a2 := Nat.div_add_mod (v * 4294967296 + u0) 10000000000000000000
  have a3 := Nat.mod_lt (v * 4294967296 + u0) (show 0 < 10000000000000000000 by decide)
  have a4 : v < 10000000000000000000 := by rw [hv]; exact Nat.mod_lt _ (by decide)
  rw [e2] at a2
  rw [Nat.div_eq_iff (by decide)]
  omega
theorem div_w {hi lo u1 u0 v q1 q2 : Nat} (hh : hi < 10000000000000000000) (hl : lo < 18446744073709551616) (h1 : u1 = lo / 4294967296) (h0 : u0 = lo % 4294967296) (hv : v = (hi * 4294967296 + u1) % 10000000000000000000)
    (e1 : (hi * 4294967296 + u1) / 10000000000000000000 = q1) (e2 : (v * 4294967296 + u0) / 10000000000000000000 = q2) :
    IntKind.u64.wrap (IntKind.u64.wrap ((q1 : Int) * 4294967296) + (q2 : Int)) = (((hi * 18446744073709551616 + lo) / 10000000000000000000 : Nat) : Int) := by
  have e := div_e hh hl h1 h0 hv e1 e2
  have hq : (hi * 18446744073709551616 + lo) / 10000000000000000000 < 18446744073709551616 := by omega
  rw [e] at hq ⊢
  rw [IntKind.wrap_u64, IntKind.wrap_u64]
  omega
theorem mod_w {hi lo u1 u0 v : Nat} (h1 : u1 = lo / 4294967296) (h0 : u0 = lo % 4294967296) (hv : v = (hi * 4294967296 + u1) % 10000000000000000000) :
    (v * 4294967296 + u0) % 10000000000000000000 = (hi * 18446744073709551616 + lo) % 10000000000000000000 := by
  have a1 := Nat.div_add_mod (hi * 4294967296 + u1) 10000000000000000000
  rw [← hv] at a1
  generalize (hi * 4294967296 + u1) / 10000000000000000000 = q at a1
  have e : hi * 18446744073709551616 + lo = v * 4294967296 + u0 + 10000000000000000000 * (4294967296 * q) := by omega
  rw [e, Nat.add_mul_mod_self_left]

set_option maxRecDepth 100000 in
set_option maxHeartbeats 4000000 in
theorem div64_any (hi lo y Q R : Nat) (hy : Hid (y = 10000000000000000000)) (h : hi < y) (hlo : Hid (lo < 18446744073709551616)) (hQ : Hid (Q = (hi * 18446744073709551616 + lo) / 10000000000000000000)) (hR : Hid (R = (hi * 18446744073709551616 + lo) % 10000000000000000000)) (w : World) :
    Calls Tryd.prog 74 #[.int .u64 (hi : Int), .int .u64 (lo : Int), .int .u64 (y : Int)] w fun e w' => e = .returned (.tuple #[.int .u64 (Q : Int), .int .u64 (R : Int)]) ∧ ∃ q, w' = w.drewN q := by
  have hy0 : 0 < y := by rw [hy.out]; decide
  by_cases h0 : hi = 0
  · subst h0
    have hyz : ((y : Int) == 0) = false := by simp; omega
    have hyle : ¬ ((y : Int) ≤ 0) := by omega
    have E1 : (lo : Int).tdiv (y : Int) = (Q : Int) := by rw [hQ.out, hy.out, ← Int.ofNat_tdiv, Nat.zero_mul, Nat.zero_add]
    have E2 : (lo : Int).tmod (y : Int) = (R : Int) := by rw [hR.out, hy.out, ← Int.ofNat_tmod, Nat.zero_mul, Nat.zero_add]
    have E3 : IntKind.u64.wrap (Q : Int) = (Q : Int) := w64 rfl (by rw [hQ.out]; have := hlo.out; omega)
    have E4 : IntKind.u64.wrap (R : Int) = (R : Int) := w64 rfl (by rw [hR.out]; omega)
    go_enter Tryd.func74, Tryd.ntmps74
    go_wp2_with fail
    go_quiet (fail)
    go_wp2_with fail
    go_ret2
    exact ⟨rfl, _, rfl⟩
  · have h01 : ((hi : Int) == 0) = false := by simp; omega
    have hyz : ((y : Int) == 0) = false := by simp; omega
    have hilt : Hid (hi < 10000000000000000000) := Lib.hid (by rw [← hy.out]; exact h)
    obtain ⟨n1, hn1⟩ : ∃ n : Nat, Hid (n = 2328306436) := ⟨_, Lib.hid rfl⟩
    obtain ⟨n0, hn0⟩ : ∃ n : Nat, Hid (n = 2313682944) := ⟨_, Lib.hid rfl⟩
    obtain ⟨u1, hu1⟩ : ∃ n : Nat, Hid (n = lo / 4294967296) := ⟨_, Lib.hid rfl⟩
    obtain ⟨u0, hu0⟩ : ∃ n : Nat, Hid (n = lo % 4294967296) := ⟨_, Lib.hid rfl⟩
    have u1l : Hid (u1 < 4294967296) := Lib.hid (by rw [hu1.out]; have := hlo.out; omega)
    have u0l : Hid (u0 < 4294967296) := Lib.hid (by rw [hu0.out]; omega)
    have D1 : IntKind.u64.wrap (y : Int) = (y : Int) := w64 rfl (by rw [hy.out]; decide)
    have D2 : (y : Int) / 4294967296 = (n1 : Int) := by rw [hy.out, hn1.out]; decide
    have D3 : bits BinOp.and IntKind.u64 (y : Int) 4294967295 = (n0 : Int) := by rw [hy.out, hn0.out]; decide +kernel
    have D4 : IntKind.u64.wrap (hi : Int) = (hi : Int) := w64 rfl (by have := hilt.out; omega)
    have D5 : (lo : Int) / 18446744073709551616 = 0 := by have := hlo.out; omega
    have D6 : bits BinOp.or IntKind.u64 (hi : Int) 0 = (hi : Int) := by
      have := u64_or_nat hi 0 (by have := hilt.out; omega) (by decide)
      simpa using this
    have D7 : IntKind.u64.wrap (lo : Int) = (lo : Int) := w64 rfl hlo.out
    have D8 : (lo : Int) / 4294967296 = (u1 : Int) := by rw [hu1.out]; omega
    have D9 : bits BinOp.and IntKind.u64 (lo : Int) 4294967295 = (u0 : Int) := by rw [and_low lo hlo.out, hu0.out]
    have n1p : 0 < n1 := by rw [hn1.out]; decide
    have n1z : ((n1 : Int) == 0) = false := by simp; omega
    obtain ⟨q1, hq1⟩ : ∃ q : Nat, Hid (q = hi / 2328306436) := ⟨_, Lib.hid rfl⟩
    obtain ⟨r1, hr1⟩ : ∃ r : Nat, Hid (r = hi % 2328306436) := ⟨_, Lib.hid rfl⟩
    obtain ⟨p1, hp1⟩ : ∃ p : Nat, Hid (p = hi / 2328306436 * 2328306436) := ⟨_, Lib.hid rfl⟩
    have G1 := Lib.hid (gs_start (h := hi) (u := u1) hilt.out u1l.out)
    have hqb1 : q1 ≤ 4294967296 := by rw [hq1.out]; exact G1.out.2
    have hrb1 : r1 < 4294967296 := by rw [hr1.out]; omega
    have GG1 : Hid (Gs hi u1 q1 r1) := Lib.hid (by rw [hq1.out, hr1.out]; exact G1.out.1)
    have E11 : (hi : Int).tdiv (n1 : Int) = (q1 : Int) := by rw [hn1.out, hq1.out, ← Int.ofNat_tdiv]
    have E21 : IntKind.u64.wrap (q1 : Int) = (q1 : Int) := w64 rfl (by omega)
    have E31 : IntKind.u64.wrap ((q1 : Int) * (n1 : Int)) = (p1 : Int) := w64 (by rw [hn1.out, hq1.out, hp1.out]; simp) (by rw [hp1.out]; have := hilt.out; omega)
    have E41 : IntKind.u64.wrap ((hi : Int) - (p1 : Int)) = (r1 : Int) := w64 (by rw [hp1.out, hr1.out]; omega) (by omega)
    go_enter Tryd.func74, Tryd.ntmps74
    go_wp2_with (go_at_call 89; refine (lz_top y hy _).mono ?_; rintro e w' ⟨rfl, rfl⟩)
    go_loop [15, 16] (fun qv rv => ∃ q r : Nat, qv = .int .u64 (q : Int) ∧ rv = .int .u64 (r : Int) ∧ q ≤ 4294967296 ∧ r < 4294967296 ∧ Hid (Gs hi u1 q r)) (fun qv _ => (intOf qv).toNat)
    case atStart => exact ⟨q1, r1, rfl, rfl, hqb1, hrb1, GG1⟩
    case round =>
      clear E11 E21 E31 E41 hqb1 hrb1 GG1 hq1 hr1 hp1 G1
      obtain ⟨q1, r1, rfl, rfl, hqb1, hrb1, GG1⟩ := hrel
      obtain ⟨a1, ha1⟩ : ∃ a : Nat, Hid (a = q1 * 2313682944) := ⟨_, Lib.hid rfl⟩
      obtain ⟨b1, hb1⟩ : ∃ b : Nat, Hid (b = 4294967296 * r1) := ⟨_, Lib.hid rfl⟩
      obtain ⟨c1, hc1⟩ : ∃ c : Nat, Hid (c = 4294967296 * r1 + u1) := ⟨_, Lib.hid rfl⟩
      have F11 : IntKind.u64.wrap ((q1 : Int) * (n0 : Int)) = (a1 : Int) := w64 (by rw [hn0.out, ha1.out]; simp) (by rw [ha1.out]; omega)
      have F21 : IntKind.u64.wrap (4294967296 * (r1 : Int)) = (b1 : Int) := w64 (by rw [hb1.out]; simp) (by rw [hb1.out]; omega)
      have F31 : IntKind.u64.wrap ((b1 : Int) + (u1 : Int)) = (c1 : Int) := w64 (by rw [hb1.out, hc1.out]; omega) (by rw [hc1.out]; have := u1l.out; omega)
      by_cases hcond : 4294967296 ≤ q1 ∨ c1 < a1
      · obtain ⟨GG2, hq0⟩ := gs_step hilt.out u1l.out hrb1 GG1.out hqb1 (by rw [← hc1.out, ← ha1.out]; exact hcond)
        obtain ⟨m1, hm1⟩ : ∃ m : Nat, m = q1 - 1 := ⟨_, rfl⟩
        obtain ⟨s1, hs1⟩ : ∃ s : Nat, s = r1 + 2328306436 := ⟨_, rfl⟩
        have F41 : IntKind.u64.wrap ((q1 : Int) - 1) = (m1 : Int) := w64 (by omega) (by omega)
        have F51 : IntKind.u64.wrap ((r1 : Int) + (n1 : Int)) = (s1 : Int) := w64 (by rw [hn1.out]; omega) (by omega)
        rw [← hm1, ← hs1] at GG2
        have HG21 := Lib.hid GG2
        clear GG2
        have hql1 : m1 < q1 := by omega
        have HQ1 := Lib.hid hm1
        have HR1 := Lib.hid hs1
        clear hm1 hs1
        have hq21 : m1 ≤ 4294967296 := by omega
        by_cases hq32 : 4294967296 ≤ q1
        · have cq1 : (4294967296 : Int) ≤ (q1 : Int) := by omega
          by_cases hbr : s1 < 4294967296
          · have cr1 : ¬ (4294967296 : Int) ≤ (s1 : Int) := by omega
            clear hcond
            go_wp2_with fail
            go_round
            case rel => exact ⟨m1, s1, rfl, rfl, hq21, hbr, HG21⟩
            case measure => simp [intOf]; omega
          · have cr1 : (4294967296 : Int) ≤ (s1 : Int) := by omega
            have HE1 : Hid ((hi * 4294967296 + u1) / 10000000000000000000 = m1) := Lib.hid (gs_break HG21.out hq21 (by omega))
            clear hcond hbr
            obtain ⟨v, hv⟩ : ∃ v : Nat, Hid (v = (hi * 4294967296 + u1) % 10000000000000000000) := ⟨_, Lib.hid rfl⟩
            have K1 : IntKind.u64.wrap (IntKind.u64.wrap (IntKind.u64.wrap ((hi : Int) * 4294967296) + (u1 : Int)) - IntKind.u64.wrap ((m1 : Int) * (y : Int))) = (v : Int) := by rw [hv.out]; exact rem_w hilt.out u1l.out hy.out HE1.out
            have vlt : Hid (v < 10000000000000000000) := Lib.hid (by rw [hv.out]; omega)
            obtain ⟨q2, hq2⟩ : ∃ q : Nat, Hid (q = v / 2328306436) := ⟨_, Lib.hid rfl⟩
            obtain ⟨r2, hr2⟩ : ∃ r : Nat, Hid (r = v % 2328306436) := ⟨_, Lib.hid rfl⟩
            obtain ⟨p2, hp2⟩ : ∃ p : Nat, Hid (p = v / 2328306436 * 2328306436) := ⟨_, Lib.hid rfl⟩
            have G2 := Lib.hid (gs_start (h := v) (u := u0) vlt.out u0l.out)
            have hqb2 : q2 ≤ 4294967296 := by rw [hq2.out]; exact G2.out.2
            have hrb2 : r2 < 4294967296 := by rw [hr2.out]; omega
            have GG2 : Hid (Gs v u0 q2 r2) := Lib.hid (by rw [hq2.out, hr2.out]; exact G2.out.1)
            have E12 : (v : Int).tdiv (n1 : Int) = (q2 : Int) := by rw [hn1.out, hq2.out, ← Int.ofNat_tdiv]
            have E22 : IntKind.u64.wrap (q2 : Int) = (q2 : Int) := w64 rfl (by omega)
            have E32 : IntKind.u64.wrap ((q2 : Int) * (n1 : Int)) = (p2 : Int) := w64 (by rw [hn1.out, hq2.out, hp2.out]; simp) (by rw [hp2.out]; have := vlt.out; omega)
            have E42 : IntKind.u64.wrap ((v : Int) - (p2 : Int)) = (r2 : Int) := w64 (by rw [hp2.out, hr2.out]; omega) (by omega)
            go_wp2_with fail
            go_loop [18, 16] (fun qv rv => ∃ q r : Nat, qv = .int .u64 (q : Int) ∧ rv = .int .u64 (r : Int) ∧ q ≤ 4294967296 ∧ r < 4294967296 ∧ Hid (Gs v u0 q r)) (fun qv _ => (intOf qv).toNat)
            case atStart => exact ⟨q2, r2, rfl, rfl, hqb2, hrb2, GG2⟩
            case round =>
              clear E12 E22 E32 E42 hqb2 hrb2 GG2 hq2 hr2 hp2 G2
              obtain ⟨q2, r2, rfl, rfl, hqb2, hrb2, GG2⟩ := hrel
              obtain ⟨a2, ha2⟩ : ∃ a : Nat, Hid (a = q2 * 2313682944) := ⟨_, Lib.hid rfl⟩
              obtain ⟨b2, hb2⟩ : ∃ b : Nat, Hid (b = 4294967296 * r2) := ⟨_, Lib.hid rfl⟩
              obtain ⟨c2, hc2⟩ : ∃ c : Nat, Hid (c = 4294967296 * r2 + u0) := ⟨_, Lib.hid rfl⟩
              have F12 : IntKind.u64.wrap ((q2 : Int) * (n0 : Int)) = (a2 : Int) := w64 (by rw [hn0.out, ha2.out]; simp) (by rw [ha2.out]; omega)
              have F22 : IntKind.u64.wrap (4294967296 * (r2 : Int)) = (b2 : Int) := w64 (by rw [hb2.out]; simp) (by rw [hb2.out]; omega)
              have F32 : IntKind.u64.wrap ((b2 : Int) + (u0 : Int)) = (c2 : Int) := w64 (by rw [hb2.out, hc2.out]; omega) (by rw [hc2.out]; have := u0l.out; omega)
              by_cases hcond : 4294967296 ≤ q2 ∨ c2 < a2
              · obtain ⟨GG2, hq0⟩ := gs_step vlt.out u0l.out hrb2 GG2.out hqb2 (by rw [← hc2.out, ← ha2.out]; exact hcond)
                obtain ⟨m2, hm2⟩ : ∃ m : Nat, m = q2 - 1 := ⟨_, rfl⟩
                obtain ⟨s2, hs2⟩ : ∃ s : Nat, s = r2 + 2328306436 := ⟨_, rfl⟩
                have F42 : IntKind.u64.wrap ((q2 : Int) - 1) = (m2 : Int) := w64 (by omega) (by omega)
                have F52 : IntKind.u64.wrap ((r2 : Int) + (n1 : Int)) = (s2 : Int) := w64 (by rw [hn1.out]; omega) (by omega)
                rw [← hm2, ← hs2] at GG2
                have HG22 := Lib.hid GG2
                clear GG2
                have hql2 : m2 < q2 := by omega
                have HQ2 := Lib.hid hm2
                have HR2 := Lib.hid hs2
                clear hm2 hs2
                have hq22 : m2 ≤ 4294967296 := by omega
                by_cases hq32 : 4294967296 ≤ q2
                · have cq2 : (4294967296 : Int) ≤ (q2 : Int) := by omega
                  by_cases hbr : s2 < 4294967296
                  · have cr2 : ¬ (4294967296 : Int) ≤ (s2 : Int) := by omega
                    clear hcond
                    go_wp2_with fail
                    go_round
                    case rel => exact ⟨m2, s2, rfl, rfl, hq22, hbr, HG22⟩
                    case measure => simp [intOf]; omega
                  · have cr2 : (4294967296 : Int) ≤ (s2 : Int) := by omega
                    have HE2 : Hid ((v * 4294967296 + u0) / 10000000000000000000 = m2) := Lib.hid (gs_break HG22.out hq22 (by omega))
                    clear hcond hbr
                    have K2 : IntKind.u64.wrap (IntKind.u64.wrap (IntKind.u64.wrap ((v : Int) * 4294967296) + (u0 : Int)) - IntKind.u64.wrap ((m2 : Int) * (y : Int))) = (R : Int) := by rw [rem_w vlt.out u0l.out hy.out HE2.out, mod_w hu1.out hu0.out hv.out, hR.out]
                    have K3 : IntKind.u64.wrap (IntKind.u64.wrap ((m1 : Int) * 4294967296) + (m2 : Int)) = (Q : Int) := by rw [div_w hilt.out hlo.out hu1.out hu0.out hv.out HE1.out HE2.out, hQ.out]
                    have K5 : Hid (Q = m1 * 4294967296 + m2) := Lib.hid (by rw [hQ.out]; exact div_e hilt.out hlo.out hu1.out hu0.out hv.out HE1.out HE2.out)
                    go_wp2_with fail
                    go_ret2
                    refine ⟨?_, 0, rfl⟩
                    first | (simp; done) | (have k5 := K5.out; simp; omega)
                · have cq2 : ¬ (4294967296 : Int) ≤ (q2 : Int) := by omega
                  have hca2 : c2 < a2 := by omega
                  by_cases hbr : s2 < 4294967296
                  · have cr2 : ¬ (4294967296 : Int) ≤ (s2 : Int) := by omega
                    clear hcond
                    go_wp2_with fail
                    go_round
                    case rel => exact ⟨m2, s2, rfl, rfl, hq22, hbr, HG22⟩
                    case measure => simp [intOf]; omega
                  · have cr2 : (4294967296 : Int) ≤ (s2 : Int) := by omega
                    have HE2 : Hid ((v * 4294967296 + u0) / 10000000000000000000 = m2) := Lib.hid (gs_break HG22.out hq22 (by omega))
                    clear hcond hbr
                    have K2 : IntKind.u64.wrap (IntKind.u64.wrap (IntKind.u64.wrap ((v : Int) * 4294967296) + (u0 : Int)) - IntKind.u64.wrap ((m2 : Int) * (y : Int))) = (R : Int) := by rw [rem_w vlt.out u0l.out hy.out HE2.out, mod_w hu1.out hu0.out hv.out, hR.out]
                    have K3 : IntKind.u64.wrap (IntKind.u64.wrap ((m1 : Int) * 4294967296) + (m2 : Int)) = (Q : Int) := by rw [div_w hilt.out hlo.out hu1.out hu0.out hv.out HE1.out HE2.out, hQ.out]
                    have K5 : Hid (Q = m1 * 4294967296 + m2) := Lib.hid (by rw [hQ.out]; exact div_e hilt.out hlo.out hu1.out hu0.out hv.out HE1.out HE2.out)
                    go_wp2_with fail
                    go_ret2
                    refine ⟨?_, 0, rfl⟩
                    first | (simp; done) | (have k5 := K5.out; simp; omega)
              · have hq32 : q2 < 4294967296 := by omega
                have cq2 : ¬ (4294967296 : Int) ≤ (q2 : Int) := by omega
                have hca2 : ¬ c2 < a2 := by omega
                have HE2 : Hid ((v * 4294967296 + u0) / 10000000000000000000 = q2) := Lib.hid (gs_end GG2.out (by rw [← ha2.out, ← hc2.out]; omega))
                clear hcond
                have K2 : IntKind.u64.wrap (IntKind.u64.wrap (IntKind.u64.wrap ((v : Int) * 4294967296) + (u0 : Int)) - IntKind.u64.wrap ((q2 : Int) * (y : Int))) = (R : Int) := by rw [rem_w vlt.out u0l.out hy.out HE2.out, mod_w hu1.out hu0.out hv.out, hR.out]
                have K3 : IntKind.u64.wrap (IntKind.u64.wrap ((m1 : Int) * 4294967296) + (q2 : Int)) = (Q : Int) := by rw [div_w hilt.out hlo.out hu1.out hu0.out hv.out HE1.out HE2.out, hQ.out]
                have K5 : Hid (Q = m1 * 4294967296 + q2) := Lib.hid (by rw [hQ.out]; exact div_e hilt.out hlo.out hu1.out hu0.out hv.out HE1.out HE2.out)
                go_wp2_with fail
                go_ret2
                refine ⟨?_, 0, rfl⟩
                first | (simp; done) | (have k5 := K5.out; simp; omega)
        · have cq1 : ¬ (4294967296 : Int) ≤ (q1 : Int) := by omega
          have hca1 : c1 < a1 := by omega
          by_cases hbr : s1 < 4294967296
          · have cr1 : ¬ (4294967296 : Int) ≤ (s1 : Int) := by omega
            clear hcond
            go_wp2_with fail
            go_round
            case rel => exact ⟨m1, s1, rfl, rfl, hq21, hbr, HG21⟩
            case measure => simp [intOf]; omega
          · have cr1 : (4294967296 : Int) ≤ (s1 : Int) := by omega
            have HE1 : Hid ((hi * 4294967296 + u1) / 10000000000000000000 = m1) := Lib.hid (gs_break HG21.out hq21 (by omega))
            clear hcond hbr
            obtain ⟨v, hv⟩ : ∃ v : Nat, Hid (v = (hi * 4294967296 + u1) % 10000000000000000000) := ⟨_, Lib.hid rfl⟩
            have K1 : IntKind.u64.wrap (IntKind.u64.wrap (IntKind.u64.wrap ((hi : Int) * 4294967296) + (u1 : Int)) - IntKind.u64.wrap ((m1 : Int) * (y : Int))) = (v : Int) := by rw [hv.out]; exact rem_w hilt.out u1l.out hy.out HE1.out
            have vlt : Hid (v < 10000000000000000000) := Lib.hid (by rw [hv.out]; omega)
            obtain ⟨q2, hq2⟩ : ∃ q : Nat, Hid (q = v / 2328306436) := ⟨_, Lib.hid rfl⟩
            obtain ⟨r2, hr2⟩ : ∃ r : Nat, Hid (r = v % 2328306436) := ⟨_, Lib.hid rfl⟩
            obtain ⟨p2, hp2⟩ : ∃ p : Nat, Hid (p = v / 2328306436 * 2328306436) := ⟨_, Lib.hid rfl⟩
            have G2 := Lib.hid (gs_start (h := v) (u := u0) vlt.out u0l.out)
            have hqb2 : q2 ≤ 4294967296 := by rw [hq2.out]; exact G2.out.2
            have hrb2 : r2 < 4294967296 := by rw [hr2.out]; omega
            have GG2 : Hid (Gs v u0 q2 r2) := Lib.hid (by rw [hq2.out, hr2.out]; exact G2.out.1)
            have E12 : (v : Int).tdiv (n1 : Int) = (q2 : Int) := by rw [hn1.out, hq2.out, ← Int.ofNat_tdiv]
            have E22 : IntKind.u64.wrap (q2 : Int) = (q2 : Int) := w64 rfl (by omega)
            have E32 : IntKind.u64.wrap ((q2 : Int) * (n1 : Int)) = (p2 : Int) := w64 (by rw [hn1.out, hq2.out, hp2.out]; simp) (by rw [hp2.out]; have := vlt.out; omega)
            have E42 : IntKind.u64.wrap ((v : Int) - (p2 : Int)) = (r2 : Int) := w64 (by rw [hp2.out, hr2.out]; omega) (by omega)
            go_wp2_with fail
            go_loop [18, 16] (fun qv rv => ∃ q r : Nat, qv = .int .u64 (q : Int) ∧ rv = .int .u64 (r : Int) ∧ q ≤ 4294967296 ∧ r < 4294967296 ∧ Hid (Gs v u0 q r)) (fun qv _ => (intOf qv).toNat)
            case atStart => exact ⟨q2, r2, rfl, rfl, hqb2, hrb2, GG2⟩
            case round =>
              clear E12 E22 E32 E42 hqb2 hrb2 GG2 hq2 hr2 hp2 G2
              obtain ⟨q2, r2, rfl, rfl, hqb2, hrb2, GG2⟩ := hrel
              obtain ⟨a2, ha2⟩ : ∃ a : Nat, Hid (a = q2 * 2313682944) := ⟨_, Lib.hid rfl⟩
              obtain ⟨b2, hb2⟩ : ∃ b : Nat, Hid (b = 4294967296 * r2) := ⟨_, Lib.hid rfl⟩
              obtain ⟨c2, hc2⟩ : ∃ c : Nat, Hid (c = 4294967296 * r2 + u0) := ⟨_, Lib.hid rfl⟩
              have F12 : IntKind.u64.wrap ((q2 : Int) * (n0 : Int)) = (a2 : Int) := w64 (by rw [hn0.out, ha2.out]; simp) (by rw [ha2.out]; omega)
              have F22 : IntKind.u64.wrap (4294967296 * (r2 : Int)) = (b2 : Int) := w64 (by rw [hb2.out]; simp) (by rw [hb2.out]; omega)
              have F32 : IntKind.u64.wrap ((b2 : Int) + (u0 : Int)) = (c2 : Int) := w64 (by rw [hb2.out, hc2.out]; omega) (by rw [hc2.out]; have := u0l.out; omega)
              by_cases hcond : 4294967296 ≤ q2 ∨ c2 < a2
              · obtain ⟨GG2, hq0⟩ := gs_step vlt.out u0l.out hrb2 GG2.out hqb2 (by rw [← hc2.out, ← ha2.out]; exact hcond)
                obtain ⟨m2, hm2⟩ : ∃ m : Nat, m = q2 - 1 := ⟨_, rfl⟩
                obtain ⟨s2, hs2⟩ : ∃ s : Nat, s = r2 + 2328306436 := ⟨_, rfl⟩
                have F42 : IntKind.u64.wrap ((q2 : Int) - 1) = (m2 : Int) := w64 (by omega) (by omega)
                have F52 : IntKind.u64.wrap ((r2 : Int) + (n1 : Int)) = (s2 : Int) := w64 (by rw [hn1.out]; omega) (by omega)
                rw [← hm2, ← hs2] at GG2
                have HG22 := Lib.hid GG2
                clear GG2
                have hql2 : m2 < q2 := by omega
                have HQ2 := Lib.hid hm2
                have HR2 := Lib.hid hs2
                clear hm2 hs2
                have hq22 : m2 ≤ 4294967296 := by omega
                by_cases hq32 : 4294967296 ≤ q2
                · have cq2 : (4294967296 : Int) ≤ (q2 : Int) := by omega
                  by_cases hbr : s2 < 4294967296
                  · have cr2 : ¬ (4294967296 : Int) ≤ (s2 : Int) := by omega
                    clear hcond
                    go_wp2_with fail
                    go_round
                    case rel => exact ⟨m2, s2, rfl, rfl, hq22, hbr, HG22⟩
                    case measure => simp [intOf]; omega
                  · have cr2 : (4294967296 : Int) ≤ (s2 : Int) := by omega
                    have HE2 : Hid ((v * 4294967296 + u0) / 10000000000000000000 = m2) := Lib.hid (gs_break HG22.out hq22 (by omega))
                    clear hcond hbr
                    have K2 : IntKind.u64.wrap (IntKind.u64.wrap (IntKind.u64.wrap ((v : Int) * 4294967296) + (u0 : Int)) - IntKind.u64.wrap ((m2 : Int) * (y : Int))) = (R : Int) := by rw [rem_w vlt.out u0l.out hy.out HE2.out, mod_w hu1.out hu0.out hv.out, hR.out]
                    have K3 : IntKind.u64.wrap (IntKind.u64.wrap ((m1 : Int) * 4294967296) + (m2 : Int)) = (Q : Int) := by rw [div_w hilt.out hlo.out hu1.out hu0.out hv.out HE1.out HE2.out, hQ.out]
                    have K5 : Hid (Q = m1 * 4294967296 + m2) := Lib.hid (by rw [hQ.out]; exact div_e hilt.out hlo.out hu1.out hu0.out hv.out HE1.out HE2.out)
                    go_wp2_with fail
                    go_ret2
                    refine ⟨?_, 0, rfl⟩
                    first | (simp; done) | (have k5 := K5.out; simp; omega)
                · have cq2 : ¬ (4294967296 : Int) ≤ (q2 : Int) := by omega
                  have hca2 : c2 < a2 := by omega
                  by_cases hbr : s2 < 4294967296
                  · have cr2 : ¬ (4294967296 : Int) ≤ (s2 : Int) := by omega
                    clear hcond
                    go_wp2_with fail
                    go_round
                    case rel => exact ⟨m2, s2, rfl, rfl, hq22, hbr, HG22⟩
                    case measure => simp [intOf]; omega
                  · have cr2 : (4294967296 : Int) ≤ (s2 : Int) := by omega
                    have HE2 : Hid ((v * 4294967296 + u0) / 10000000000000000000 = m2) := Lib.hid (gs_break HG22.out hq22 (by omega))
                    clear hcond hbr
                    have K2 : IntKind.u64.wrap (IntKind.u64.wrap (IntKind.u64.wrap ((v : Int) * 4294967296) + (u0 : Int)) - IntKind.u64.wrap ((m2 : Int) * (y : Int))) = (R : Int) := by rw [rem_w vlt.out u0l.out hy.out HE2.out, mod_w hu1.out hu0.out hv.out, hR.out]
                    have K3 : IntKind.u64.wrap (IntKind.u64.wrap ((m1 : Int) * 4294967296) + (m2 : Int)) = (Q : Int) := by rw [div_w hilt.out hlo.out hu1.out hu0.out hv.out HE1.out HE2.out, hQ.out]
                    have K5 : Hid (Q = m1 * 4294967296 + m2) := Lib.hid (by rw [hQ.out]; exact div_e hilt.out hlo.out hu1.out hu0.out hv.out HE1.out HE2.out)
                    go_wp2_with fail
                    go_ret2
                    refine ⟨?_, 0, rfl⟩
                    first | (simp; done) | (have k5 := K5.out; simp; omega)
              · have hq32 : q2 < 4294967296 := by omega
                have cq2 : ¬ (4294967296 : Int) ≤ (q2 : Int) := by omega
                have hca2 : ¬ c2 < a2 := by omega
                have HE2 : Hid ((v * 4294967296 + u0) / 10000000000000000000 = q2) := Lib.hid (gs_end GG2.out (by rw [← ha2.out, ← hc2.out]; omega))
                clear hcond
                have K2 : IntKind.u64.wrap (IntKind.u64.wrap (IntKind.u64.wrap ((v : Int) * 4294967296) + (u0 : Int)) - IntKind.u64.wrap ((q2 : Int) * (y : Int))) = (R : Int) := by rw [rem_w vlt.out u0l.out hy.out HE2.out, mod_w hu1.out hu0.out hv.out, hR.out]
                have K3 : IntKind.u64.wrap (IntKind.u64.wrap ((m1 : Int) * 4294967296) + (q2 : Int)) = (Q : Int) := by rw [div_w hilt.out hlo.out hu1.out hu0.out hv.out HE1.out HE2.out, hQ.out]
                have K5 : Hid (Q = m1 * 4294967296 + q2) := Lib.hid (by rw [hQ.out]; exact div_e hilt.out hlo.out hu1.out hu0.out hv.out HE1.out HE2.out)
                go_wp2_with fail
                go_ret2
                refine ⟨?_, 0, rfl⟩
                first | (simp; done) | (have k5 := K5.out; simp; omega)
      · have hq32 : q1 < 4294967296 := by omega
        have cq1 : ¬ (4294967296 : Int) ≤ (q1 : Int) := by omega
        have hca1 : ¬ c1 < a1 := by omega
        have HE1 : Hid ((hi * 4294967296 + u1) / 10000000000000000000 = q1) := Lib.hid (gs_end GG1.out (by rw [← ha1.out, ← hc1.out]; omega))
        clear hcond
        obtain ⟨v, hv⟩ : ∃ v : Nat, Hid (v = (hi * 4294967296 + u1) % 10000000000000000000) := ⟨_, Lib.hid rfl⟩
        have K1 : IntKind.u64.wrap (IntKind.u64.wrap (IntKind.u64.wrap ((hi : Int) * 4294967296) + (u1 : Int)) - IntKind.u64.wrap ((q1 : Int) * (y : Int))) = (v : Int) := by rw [hv.out]; exact rem_w hilt.out u1l.out hy.out HE1.out
        have vlt : Hid (v < 10000000000000000000) := Lib.hid (by rw [hv.out]; omega)
        obtain ⟨q2, hq2⟩ : ∃ q : Nat, Hid (q = v / 2328306436) := ⟨_, Lib.hid rfl⟩
        obtain ⟨r2, hr2⟩ : ∃ r : Nat, Hid (r = v % 2328306436) := ⟨_, Lib.hid rfl⟩
        obtain ⟨p2, hp2⟩ : ∃ p : Nat, Hid (p = v / 2328306436 * 2328306436) := ⟨_, Lib.hid rfl⟩
        have G2 := Lib.hid (gs_start (h := v) (u := u0) vlt.out u0l.out)
        have hqb2 : q2 ≤ 4294967296 := by rw [hq2.out]; exact G2.out.2
        have hrb2 : r2 < 4294967296 := by rw [hr2.out]; omega
        have GG2 : Hid (Gs v u0 q2 r2) := Lib.hid (by rw [hq2.out, hr2.out]; exact G2.out.1)
        have E12 : (v : Int).tdiv (n1 : Int) = (q2 : Int) := by rw [hn1.out, hq2.out, ← Int.ofNat_tdiv]
        have E22 : IntKind.u64.wrap (q2 : Int) = (q2 : Int) := w64 rfl (by omega)
        have E32 : IntKind.u64.wrap ((q2 : Int) * (n1 : Int)) = (p2 : Int) := w64 (by rw [hn1.out, hq2.out, hp2.out]; simp) (by rw [hp2.out]; have := vlt.out; omega)
        have E42 : IntKind.u64.wrap ((v : Int) - (p2 : Int)) = (r2 : Int) := w64 (by rw [hp2.out, hr2.out]; omega) (by omega)
        go_wp2_with fail
        go_loop [18, 16] (fun qv rv => ∃ q r : Nat, qv = .int .u64 (q : Int) ∧ rv = .int .u64 (r : Int) ∧ q ≤ 4294967296 ∧ r < 4294967296 ∧ Hid (Gs v u0 q r)) (fun qv _ => (intOf qv).toNat)
        case atStart => exact ⟨q2, r2, rfl, rfl, hqb2, hrb2, GG2⟩
        case round =>
          clear E12 E22 E32 E42 hqb2 hrb2 GG2 hq2 hr2 hp2 G2
          obtain ⟨q2, r2, rfl, rfl, hqb2, hrb2, GG2⟩ := hrel
          obtain ⟨a2, ha2⟩ : ∃ a : Nat, Hid (a = q2 * 2313682944) := ⟨_, Lib.hid rfl⟩
          obtain ⟨b2, hb2⟩ : ∃ b : Nat, Hid (b = 4294967296 * r2) := ⟨_, Lib.hid rfl⟩
          obtain ⟨c2, hc2⟩ : ∃ c : Nat, Hid (c = 4294967296 * r2 + u0) := ⟨_, Lib.hid rfl⟩
          have F12 : IntKind.u64.wrap ((q2 : Int) * (n0 : Int)) = (a2 : Int) := w64 (by rw [hn0.out, ha2.out]; simp) (by rw [ha2.out]; omega)
          have F22 : IntKind.u64.wrap (4294967296 * (r2 : Int)) = (b2 : Int) := w64 (by rw [hb2.out]; simp) (by rw [hb2.out]; omega)
          have F32 : IntKind.u64.wrap ((b2 : Int) + (u0 : Int)) = (c2 : Int) := w64 (by rw [hb2.out, hc2.out]; omega) (by rw [hc2.out]; have := u0l.out; omega)
          by_cases hcond : 4294967296 ≤ q2 ∨ c2 < a2
          · obtain ⟨GG2, hq0⟩ := gs_step vlt.out u0l.out hrb2 GG2.out hqb2 (by rw [← hc2.out, ← ha2.out]; exact hcond)
            obtain ⟨m2, hm2⟩ : ∃ m : Nat, m = q2 - 1 := ⟨_, rfl⟩
            obtain ⟨s2, hs2⟩ : ∃ s : Nat, s = r2 + 2328306436 := ⟨_, rfl⟩
            have F42 : IntKind.u64.wrap ((q2 : Int) - 1) = (m2 : Int) := w64 (by omega) (by omega)
            have F52 : IntKind.u64.wrap ((r2 : Int) + (n1 : Int)) = (s2 : Int) := w64 (by rw [hn1.out]; omega) (by omega)
            rw [← hm2, ← hs2] at GG2
            have HG22 := Lib.hid GG2
            clear GG2
            have hql2 : m2 < q2 := by omega
            have HQ2 := Lib.hid hm2
            have HR2 := Lib.hid hs2
            clear hm2 hs2
            have hq22 : m2 ≤ 4294967296 := by omega
            by_cases hq32 : 4294967296 ≤ q2
            · have cq2 : (4294967296 : Int) ≤ (q2 : Int) := by omega
              by_cases hbr : s2 < 4294967296
              · have cr2 : ¬ (4294967296 : Int) ≤ (s2 : Int) := by omega
                clear hcond
                go_wp2_with fail
                go_round
                case rel => exact ⟨m2, s2, rfl, rfl, hq22, hbr, HG22⟩
                case measure => simp [intOf]; omega
              · have cr2 : (4294967296 : Int) ≤ (s2 : Int) := by omega
                have HE2 : Hid ((v * 4294967296 + u0) / 10000000000000000000 = m2) := Lib.hid (gs_break HG22.out hq22 (by omega))
                clear hcond hbr
                have K2 : IntKind.u64.wrap (IntKind.u64.wrap (IntKind.u64.wrap ((v : Int) * 4294967296) + (u0 : Int)) - IntKind.u64.wrap ((m2 : Int) * (y : Int))) = (R : Int) := by rw [rem_w vlt.out u0l.out hy.out HE2.out, mod_w hu1.out hu0.out hv.out, hR.out]
                have K3 : IntKind.u64.wrap (IntKind.u64.wrap ((q1 : Int) * 4294967296) + (m2 : Int)) = (Q : Int) := by rw [div_w hilt.out hlo.out hu1.out hu0.out hv.out HE1.out HE2.out, hQ.out]
                have K5 : Hid (Q = q1 * 4294967296 + m2) := Lib.hid (by rw [hQ.out]; exact div_e hilt.out hlo.out hu1.out hu0.out hv.out HE1.out HE2.out)
                go_wp2_with fail
                go_ret2
                refine ⟨?_, 0, rfl⟩
                first | (simp; done) | (have k5 := K5.out; simp; omega)
            · have cq2 : ¬ (4294967296 : Int) ≤ (q2 : Int) := by omega
              have hca2 : c2 < a2 := by omega
              by_cases hbr : s2 < 4294967296
              · have cr2 : ¬ (4294967296 : Int) ≤ (s2 : Int) := by omega
                clear hcond
                go_wp2_with fail
                go_round
                case rel => exact ⟨m2, s2, rfl, rfl, hq22, hbr, HG22⟩
                case measure => simp [intOf]; omega
              · have cr2 : (4294967296 : Int) ≤ (s2 : Int) := by omega
                have HE2 : Hid ((v * 4294967296 + u0) / 10000000000000000000 = m2) := Lib.hid (gs_break HG22.out hq22 (by omega))
                clear hcond hbr
                have K2 : IntKind.u64.wrap (IntKind.u64.wrap (IntKind.u64.wrap ((v : Int) * 4294967296) + (u0 : Int)) - IntKind.u64.wrap ((m2 : Int) * (y : Int))) = (R : Int) := by rw [rem_w vlt.out u0l.out hy.out HE2.out, mod_w hu1.out hu0.out hv.out, hR.out]
                have K3 : IntKind.u64.wrap (IntKind.u64.wrap ((q1 : Int) * 4294967296) + (m2 : Int)) = (Q : Int) := by rw [div_w hilt.out hlo.out hu1.out hu0.out hv.out HE1.out HE2.out, hQ.out]
                have K5 : Hid (Q = q1 * 4294967296 + m2) := Lib.hid (by rw [hQ.out]; exact div_e hilt.out hlo.out hu1.out hu0.out hv.out HE1.out HE2.out)
                go_wp2_with fail
                go_ret2
                refine ⟨?_, 0, rfl⟩
                first | (simp; done) | (have k5 := K5.out; simp; omega)
          · have hq32 : q2 < 4294967296 := by omega
            have cq2 : ¬ (4294967296 : Int) ≤ (q2 : Int) := by omega
            have hca2 : ¬ c2 < a2 := by omega
            have HE2 : Hid ((v * 4294967296 + u0) / 10000000000000000000 = q2) := Lib.hid (gs_end GG2.out (by rw [← ha2.out, ← hc2.out]; omega))
            clear hcond
            have K2 : IntKind.u64.wrap (IntKind.u64.wrap (IntKind.u64.wrap ((v : Int) * 4294967296) + (u0 : Int)) - IntKind.u64.wrap ((q2 : Int) * (y : Int))) = (R : Int) := by rw [rem_w vlt.out u0l.out hy.out HE2.out, mod_w hu1.out hu0.out hv.out, hR.out]
            have K3 : IntKind.u64.wrap (IntKind.u64.wrap ((q1 : Int) * 4294967296) + (q2 : Int)) = (Q : Int) := by rw [div_w hilt.out hlo.out hu1.out hu0.out hv.out HE1.out HE2.out, hQ.out]
            have K5 : Hid (Q = q1 * 4294967296 + q2) := Lib.hid (by rw [hQ.out]; exact div_e hilt.out hlo.out hu1.out hu0.out hv.out HE1.out HE2.out)
            go_wp2_with fail
            go_ret2
            refine ⟨?_, 0, rfl⟩
            first | (simp; done) | (have k5 := K5.out; simp; omega)
end Go.Proofs.YtmhfdmidaheoeaaDoor
