/- Walks: rank, unrank of a domain. -/
import Derived.Test.YtkcnaedffcmodaaW1
namespace Go.Proofs.Ytkcnaedffcmodaa
open Go.RowKit Go.Maps
set_option linter.unusedVariables false

namespace Kd
/-- the number of a vector, or the code -/
def rkN (ds : List (Int × Nat)) (xs : List Int) : Int := if xs.length = ds.length ∧ inR ds xs ds.length = true then (rk ds xs ds.length : Nat) else 0
def rkC (ds : List (Int × Nat)) (xs : List Int) : Int := if xs.length = ds.length then (if inR ds xs ds.length = true then 0 else 3) else 2
theorem rk_len {ds : List (Int × Nat)} {xs : List Int} (h : xs.length ≠ ds.length) : rkN ds xs = 0 ∧ rkC ds xs = 2 := by
  unfold rkN rkC
  rw [if_neg (fun hh => h hh.1), if_neg h]; exact ⟨rfl, rfl⟩
theorem rk_out {ds : List (Int × Nat)} {xs : List Int} (hl : xs.length = ds.length) (h : inR ds xs ds.length = false) : rkN ds xs = 0 ∧ rkC ds xs = 3 := by
  unfold rkN rkC
  rw [if_neg (fun hh => by rw [h] at hh; exact absurd hh.2 (by decide)), if_pos hl, if_neg (by rw [h]; decide)]; exact ⟨rfl, rfl⟩
theorem rk_ok {ds : List (Int × Nat)} {xs : List Int} (hl : xs.length = ds.length) (h : inR ds xs ds.length = true) : rkN ds xs = (rk ds xs ds.length : Nat) ∧ rkC ds xs = 0 := by
  unfold rkN rkC
  rw [if_pos ⟨hl, h⟩, if_pos hl, if_pos h]; exact ⟨rfl, rfl⟩
theorem inR_succ {ds : List (Int × Nat)} {xs : List Int} {i : Nat} (h : inR ds xs i = true) (h2 : lof ds i ≤ xs.getD i 0 ∧ xs.getD i 0 < lof ds i + cf ds i) : inR ds xs (i + 1) = true :=
  inR_iff.2 fun j hj => by
    by_cases e : j = i
    · subst e; exact h2
    · exact inR_iff.1 h j (by omega)
/-- a vector, or the code -/
def unC (ds : List (Int × Nat)) (r : Int) : Int := if 0 ≤ r ∧ r < (pr ds : Nat) then 0 else 3
def unX (ds : List (Int × Nat)) (r : Int) : List Int := if 0 ≤ r ∧ r < (pr ds : Nat) then unL ds r.toNat else []
end Kd

/-- a number and a code -/
def NumRes (n C : Int) (w : World) (e : Ending) (w' : World) : Prop := e = .returned (.tuple #[.int .i64 n, .int .i64 C]) ∧ Below w.heap.size w w'
/-- a list of numbers and a code -/
def LisRes (zs : List Int) (C : Int) (w : World) (e : Ending) (w' : World) : Prop :=
  ∃ A c, e = .returned (.tuple #[.slice A zs.length c, .int .i64 C]) ∧ Ints w' w'.heap.size A zs ∧ Below w.heap.size w w'

set_option maxRecDepth 100000 in
set_option maxHeartbeats 2000000 in
theorem rank_any (A : Option Addr) (c : Nat) (ds : List (Int × Nat)) (sp : Int) (B : Option Addr) (cb : Nat) (xs : List Int) (w : World) (h : Dgs w w.heap.size A ds) (hd : Kd.OkD ds) (hl : ds.length ≤ 1000000) (hx : Ints w w.heap.size B xs) :
    Calls Try.prog 27 #[domV A ds.length c sp, .slice B xs.length cb] w (NumRes (Kd.rkN ds xs) (Kd.rkC ds xs) w) := by
  unfold domV
  by_cases hlen : xs.length = ds.length
  · have hne : ((xs.length : Int) != (ds.length : Int)) = false := by simp; omega
    have HL := Lib.hid hlen
    have hD := Lib.hid hd
    have b0 := newB1 w (.cells #[.slice A ds.length c, .int .i64 sp] 54)
    have hlx : xs.length ≤ 1000000 := by omega
    clear hlen hd
    go_enter Try.func27, Try.ntmps27
    go_wp2_with fail
    go_loopw [6, 18] (fun rv iv wr => ∃ (i r : Nat), i ≤ ds.length ∧ iv = .int .i64 i ∧ rv = .int .i64 r ∧ r ≤ 4096 ∧ Hid (Kd.inR ds xs i = true ∧ r = Kd.rk ds xs i) ∧ Below w.heap.size w wr) (fun _ iv _ => ds.length - (intOf iv).toNat)
    case atStart => exact ⟨0, 0, Nat.zero_le _, rfl, rfl, by omega, Lib.hid ⟨rfl, rfl⟩, b0⟩
    case round =>
      clear b0
      obtain ⟨i, r, hi, rfl, rfl, hr, hin, I⟩ := hrel
      by_cases hlt : i < ds.length
      · obtain ⟨bb, off, l, q, rfl, hbb, c0, c1, hlq⟩ := (h.below I).at_ hlt
        obtain ⟨b2, off2, x, rfl, hb2, c2, hxx⟩ := (hx.below I).at_ (k := i) (by rw [HL.out]; exact hlt)
        have hltx : (i : Int) < (xs.length : Int) := by have := HL.out; omega
        have hbd := hD.out.lo i hlt
        have hps := hD.out.pos i hlt
        rw [← hlq.out.1, ← hlq.out.2] at hbd
        rw [← hlq.out.2] at hps
        have hxb := hxx.out.2
        have hnx : Hid (Kd.lof ds i = l ∧ Kd.cf ds i = q ∧ xs.getD i 0 = x) := Lib.hid ⟨hlq.out.1.symm, hlq.out.2.symm, hxx.out.1.symm⟩
        have hw1 : IntKind.i64.wrap (l + (q : Int)) = l + (q : Int) := IntWalk.i64_in _ (by omega)
        have hsz := I.size
        have b5 := bAlloc I (.cells #[.int .i64 l, .int .i64 (q : Int)] 62)
        have t5 := Two.new_ wr (.int .i64 l) (.int .i64 (q : Int)) 62
        have c5 : (wr.alloc (.cells #[.int .i64 l, .int .i64 (q : Int)] 62)).cell? ⟨b2, off2 + i, none⟩ = some (.int .i64 x) := (World.cell?_alloc_lt wr _ _ (by show b2 < wr.heap.size; omega)).trans c2
        go_wp2_with fail
        clear I c0 c1 c2
        revert b5 t5 c5
        generalize wr.alloc (.cells #[.int .i64 l, .int .i64 (q : Int)] 62) = w5
        generalize wr.heap.size = g
        intro b5 t5 c5
        have d0 := t5.c0
        have d1 := t5.c1
        by_cases g1 : x < l
        · have hR := Kd.rk_out HL.out (Kd.inR_bad (i := i) (xs := xs) hlt (by rw [hnx.out.1, hnx.out.2.1, hnx.out.2.2]; omega))
          have HR := Lib.hid hR
          have g1' : decide (x < l) = true := by simpa using g1
          clear hR
          go_quiet (fail)
          go_wp2_with fail
          go_ret2
          exact ⟨by rw [HR.out.1, HR.out.2]; rfl, bDrew b5 _⟩
        by_cases g2 : l + (q : Int) ≤ x
        · have hR := Kd.rk_out HL.out (Kd.inR_bad (i := i) (xs := xs) hlt (by rw [hnx.out.1, hnx.out.2.1, hnx.out.2.2]; omega))
          have HR := Lib.hid hR
          have g1' : decide (x < l) = false := by simpa using g1
          have g2' : decide (l + (q : Int) ≤ x) = true := by simpa using g2
          clear hR
          go_quiet (fail)
          go_wp2_with fail
          go_ret2
          exact ⟨by rw [HR.out.1, HR.out.2]; rfl, bDrew b5 _⟩
        have g1' : decide (x < l) = false := by simpa using g1
        have g2' : decide (l + (q : Int) ≤ x) = false := by simpa using g2
        have hin2 : Kd.inR ds xs (i + 1) = true := Kd.inR_succ hin.out.1 (by rw [hnx.out.1, hnx.out.2.1, hnx.out.2.2]; omega)
        have hrk : Kd.rk ds xs (i + 1) = r * q + (x - l).toNat := by
          rw [Kd.rk_succ, ← hin.out.2, hnx.out.2.1]
          unfold Kd.ofs
          rw [hnx.out.1, hnx.out.2.2]
        have hle := Kd.rk_le hD.out hin2 (show i + 1 ≤ ds.length by omega)
        obtain ⟨m, hm⟩ : ∃ m : Nat, Hid (m = r * q) := ⟨_, Lib.hid rfl⟩
        rw [← hm.out] at hrk
        obtain ⟨s, hs⟩ : ∃ s : Nat, Hid (s = Kd.rk ds xs (i + 1)) := ⟨_, Lib.hid rfl⟩
        have HS : Hid (Kd.inR ds xs (i + 1) = true ∧ s = Kd.rk ds xs (i + 1)) := Lib.hid ⟨hin2, hs.out⟩
        rw [← hs.out] at hrk hle
        have hsx : (s : Int) = (m : Int) + x - l := by omega
        have hs4 : s ≤ 4096 := by omega
        have hmq : (r : Int) * (q : Int) = (m : Int) := by rw [hm.out]; simp
        have e3 : IntKind.i64.wrap ((m : Int) + x - l) = (s : Int) := by rw [← hsx]; exact IntWalk.i64_in _ (by omega)
        have e2 : IntKind.i64.wrap ((m : Int) + x) = (m : Int) + x := IntWalk.i64_in _ (by omega)
        have e1 : IntKind.i64.wrap ((r : Int) * (q : Int)) = (m : Int) := by rw [hmq]; exact IntWalk.i64_in _ (by omega)
        clear hrk hmq hsx hin2
        go_quiet (fail)
        replace b5 := bDrew b5 nq
        replace d0 : (w5.drewN nq).cell? ⟨g, 0, none⟩ = _ := d0
        replace d1 : (w5.drewN nq).cell? ⟨g, 1, none⟩ = _ := d1
        replace c5 : (w5.drewN nq).cell? ⟨b2, off2 + i, none⟩ = _ := c5
        clear t5
        generalize w5.drewN nq = w6 at *
        go_wp2_with fail
        go_quiet (fail)
        clear e1 e2 e3
        go_wp2_with fail
        go_roundw
        case rel => exact ⟨i + 1, s, by omega, by go_num, rfl, hs4, HS, bDrew b5 _⟩
        case measure => simp [intOf]; omega
      · obtain rfl : i = ds.length := by omega
        have HR := Lib.hid (Kd.rk_ok HL.out hin.out.1)
        have HRR := Lib.hid hin.out.2
        go_wp2_with fail
        go_ret2
        exact ⟨by rw [HR.out.1, HR.out.2, ← HRR.out]; rfl, I⟩
  · have hne : ((xs.length : Int) != (ds.length : Int)) = true := by simp; omega
    have HR := Lib.hid (Kd.rk_len hlen)
    have b0 := newB1 w (.cells #[.slice A ds.length c, .int .i64 sp] 54)
    clear hlen
    go_enter Try.func27, Try.ntmps27
    go_wp2_with fail
    go_ret2
    exact ⟨by rw [HR.out.1, HR.out.2]; rfl, b0⟩
end Go.Proofs.Ytkcnaedffcmodaa
