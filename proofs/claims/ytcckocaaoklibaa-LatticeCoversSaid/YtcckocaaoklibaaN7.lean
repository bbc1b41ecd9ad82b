/- Walks: extreme, Size, Below, Bottom, Top, JoinAll, Join, Meet. -/
import Derived.Test.YtcckocaaoklibaaN6
namespace Go.Proofs.Ytcckocaaoklibaa
open Go.RowKit Go.Maps
set_option linter.unusedVariables false

namespace Kl
/-- is row a full? -/
def fullB (R : Nat → Nat → Bool) (n a : Nat) : Bool := (List.range n).all fun b => R a b
theorem fullB_iff {R : Nat → Nat → Bool} {n a : Nat} : fullB R n a = true ↔ ∀ b, b < n → R a b = true := by
  unfold fullB; rw [List.all_eq_true]
  exact ⟨fun h b hb => h b (List.mem_range.2 hb), fun h b hb => h b (List.mem_range.1 hb)⟩
theorem fullB_word {R : Nat → Nat → Bool} {n a : Nat} : fullB R n a = decide (Kb.wordTo (R a) n = Kb.wordTo (fun _ => true) n) := by
  rw [Bool.eq_iff_iff, fullB_iff, decide_eq_true_iff, word_iff]
theorem word_full (n : Nat) : Kb.wordTo (fun _ => true) n = 2 ^ n - 1 := by
  apply Nat.eq_of_testBit_eq
  intro j
  rw [Kb.wordTo_testBit, Nat.testBit_two_pow_sub_one]; simp
/-- the least level -/
def bot (L : Nat → Nat → Bool) (n : Nat) : Nat := num (firstN (fullB L n) n)
theorem num_lt {p : Nat → Bool} {n : Nat} (hn : 0 < n) : num (firstN p n) < n := by
  cases h : firstN p n with
  | none => exact hn
  | some c => exact (firstN_some h).1
theorem jn_lt {M : Nat → Nat → Bool} {n a b : Nat} (hn : 0 < n) : num (jn M n a b) < n := num_lt hn
theorem Lat.bot_exists {L : Nat → Nat → Bool} {n : Nat} (h : Lat L n) (hn : 0 < n) : ∀ k, k ≤ n → ∃ c, c < n ∧ ∀ d, d < k → L c d = true := by
  intro k
  induction k with
  | zero => exact fun _ => ⟨0, hn, fun d hd => by omega⟩
  | succ k ih =>
    intro hk
    obtain ⟨c, hc, hd⟩ := ih (by omega)
    obtain ⟨m, h1, h2, h3⟩ := h.flip_.jn_get hc (show k < n by omega)
    have hmc : L m c = true := by
      have := h3 m h2
      rw [show flip L m m = true from h.pre.refl m, eq_comm, Bool.and_eq_true] at this
      exact this.1
    have hmk : L m k = true := by
      have := h3 m h2
      rw [show flip L m m = true from h.pre.refl m, eq_comm, Bool.and_eq_true] at this
      exact this.2
    refine ⟨m, h2, fun d hd' => ?_⟩
    by_cases e : d = k
    · rw [e]; exact hmk
    · exact h.pre.trans _ _ _ hc hmc (hd d (by omega))
theorem Lat.bot_is {L : Nat → Nat → Bool} {n : Nat} (h : Lat L n) (hn : 0 < n) : bot L n < n ∧ ∀ d, d < n → L (bot L n) d = true := by
  unfold bot
  cases hf : firstN (fullB L n) n with
  | some c => exact ⟨(firstN_some hf).1, fullB_iff.1 (firstN_some hf).2.1⟩
  | none =>
    obtain ⟨c, hc, hd⟩ := h.bot_exists hn n (Nat.le_refl _)
    have := firstN_none hf c hc
    rw [fullB_iff.2 hd] at this; cases this
theorem Lat.jn_bot {L : Nat → Nat → Bool} {n a : Nat} (h : Lat L n) (ha : a < n) : jn L n (bot L n) a = some a := by
  obtain ⟨h1, h2⟩ := h.bot_is (by omega)
  exact h.jn_is h1 ha ha fun d hd => by rw [h2 d hd, Bool.true_and]
/-- the join of the first k of a list of numbers; none for one that is no level -/
def jaK (L : Nat → Nat → Bool) (n : Nat) (zs : List Int) : Nat → Option Nat
  | 0 => some (bot L n)
  | k + 1 => (jaK L n zs k).bind fun c => if lvB (zs.getD k 0) n then some (num (jn L n c (zs.getD k 0).toNat)) else none
theorem jaK_step {L : Nat → Nat → Bool} {n : Nat} {zs : List Int} {k c : Nat} (h : jaK L n zs k = some c) (hl : lvB (zs.getD k 0) n = true) : jaK L n zs (k + 1) = some (num (jn L n c (zs.getD k 0).toNat)) := by
  show (jaK L n zs k).bind _ = _
  rw [h, Option.bind_some, if_pos hl]
theorem jaK_bad {L : Nat → Nat → Bool} {n : Nat} {zs : List Int} {k c : Nat} (h : jaK L n zs k = some c) (hl : lvB (zs.getD k 0) n = false) : jaK L n zs (k + 1) = none := by
  show (jaK L n zs k).bind _ = _
  rw [h, Option.bind_some, hl]; rfl
theorem jaK_none {L : Nat → Nat → Bool} {n : Nat} {zs : List Int} {k m : Nat} (hk : k ≤ m) (h : jaK L n zs k = none) : jaK L n zs m = none := by
  induction m with
  | zero => obtain rfl : k = 0 := by omega
            exact h
  | succ m ih =>
    by_cases e : k = m + 1
    · rw [← e]; exact h
    · show (jaK L n zs m).bind _ = _
      rw [ih (by omega)]; rfl
/-- the code of a join -/
def jaC (o : Option Nat) : Int := match o with | some _ => 0 | none => 3
end Kl

theorem full_wrap {n : Nat} (hn : n ≤ 12) : IntKind.u64.wrap (IntKind.u64.wrap ((2 : Int) ^ n) - 1) = ((2 ^ n - 1 : Nat) : Int) := by
  have hp : (2 : Nat) ^ n ≤ 2 ^ 12 := Nat.pow_le_pow_right (by omega) hn
  have h1 := Nat.two_pow_pos n
  rw [shl_pow (by omega), show ((2 ^ n : Nat) : Int) - 1 = ((2 ^ n - 1 : Nat) : Int) by omega, wrap_nat (by omega)]

set_option maxRecDepth 100000 in
set_option maxHeartbeats 1000000 in
theorem extreme_ok (n : Nat) (hn : n ≤ 12) (R : Nat → Nat → Bool) (A : Option Addr) (c : Nat) (w : World) (h : Words w w.heap.size A (Kl.rows n R)) :
    Calls Try.prog 33 #[.slice A n c] w fun e w' => e = .returned (.int .i64 ((Kl.num (Kl.firstN (Kl.fullB R n) n) : Nat) : Int)) ∧ w = w' := by
  have hfw := full_wrap hn
  have hf : Hid (Kb.wordTo (fun _ => true) n = 2 ^ n - 1) := Lib.hid (Kl.word_full n)
  revert hfw hf
  generalize 2 ^ n - 1 = f
  intro hfw hf
  go_enter Try.func33, Try.ntmps33
  go_wp2_with fail
  go_loop [7] (fun kv => ∃ k : Nat, k ≤ n ∧ kv = .int .i64 k ∧ Hid (∀ d, d < k → Kl.fullB R n d = false)) (fun kv => n - (intOf kv).toNat)
  case atStart => exact ⟨0, Nat.zero_le _, rfl, Lib.hid fun d h => by omega⟩
  case round =>
    obtain ⟨k, hk, rfl, hno⟩ := hrel
    by_cases hlt : k < n
    · obtain ⟨b, off, x, rfl, hbb, hcx, hx⟩ := h.at_ (k := k) (by rw [Kl.rows_length]; exact hlt)
      have hbn := Kl.fullB_word (R := R) (n := n) (a := k)
      rw [hf.out, ← Kl.rows_get R hlt, ← hx.out.1] at hbn
      cases hq : Kl.fullB R n k with
      | true =>
        rw [hq, eq_comm, decide_eq_true_iff] at hbn
        have hxu : ((x : Int) == (f : Int)) = true := by simp; omega
        have hxu2 : (x == f) = true := by simp; omega
        have hR := Lib.hid (Kl.firstN_is hlt hq hno.out)
        clear hq hbn
        go_wp2_with fail
        go_ret
        exact ⟨ret_int (by rw [hR.out]; rfl), rfl⟩
      | false =>
        rw [hq, eq_comm, decide_eq_false_iff_not] at hbn
        have hxu : ((x : Int) == (f : Int)) = false := by simp; omega
        have hxu2 : (x == f) = false := by simp; omega
        have HQ := Lib.hid hq
        clear hq hbn
        go_wp2_with fail
        go_round
        case rel => exact ⟨k + 1, by omega, by go_num, Lib.hid fun d hd => by
          by_cases e : d = k
          · rw [e]; exact HQ.out
          · exact hno.out d (by omega)⟩
        case measure => simp [intOf]; omega
    · obtain rfl : k = n := by omega
      have hR := Lib.hid (Kl.firstN_no hno.out)
      go_wp2_with fail
      go_ret
      exact ⟨ret_int (by rw [hR.out]; rfl), rfl⟩

section
variable {lb n : Nat} {An : Option Addr} {cn : Nat} {Mv : Value} {Aa : Option Addr} {ca : Nat} {Ab : Option Addr} {cb : Nat} {L : Nat → Nat → Bool}

theorem size_ok (w : World) (h : PL w lb n An cn Mv Aa ca Ab cb L) : Calls Try.prog 12 #[.pointer (some ⟨lb, 0, none⟩)] w fun e w' => e = .returned (.int .i64 (n : Int)) ∧ w = w' := by
  have c0 := h.four.c0
  go_enter Try.func12, Try.ntmps12
  go_wp2_with fail
  go_ret
  exact ⟨rfl, rfl⟩
theorem bottom_ok (hn : n ≤ 12) (w : World) (h : PL w lb n An cn Mv Aa ca Ab cb L) : Calls Try.prog 30 #[.pointer (some ⟨lb, 0, none⟩)] w fun e w' => e = .returned (.int .i64 ((Kl.bot L n : Nat) : Int)) ∧ w = w' := by
  have c2 := h.four.c2
  go_enter Try.func30, Try.ntmps30
  go_wp2_with fail
  refine (extreme_ok n hn L Aa ca _ h.ab).mono ?_
  rintro e w' ⟨rfl, rfl⟩
  go_wp2_with fail
  go_ret
  exact ⟨rfl, rfl⟩
/-- is a below b? -/
def beB (L : Nat → Nat → Bool) (n : Nat) (a b : Int) : Bool := lvB a n && lvB b n && L a.toNat b.toNat
set_option maxRecDepth 100000 in
set_option maxHeartbeats 1000000 in
theorem below_ok (hn : n ≤ 12) (a b : Int) (w : World) (h : PL w lb n An cn Mv Aa ca Ab cb L) : Calls Try.prog 11 #[.pointer (some ⟨lb, 0, none⟩), .int .i64 a, .int .i64 b] w fun e w' => e = .returned (.bool (beB L n a b)) ∧ w = w' := by
  have hsz := size_ok w h
  have HSZ := Lib.hid hsz
  clear hsz
  cases h1 : lvB a n with
  | false =>
    have hR : Hid (beB L n a b = false) := Lib.hid (by unfold beB; rw [h1]; rfl)
    have H1 := Lib.hid h1
    clear h1
    go_enter Try.func11, Try.ntmps11
    go_wp2_with fail
    refine HSZ.out.mono ?_
    rintro e w' ⟨rfl, rfl⟩
    go_wp2_with fail
    refine (level_any _ _ _).mono ?_
    rintro e w' ⟨rfl, rfl⟩
    rw [H1.out]
    go_wp2_with fail
    go_ret
    exact ⟨ret_bool hR.out.symm, rfl⟩
  | true =>
    cases h2 : lvB b n with
    | false =>
      have hR : Hid (beB L n a b = false) := Lib.hid (by unfold beB; rw [h2]; simp)
      have H1 := Lib.hid h1
      have H2 := Lib.hid h2
      clear h1 h2
      go_enter Try.func11, Try.ntmps11
      go_wp2_with fail
      refine HSZ.out.mono ?_
      rintro e w' ⟨rfl, rfl⟩
      go_wp2_with fail
      refine (level_any _ _ _).mono ?_
      rintro e w' ⟨rfl, rfl⟩
      rw [H1.out]
      go_wp2_with fail
      refine HSZ.out.mono ?_
      rintro e w' ⟨rfl, rfl⟩
      go_wp2_with fail
      refine (level_any _ _ _).mono ?_
      rintro e w' ⟨rfl, rfl⟩
      rw [H2.out]
      go_wp2_with fail
      go_ret
      exact ⟨ret_bool hR.out.symm, rfl⟩
    | true =>
      have ha := h1
      have hb := h2
      unfold lvB at ha hb
      simp only [Bool.and_eq_true, decide_eq_true_eq] at ha hb
      obtain ⟨i, rfl⟩ := Int.eq_ofNat_of_zero_le ha.1
      obtain ⟨j, rfl⟩ := Int.eq_ofNat_of_zero_le hb.1
      have hi : i < n := by omega
      have hj : j < n := by omega
      obtain ⟨bk, off, x, rfl, hbb, hcx, hx⟩ := h.ab.at_ (k := i) (by rw [Kl.rows_length]; exact hi)
      have hbit : Hid ((bits BinOp.and IntKind.u64 ((x : Int) / 2 ^ j) 1 == 1) = L i j) := Lib.hid (by
        rw [shr_bit x j hx.out.2, hx.out.1, Kl.rows_get _ hi, Kb.wordTo_testBit]; simp [hj])
      have hR : Hid (beB L n i j = L i j) := Lib.hid (by unfold beB; rw [h1, h2]; rfl)
      have H1 := Lib.hid h1
      have H2 := Lib.hid h2
      have c2 := h.four.c2
      have hiI : (i : Int) < (n : Int) := by omega
      clear h1 h2 ha hb
      go_enter Try.func11, Try.ntmps11
      go_wp2_with fail
      refine HSZ.out.mono ?_
      rintro e w' ⟨rfl, rfl⟩
      go_wp2_with fail
      refine (level_any _ _ _).mono ?_
      rintro e w' ⟨rfl, rfl⟩
      rw [H1.out]
      go_wp2_with fail
      refine HSZ.out.mono ?_
      rintro e w' ⟨rfl, rfl⟩
      go_wp2_with fail
      refine (level_any _ _ _).mono ?_
      rintro e w' ⟨rfl, rfl⟩
      rw [H2.out]
      go_wp2_with fail
      go_ret
      exact ⟨ret_bool (hbit.out.trans hR.out.symm), rfl⟩

set_option maxRecDepth 100000 in
set_option maxHeartbeats 1000000 in
theorem joinAll_ok (hn : n ≤ 12) (hn0 : 0 < n) (A : Option Addr) (c : Nat) (zs : List Int) (w : World) (h : PL w lb n An cn Mv Aa ca Ab cb L) (hz : Ints w w.heap.size A zs) (hl : zs.length ≤ 1000000) :
    Calls Try.prog 23 #[.pointer (some ⟨lb, 0, none⟩), .slice A zs.length c] w fun e w' => e = .returned (.tuple #[.int .i64 ((Kl.num (Kl.jaK L n zs zs.length) : Nat) : Int), .int .i64 (Kl.jaC (Kl.jaK L n zs zs.length))]) ∧ ∃ q, w' = w.drewN q := by
  have c0 := h.four.c0
  have c2 := h.four.c2
  go_enter Try.func23, Try.ntmps23
  go_wp2_with fail
  refine (bottom_ok hn _ h).mono ?_
  rintro e w' ⟨rfl, rfl⟩
  go_wp2_with fail
  go_loopw [6, 15] (fun jv kv wr => ∃ k q j : Nat, k ≤ zs.length ∧ kv = .int .i64 k ∧ jv = .int .i64 j ∧ wr = w.drewN q ∧ Hid (Kl.jaK L n zs k = some j ∧ j < n)) (fun _ kv _ => zs.length - (intOf kv).toNat)
  case atStart => exact ⟨0, 0, Kl.bot L n, Nat.zero_le _, rfl, rfl, rfl, Lib.hid ⟨rfl, Kl.num_lt hn0⟩⟩
  case round =>
    obtain ⟨k, q, j, hk, rfl, rfl, rfl, hj⟩ := hrel
    by_cases hlt : k < zs.length
    · obtain ⟨b, off, z, rfl, hbb, hcz, hz1⟩ := hz.at_ hlt
      cases hlv : lvB z n with
      | false =>
        have hR := Lib.hid (Kl.jaK_none (m := zs.length) (Nat.succ_le_of_lt hlt) (Kl.jaK_bad hj.out.1 (by rw [← hz1.out.1]; exact hlv)))
        have HLV := Lib.hid hlv
        clear hlv
        go_wp2_with fail
        refine (level_any _ _ _).mono ?_
        rintro e w' ⟨rfl, rfl⟩
        rw [HLV.out]
        go_wp2_with fail
        go_ret2
        exact ⟨by rw [hR.out]; rfl, _, rfl⟩
      | true =>
        have hR := Lib.hid (Kl.jaK_step hj.out.1 (by rw [← hz1.out.1]; exact hlv))
        have hv := hlv
        unfold lvB at hv
        simp only [Bool.and_eq_true, decide_eq_true_eq] at hv
        obtain ⟨i, rfl⟩ := Int.eq_ofNat_of_zero_le hv.1
        rw [← hz1.out.1, Int.toNat_natCast] at hR
        have HLV := Lib.hid hlv
        have hi : i < n := by omega
        clear hlv hv
        have hbd : Calls Try.prog 29 #[.slice Aa n ca, .int .i64 (j : Int), .int .i64 (i : Int)] (w.drewN q) _ := bound_ok n hn L Aa ca j i _ (h.ab.drewN q) hj.out.2 hi
        have hjn := Kl.jn_lt (M := L) (a := j) (b := i) hn0
        have HBD := Lib.hid hbd
        clear hbd
        go_wp2_with fail
        refine (level_any _ _ _).mono ?_
        rintro e w' ⟨rfl, rfl⟩
        rw [HLV.out]
        go_wp2_with fail
        refine HBD.out.mono ?_
        rintro e w' ⟨rfl, q2, rfl⟩
        rw [World.drewN_drewN]
        go_wp2_with fail
        go_roundw
        case rel => exact ⟨k + 1, _, _, by omega, by go_num, rfl, rfl, Lib.hid ⟨hR.out, hjn⟩⟩
        case measure => simp [intOf]; omega
    · obtain rfl : k = zs.length := by omega
      go_wp2_with fail
      go_ret2
      exact ⟨by rw [hj.out.1]; rfl, _, rfl⟩
end
end Go.Proofs.Ytcckocaaoklibaa
