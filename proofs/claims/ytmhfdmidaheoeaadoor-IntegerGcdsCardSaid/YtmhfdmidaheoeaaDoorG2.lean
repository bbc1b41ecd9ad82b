/- Walks: gcdSmall, leading. -/
import Derived.Test.YtmhfdmidaheoeaaDoorD7
import Derived.Test.YtmhfdmidaheoeaaDoorDz
namespace Go.Proofs.YtmhfdmidaheoeaaDoor
open Go.RowKit
set_option linter.unusedVariables false

set_option maxHeartbeats 1000000 in
theorem gcdSmall_any (a b : Nat) (ha : Hid (a < 18446744073709551616)) (hb : Hid (b < 18446744073709551616)) (w : World) :
    Calls Tryd.prog 69 #[.int .u64 (a : Int), .int .u64 (b : Int)] w fun e w' => e = .returned (.int .u64 (Nat.gcd a b : Nat)) ∧ ∃ q, w' = w.drewN q := by
  go_enter Tryd.func69, Tryd.ntmps69
  go_wp2_with fail
  go_loopw [0, 1] (fun av bv wr => ∃ x y q, av = .int .u64 (x : Nat) ∧ bv = .int .u64 (y : Nat) ∧ wr = w.drewN q ∧ Hid (Nat.gcd x y = Nat.gcd a b)) (fun _ bv _ => (intOf bv).toNat)
  case atStart => exact ⟨a, b, 0, rfl, rfl, rfl, Lib.hid rfl⟩
  case round =>
    obtain ⟨x, y, q, rfl, rfl, rfl, HG⟩ := hrel
    rcases Nat.eq_zero_or_pos y with h0 | h0
    · subst h0
      have hx : Hid (x = Nat.gcd a b) := Lib.hid (by rw [← HG.out, Nat.gcd_zero_right])
      go_wp2_with fail
      go_ret
      exact ⟨ret_int (by rw [hx.out]), q, rfl⟩
    · have hy : (y : Int) ≠ 0 := by omega
      have gy : ((y : Int) != 0) = true := by rw [bne_iff_ne]; exact hy
      obtain ⟨r, hr⟩ : ∃ r : Nat, Hid (r = x % y) := ⟨_, Lib.hid rfl⟩
      have er : (x : Int) % (y : Int) = (r : Int) := by rw [hr.out]; omega
      have er2 : (x : Int).tmod (y : Int) = (r : Int) := by rw [← Int.ofNat_tmod, hr.out]
      have hrl : r < y := by rw [hr.out]; exact Nat.mod_lt _ h0
      have HG2 : Hid (Nat.gcd y r = Nat.gcd a b) := Lib.hid (by rw [← HG.out, hr.out, Nat.gcd_comm x y, Nat.gcd_rec y x, Nat.gcd_comm])
      go_wp2_with fail
      go_quiet (fail)
      go_wp2_with fail
      go_roundw
      case rel => exact ⟨y, r, q + nq, rfl, rfl, by first | rfl | rw [World.drewN_drewN], HG2⟩
      case measure => first | (simp [intOf]; done) | (simp [intOf]; omega)

/-- a box that holds a slice of words -/
structure BxS (w : World) (b : Nat) (A : Option Addr) (n c : Nat) : Prop where
  blk : ∃ T, w.heap[b]? = some (.cells #[.slice A n c] T (0, 0))
theorem BxS.lt {w : World} {b : Nat} {A : Option Addr} {n c : Nat} (h : BxS w b A n c) : b < w.heap.size := by obtain ⟨T, h⟩ := h.blk; exact (Array.getElem?_eq_some_iff.1 h).1
theorem BxS.c0 {w : World} {b : Nat} {A : Option Addr} {n c : Nat} (h : BxS w b A n c) : w.cell? ⟨b, 0, none⟩ = some (.slice A n c) := by obtain ⟨T, h⟩ := h.blk; rw [cell_of_row w b 0 _ _ _ h]; rfl
theorem BxS.new_ (w : World) (A : Option Addr) (n c : Nat) (T : TypeId) : BxS (w.alloc (.cells #[.slice A n c] T)) w.heap.size A n c := ⟨T, heap_alloc_new w _⟩
theorem BxS.drewN {w : World} {b : Nat} {A : Option Addr} {n c : Nat} (h : BxS w b A n c) (q : Nat) : BxS (w.drewN q) b A n c := ⟨h.blk⟩

set_option maxHeartbeats 400000 in
theorem leadWord_any (b : Nat) (A : Option Addr) (c : Nat) (a : List Nat) (k x : Nat) (w : World) (P : Nat) (hbx : BxS w b A a.length c) (ha : Sl w P A c a) (hk : k ≤ 1000000000) (hx : Hid (x = a.getD k 0)) :
    Calls Tryd.prog 116 #[.int .i64 (k : Int), .pointer (some ⟨b, 0, none⟩)] w fun e w' => e = .returned (.int .u64 (x : Int)) ∧ w = w' := by
  have hc0 := hbx.c0
  by_cases hlt : k < a.length
  · obtain ⟨b1, o1, y, rfl, hb1, hc1, hy, hyl⟩ := ha.word hlt
    have hxy : Hid (y = x) := Lib.hid (by rw [hx.out, hy.out])
    go_enter Tryd.func116, Tryd.ntmps116
    go_wp2
    go_ret
    exact ⟨ret_int (by rw [hxy.out]), rfl⟩
  · have hlt2 : decide (k < a.length) = false := by simp; omega
    have hlt3 : ¬ ((k : Int) < (a.length : Int)) := by omega
    have hx0 : Hid (x = 0) := Lib.hid (by rw [hx.out, List.getD_eq_getElem?_getD, List.getElem?_eq_none (by omega)]; rfl)
    go_enter Tryd.func116, Tryd.ntmps116
    go_wp2
    go_ret
    exact ⟨ret_int (by rw [hx0.out]; rfl), rfl⟩

/-- the leading words of a row that is not longer than n + 3 -/
theorem Kn.val_lead {a : List Nat} {n : Nat} (hl : a.length ≤ n + 3) : Kn.val a = Kn.val (a.take n) + Kn.pw n * (a.getD n 0 + 4294967296 * (a.getD (n + 1) 0 + 4294967296 * a.getD (n + 2) 0)) := by
  have h0 : Kn.val (a.take (n + 3)) = Kn.val a := by rw [List.take_of_length_le hl]
  have h1 := Kn.val_take_step a (n + 2)
  have h2 := Kn.val_take_step a (n + 1)
  have h3 := Kn.val_take_step a n
  rw [Kn.pw_succ, Kn.pw_succ, Nat.mul_assoc 4294967296, Nat.mul_assoc 4294967296, Nat.mul_left_comm 4294967296 (Kn.pw n), Nat.mul_left_comm 4294967296 (Kn.pw n)] at h1
  rw [Kn.pw_succ, Nat.mul_assoc 4294967296, Nat.mul_left_comm 4294967296 (Kn.pw n)] at h2
  rw [Nat.mul_add, Nat.mul_add 4294967296, Nat.mul_add (Kn.pw n)]
  rw [show n + 2 + 1 = n + 3 from rfl, h0] at h1
  rw [show n + 1 + 1 = n + 2 from rfl] at h2
  rw [h1, h2, h3]
  omega

theorem Kn.lead_val {a : List Nat} {n3 s t X : Nat} (ha : Kn.Wd a) (hl : a.length ≤ n3 + 3) (hs : s ≤ 31) (ht : t = 32 - s) (htop : a.getD (n3 + 2) 0 < 2 ^ t) (hX : X = Kn.val a / (Kn.pw n3 * 2 ^ t)) :
    X = ((a.getD (n3 + 2) 0 * 2 ^ (32 + s)) ||| (a.getD (n3 + 1) 0 * 2 ^ s)) ||| (a.getD n3 0 / 2 ^ t) ∧ X < 18446744073709551616 := by
  subst ht
  have LB := Kn.lead_bits hs htop (ha.getD (n3 + 1)) (ha.getD n3)
  have hv := Kn.val_lead (a := a) (n := n3) hl
  have hd : Kn.val a / Kn.pw n3 = a.getD n3 0 + 4294967296 * (a.getD (n3 + 1) 0 + 4294967296 * a.getD (n3 + 2) 0) := by
    rw [hv, Nat.add_mul_div_left _ _ (Kn.pw_pos _), Nat.div_eq_of_lt (Kn.val_take_lt ha n3), Nat.zero_add]
  rw [hX, ← Nat.div_div_eq_div_mul, hd]
  exact ⟨LB.1.symm, LB.2⟩
/-- a product with a power of two, as the machine reckons it -/
theorem shl_word (x k p : Nat) (hp : Hid (p = x * 2 ^ k)) (hl : p < 18446744073709551616) : IntKind.u64.wrap ((x : Int) * 2 ^ k) = (p : Int) := by
  have e : ((x : Int) * 2 ^ k) = (p : Int) := by rw [hp.out, Int.natCast_mul, Int.natCast_pow]; rfl
  rw [e]; exact wrap_nat hl
theorem shr_word (x k p : Nat) (hp : Hid (p = x / 2 ^ k)) : (x : Int) / 2 ^ k = (p : Int) := by
  rw [hp.out, Int.natCast_ediv, Int.natCast_pow]; rfl

set_option maxRecDepth 100000 in
set_option maxHeartbeats 1000000 in
theorem leading_any (A : Option Addr) (c : Nat) (a : List Nat) (n s X : Nat) (w : World) (ha : Sl w w.heap.size A c a) (hla : a.length ≤ n) (hn : 3 ≤ n) (hn2 : n ≤ 999999) (hs : s ≤ 31) (htop : a.getD (n - 1) 0 < 2 ^ (32 - s)) (hX : Hid (X = Kn.val a / (Kn.pw (n - 3) * 2 ^ (32 - s)))) :
    Calls Tryd.prog 105 #[.slice A a.length c, .int .i64 (n : Int), .int .i64 (s : Int)] w fun e w' => e = .returned (.int .u64 (X : Int)) ∧ X < 18446744073709551616 ∧ Below w.heap.size w w' := by
  obtain ⟨w1, hw1⟩ : ∃ x, Hid (x = a.getD (n - 1) 0) := ⟨_, Lib.hid rfl⟩
  obtain ⟨w2, hw2⟩ : ∃ x, Hid (x = a.getD (n - 2) 0) := ⟨_, Lib.hid rfl⟩
  obtain ⟨w3, hw3⟩ : ∃ x, Hid (x = a.getD (n - 3) 0) := ⟨_, Lib.hid rfl⟩
  obtain ⟨n1, hn1⟩ : ∃ x, x = n - 1 := ⟨_, rfl⟩
  obtain ⟨n2, hn2'⟩ : ∃ x, x = n - 2 := ⟨_, rfl⟩
  obtain ⟨n3, hn3⟩ : ∃ x, x = n - 3 := ⟨_, rfl⟩
  obtain ⟨t, ht⟩ : ∃ t, t = 32 - s := ⟨_, rfl⟩
  rw [← hn1] at hw1 htop
  rw [← hn2'] at hw2
  rw [← hn3] at hw3 hX
  rw [← ht] at htop hX
  rw [← hw1.out] at htop
  have l2 : w2 < 4294967296 := by rw [hw2.out]; exact ha.wd.getD _
  have l3 : w3 < 4294967296 := by rw [hw3.out]; exact ha.wd.getD _
  have hXe : X = ((w1 * 2 ^ (32 + s)) ||| (w2 * 2 ^ s)) ||| (w3 / 2 ^ t) ∧ X < 18446744073709551616 := by
    have h := Kn.lead_val (n3 := n3) (X := X) ha.wd (by omega) hs ht (by rw [show n3 + 2 = n1 by omega, ← hw1.out]; exact htop) hX.out
    rw [show n3 + 1 = n2 by omega, show n3 + 2 = n1 by omega, ← hw1.out, ← hw2.out, ← hw3.out] at h
    exact h
  have HX := Lib.hid hXe
  have hp1 : w1 * 2 ^ (32 + s) < 18446744073709551616 := by
    have h1 : (w1 + 1) * 2 ^ (32 + s) ≤ 2 ^ t * 2 ^ (32 + s) := Nat.mul_le_mul_right _ htop
    rw [← Nat.pow_add, show t + (32 + s) = 64 by omega, Nat.add_mul] at h1
    have := Nat.pow_pos (n := 32 + s) (show 0 < 2 by decide)
    omega
  have hp2 : w2 * 2 ^ s < 18446744073709551616 := by
    have h1 : w2 * 2 ^ s ≤ 4294967295 * 2 ^ 31 := Nat.mul_le_mul (by omega) (Nat.pow_le_pow_right (by decide) hs)
    omega
  obtain ⟨p1, hP1⟩ : ∃ p, Hid (p = w1 * 2 ^ (32 + s)) := ⟨_, Lib.hid rfl⟩
  obtain ⟨p2, hP2⟩ : ∃ p, Hid (p = w2 * 2 ^ s) := ⟨_, Lib.hid rfl⟩
  obtain ⟨p3, hP3⟩ : ∃ p, Hid (p = w3 / 2 ^ t) := ⟨_, Lib.hid rfl⟩
  obtain ⟨p4, hP4⟩ : ∃ p, Hid (p = p1 ||| p2) := ⟨_, Lib.hid rfl⟩
  have l1 : p1 < 18446744073709551616 := by rw [hP1.out]; exact hp1
  have l2' : p2 < 18446744073709551616 := by rw [hP2.out]; exact hp2
  have l3' : p3 < 18446744073709551616 := by rw [hP3.out]; exact Nat.lt_of_le_of_lt (Nat.div_le_self _ _) (by omega)
  have l4 : p4 < 18446744073709551616 := by rw [hP4.out]; exact Nat.or_lt_two_pow (n := 64) l1 l2'
  have q1 := shl_word w1 (32 + s) p1 hP1 l1
  have q2 := shl_word w2 s p2 hP2 l2'
  have q3 := shr_word w3 t p3 hP3
  have q4 : bits BinOp.or IntKind.u64 (p1 : Int) (p2 : Int) = (p4 : Int) := by rw [or_any64 _ _ l1 l2', hP4.out]
  have q5 : bits BinOp.or IntKind.u64 (p4 : Int) (p3 : Int) = (X : Int) := by rw [or_any64 _ _ l4 l3', hP4.out, hP1.out, hP2.out, hP3.out, HX.out.1]
  have e1 : (n : Int) - 1 = (n1 : Int) := by omega
  have e2 : (n : Int) - 2 = (n2 : Int) := by omega
  have e3 : (n : Int) - 3 = (n3 : Int) := by omega
  have e4 : ((32 : Int) + (s : Int)).toNat = 32 + s := by omega
  have e5 : (32 : Int) - (s : Int) = (t : Int) := by omega
  have b1 : n1 ≤ 1000000000 := by omega
  have b2 : n2 ≤ 1000000000 := by omega
  have b3 : n3 ≤ 1000000000 := by omega
  have htb : t ≤ 32 := by omega
  clear hp1 hp2 hn1 hn2' hn3 ht htop hXe
  go_enter Tryd.func105, Tryd.ntmps105
  go_wp2_with fail
  have hbx := BxS.new_ w A a.length c 22
  have hA := ha.alloc (Nat.le_refl _) (.cells #[.slice A a.length c] 22)
  have bel := al1 w (.cells #[.slice A a.length c] 22)
  revert hbx hA bel
  generalize w.alloc (.cells #[.slice A a.length c] 22) = wx
  generalize hbb : w.heap.size = bb
  intro hbx hA bel
  have C1 := Lib.hid (fun q => leadWord_any bb A c a n1 w1 (wx.drewN q) _ (hbx.drewN q) (hA.drewN q) b1 hw1)
  have C2 := Lib.hid (fun q => leadWord_any bb A c a n2 w2 (wx.drewN q) _ (hbx.drewN q) (hA.drewN q) b2 hw2)
  have C3 := Lib.hid (fun q => leadWord_any bb A c a n3 w3 (wx.drewN q) _ (hbx.drewN q) (hA.drewN q) b3 hw3)
  go_quiet ((go_at_call 116; first | with_reducible exact quiet_of_eq (C1.out _) | with_reducible exact quiet_of_eq (C2.out _) | with_reducible exact quiet_of_eq (C3.out _) | with_reducible exact quiet_more (C1.out _) | with_reducible exact quiet_more (C2.out _) | with_reducible exact quiet_more (C3.out _)))
  go_wp2_with fail
  go_ret
  exact ⟨rfl, HX.out.2, by rw [hbb]; exact bDrew bel _⟩
end Go.Proofs.YtmhfdmidaheoeaaDoor
