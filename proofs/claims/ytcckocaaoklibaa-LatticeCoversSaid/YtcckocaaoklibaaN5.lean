/- Walks: check. -/
import Derived.Test.YtcckocaaoklibaaN4
namespace Go.Proofs.Ytcckocaaoklibaa
open Go.RowKit
set_option linter.unusedVariables false

/-- the block b holds four values -/
structure Four (w : World) (b : Nat) (x0 x1 x2 x3 : Value) : Prop where
  blk : ∃ T, w.heap[b]? = some (.cells #[x0, x1, x2, x3] T (0, 0))
section
variable {w w' : World} {b : Nat} {x0 x1 x2 x3 : Value}
theorem Four.lt (h : Four w b x0 x1 x2 x3) : b < w.heap.size := by obtain ⟨T, h⟩ := h.blk; exact (Array.getElem?_eq_some_iff.1 h).1
theorem Four.c0 (h : Four w b x0 x1 x2 x3) : w.cell? ⟨b, 0, none⟩ = some x0 := by obtain ⟨T, h⟩ := h.blk; rw [cell_of_row w b 0 _ _ _ h]; rfl
theorem Four.c1 (h : Four w b x0 x1 x2 x3) : w.cell? ⟨b, 1, none⟩ = some x1 := by obtain ⟨T, h⟩ := h.blk; rw [cell_of_row w b 1 _ _ _ h]; rfl
theorem Four.c2 (h : Four w b x0 x1 x2 x3) : w.cell? ⟨b, 2, none⟩ = some x2 := by obtain ⟨T, h⟩ := h.blk; rw [cell_of_row w b 2 _ _ _ h]; rfl
theorem Four.c3 (h : Four w b x0 x1 x2 x3) : w.cell? ⟨b, 3, none⟩ = some x3 := by obtain ⟨T, h⟩ := h.blk; rw [cell_of_row w b 3 _ _ _ h]; rfl
theorem Four.fr (h : Four w b x0 x1 x2 x3) (k : Nat) : w.frozen? ⟨b, k, none⟩ = false := by obtain ⟨T, h⟩ := h.blk; exact frozen_of_row w b k _ _ h
theorem Four.new_ (w : World) (x0 x1 x2 x3 : Value) (T : TypeId) : Four (w.alloc (.cells #[x0, x1, x2, x3] T)) w.heap.size x0 x1 x2 x3 := ⟨T, heap_alloc_new w _⟩
theorem Four.alloc (h : Four w b x0 x1 x2 x3) (o : Obj) : Four (w.alloc o) b x0 x1 x2 x3 := by
  have hl := h.lt
  obtain ⟨T, h⟩ := h.blk
  exact ⟨T, (Below.heap_alloc w o b hl).trans h⟩
theorem Four.drewN (h : Four w b x0 x1 x2 x3) (n : Nat) : Four (w.drewN n) b x0 x1 x2 x3 := ⟨h.blk⟩
theorem Four.drew (h : Four w b x0 x1 x2 x3) : Four w.drew b x0 x1 x2 x3 := ⟨h.blk⟩
theorem Four.below {B : Nat} (h : Four w b x0 x1 x2 x3) (hb : Below B w w') (hB : b < B) : Four w' b x0 x1 x2 x3 := by
  obtain ⟨T, h⟩ := h.blk
  exact ⟨T, (hb.block b hB).trans h⟩
theorem Four.far (h : Four w b x0 x1 x2 x3) {p : Addr} (hp : b ≠ p.block) (u : Value) : Four (w.setCell p u) b x0 x1 x2 x3 := by
  obtain ⟨T, h⟩ := h.blk
  exact ⟨T, (Below.heap_setCell w p u b hp).trans h⟩
theorem Four.put3 (h : Four w b x0 x1 x2 x3) (u : Value) : Four (w.setCell ⟨b, 3, none⟩ u) b x0 x1 x2 u := by
  obtain ⟨T, h⟩ := h.blk
  exact ⟨T, by simp [World.setCell, Array.getElem?_modify, h]⟩
end

/-- a lattice in memory, but for its names -/
structure PL (w : World) (lb n : Nat) (An : Option Addr) (cn : Nat) (Mv : Value) (Aa : Option Addr) (ca : Nat) (Ab : Option Addr) (cb : Nat) (L : Nat → Nat → Bool) : Prop where
  four : Four w lb (.slice An n cn) Mv (.slice Aa n ca) (.slice Ab n cb)
  ab : Words w w.heap.size Aa (Kl.rows n L)
  be : Words w w.heap.size Ab (Kl.rows n (Kl.flip L))
theorem PL.below {w wx : World} {lb n : Nat} {An : Option Addr} {cn : Nat} {Mv : Value} {Aa : Option Addr} {ca : Nat} {Ab : Option Addr} {cb : Nat} {L : Nat → Nat → Bool} (h : PL w lb n An cn Mv Aa ca Ab cb L) (hb : Below w.heap.size w wx) : PL wx lb n An cn Mv Aa ca Ab cb L :=
  ⟨h.four.below hb h.four.lt, (h.ab.below hb).more hb.size, (h.be.below hb).more hb.size⟩
theorem bDrewN (w : World) (q : Nat) : Below w.heap.size w (w.drewN q) := bDrew (Below.refl _ _) q

namespace Kl
/-- the code of a relation -/
def ckC (L : Nat → Nat → Bool) (n : Nat) : Int := if antiB L n then (if allB L n then 0 else 11) else 10
theorem ckC_anti {L : Nat → Nat → Bool} {n a b : Nat} (ha : a < n) (hb : b < n) (h1 : L a b = true) (h2 : L b a = true) (h : a ≠ b) : ckC L n = 10 := by
  unfold ckC
  cases e : antiB L n with
  | true => exact absurd (antiB_iff.1 e a b ha hb h1 h2) h
  | false => rfl
theorem ckC_all {L : Nat → Nat → Bool} {n a b : Nat} (hA : antiB L n = true) (ha : a < n) (hb : b < n) (h : ((jn L n a b).isSome && (jn (flip L) n a b).isSome) = false) : ckC L n = 11 := by
  unfold ckC
  rw [hA, if_pos rfl]
  cases e : allB L n with
  | true => have := allB_iff.1 e a b ha hb; rw [this.1, this.2] at h; cases h
  | false => rfl
theorem ckC_ok {L : Nat → Nat → Bool} {n : Nat} (hA : antiB L n = true) (hB : allB L n = true) : ckC L n = 0 := by unfold ckC; rw [hA, hB]; rfl
end Kl

set_option maxRecDepth 100000 in
set_option maxHeartbeats 4000000 in
theorem check_ok (lb n : Nat) (hn : n ≤ 12) (An : Option Addr) (cn : Nat) (Mv : Value) (Aa : Option Addr) (ca : Nat) (Ab : Option Addr) (cb : Nat) (L : Nat → Nat → Bool) (hL : ∀ i, L i i = true) (w : World) (h : PL w lb n An cn Mv Aa ca Ab cb L) :
    Calls Try.prog 21 #[.pointer (some ⟨lb, 0, none⟩)] w fun e w' => e = .returned (.int .i64 (Kl.ckC L n)) ∧ ∃ q, w' = w.drewN q := by
  have HL := Lib.hid hL
  clear hL
  have x0 := h.four.c0
  have x2 := h.four.c2
  have x3 := h.four.c3
  go_enter Try.func21, Try.ntmps21
  go_wp2_with fail
  go_loopw [15] (fun kv wr => ∃ k q : Nat, k ≤ n ∧ kv = .int .i64 k ∧ wr = w.drewN q ∧ Hid (∀ a b, a < k → b < n → L a b = true → L b a = true → a = b)) (fun kv _ => n - (intOf kv).toNat)
  case atStart => exact ⟨0, 0, Nat.zero_le _, rfl, rfl, Lib.hid fun a b h => by omega⟩
  case round =>
    obtain ⟨k, q, hk, rfl, rfl, hanti⟩ := hrel
    by_cases hlt : k < n
    · obtain ⟨b1, o1, y, rfl, hbb1, hcy, hy⟩ := h.ab.at_ (k := k) (by rw [Kl.rows_length]; exact hlt)
      obtain ⟨b2, o2, z, rfl, hbb2, hcz, hz⟩ := h.be.at_ (k := k) (by rw [Kl.rows_length]; exact hlt)
      have hand := u64_and_nat y z hy.out.2 hz.out.2
      have hyz : Hid (y &&& z = Kb.wordTo (fun j => L k j && L j k) n) := Lib.hid (by rw [hy.out.1, hz.out.1, Kl.rows_get _ hlt, Kl.rows_get _ hlt, Kl.word_and]; rfl)
      obtain ⟨p, hp⟩ : ∃ p : Nat, Hid (2 ^ k = p) := ⟨_, Lib.hid rfl⟩
      have hsh : IntKind.u64.wrap ((2 : Int) ^ k) = (p : Int) := by rw [shl_pow (by omega), hp.out]
      revert hand hyz
      generalize y &&& z = u
      intro hand hyz
      have hk1 : (k : Int) < (n : Int) := by omega
      by_cases hu : u = p
      · have hne : ((u : Int) != (p : Int)) = false := by simp; omega
        have hok : Hid (∀ b, b < n → L k b = true → L b k = true → k = b) := Lib.hid fun b hb e1 e2 => by
          rw [← hp.out, hyz.out, Kl.word_pow hlt, Kl.word_iff] at hu
          have := hu b hb
          rw [e1, e2] at this
          have h2 : (b == k) = true := this.symm
          rw [beq_iff_eq] at h2; exact h2.symm
        have HU := Lib.hid hu
        clear hu
        go_wp2_with fail
        go_quiet (fail)
        go_wp2_with fail
        go_roundw
        case rel => exact ⟨k + 1, _, by omega, by go_num, rfl, Lib.hid fun a b ha hb e1 e2 => by
          by_cases e : a = k
          · subst e; exact hok.out b hb e1 e2
          · exact hanti.out a b (by omega) hb e1 e2⟩
        case measure => simp [intOf]; omega
      · have hne : ((u : Int) != (p : Int)) = true := by simp; omega
        have hR : Hid (Kl.ckC L n = 10) := Lib.hid (by
          apply Classical.byContradiction
          intro hc
          apply hu
          rw [← hp.out, hyz.out, Kl.word_pow hlt, Kl.word_iff]
          intro j hj
          by_cases e : j = k
          · subst e; rw [HL.out]; simp
          · rw [show (j == k) = false by simpa using e]
            cases h1 : L k j with
            | false => rfl
            | true =>
              cases h2 : L j k with
              | false => rfl
              | true => exact absurd (Kl.ckC_anti hlt hj h1 h2 (fun q => e q.symm)) hc)
        have HU := Lib.hid hu
        clear hu
        go_wp2_with fail
        go_quiet (fail)
        go_wp2_with fail
        go_ret
        exact ⟨ret_int hR.out.symm, _, World.drewN_drewN _ _ _⟩
    · obtain rfl : k = n := by omega
      have hA : Hid (Kl.antiB L k = true) := Lib.hid (Kl.antiB_iff.2 fun a b ha hb => hanti.out a b ha hb)
      go_wp2_with fail
      go_loopw [42] (fun kv wr => ∃ a q : Nat, a ≤ k ∧ kv = .int .i64 a ∧ wr = w.drewN q ∧ Hid (∀ a' b', a' < a → b' < a' → (Kl.jn L k a' b').isSome = true ∧ (Kl.jn (Kl.flip L) k a' b').isSome = true)) (fun kv _ => k - (intOf kv).toNat)
      case atStart => exact ⟨0, q, Nat.zero_le _, rfl, rfl, Lib.hid fun a b h => by omega⟩
      case round =>
        obtain ⟨a, q1, hak, rfl, rfl, hall⟩ := hrel
        by_cases hlt2 : a < k
        · go_wp2_with fail
          go_loopw [46] (fun kv wr => ∃ b q : Nat, b ≤ a ∧ kv = .int .i64 b ∧ wr = w.drewN q ∧ Hid (∀ b', b' < b → (Kl.jn L k a b').isSome = true ∧ (Kl.jn (Kl.flip L) k a b').isSome = true)) (fun kv _ => a - (intOf kv).toNat)
          case atStart => exact ⟨0, q1, Nat.zero_le _, rfl, rfl, Lib.hid fun b h => by omega⟩
          case round =>
            obtain ⟨b, q2, hba, rfl, rfl, hin⟩ := hrel
            by_cases hlt3 : b < a
            · have hbk : b < k := by omega
              have hb1 : Calls Try.prog 29 #[.slice Aa k ca, .int .i64 (a : Int), .int .i64 (b : Int)] (w.drewN q2) fun e w' => e = .returned (.tuple #[.int .i64 ((Kl.num (Kl.jn L k a b) : Nat) : Int), .bool (Kl.jn L k a b).isSome]) ∧ ∃ q, w' = (w.drewN q2).drewN q := bound_ok k hn L Aa ca a b _ (h.ab.drewN q2) hlt2 hbk
              have hb2 : ∀ q3, Calls Try.prog 29 #[.slice Ab k cb, .int .i64 (a : Int), .int .i64 (b : Int)] (w.drewN q3) fun e w' => e = .returned (.tuple #[.int .i64 ((Kl.num (Kl.jn (Kl.flip L) k a b) : Nat) : Int), .bool (Kl.jn (Kl.flip L) k a b).isSome]) ∧ ∃ q, w' = (w.drewN q3).drewN q := fun q3 => bound_ok k hn (Kl.flip L) Ab cb a b _ (h.be.drewN q3) hlt2 hbk
              have hfail : Hid (((Kl.jn L k a b).isSome && (Kl.jn (Kl.flip L) k a b).isSome) = false → Kl.ckC L k = 11) := Lib.hid fun hh => Kl.ckC_all hA.out hlt2 hbk hh
              have hnext : Hid (((Kl.jn L k a b).isSome && (Kl.jn (Kl.flip L) k a b).isSome) = true → ∀ b', b' < b + 1 → (Kl.jn L k a b').isSome = true ∧ (Kl.jn (Kl.flip L) k a b').isSome = true) := Lib.hid fun hh b' hb' => by
                by_cases e : b' = b
                · subst e; rw [Bool.and_eq_true] at hh; exact hh
                · exact hin.out b' (by omega)
              have HB1 := Lib.hid hb1
              have HB2 := Lib.hid hb2
              clear hb1 hb2
              revert HB1 HB2 hfail hnext
              generalize ((Kl.num (Kl.jn L k a b) : Nat) : Int) = n1
              generalize ((Kl.num (Kl.jn (Kl.flip L) k a b) : Nat) : Int) = n2
              generalize (Kl.jn L k a b).isSome = s1
              generalize (Kl.jn (Kl.flip L) k a b).isSome = s2
              intro hfail hnext HB1 HB2
              go_wp2_with fail
              refine HB1.out.mono ?_
              rintro e w1 ⟨rfl, q3, rfl⟩
              rw [World.drewN_drewN]
              go_wp2_with fail
              refine (HB2.out _).mono ?_
              rintro e w1 ⟨rfl, q4, rfl⟩
              rw [World.drewN_drewN]
              cases s1 with
              | false =>
                have hR := Lib.hid (hfail.out rfl)
                go_wp2_with fail
                go_ret
                exact ⟨ret_int hR.out.symm, _, rfl⟩
              | true =>
                cases s2 with
                | false =>
                  have hR := Lib.hid (hfail.out rfl)
                  go_wp2_with fail
                  go_ret
                  exact ⟨ret_int hR.out.symm, _, rfl⟩
                | true =>
                  have hR := Lib.hid (hnext.out rfl)
                  go_wp2_with fail
                  go_roundw
                  case rel => exact ⟨b + 1, _, by omega, by go_num, rfl, hR⟩
                  case measure => simp [intOf]; omega
            · obtain rfl : b = a := by omega
              go_wp2_with fail
              go_roundw
              case rel => exact ⟨b + 1, q2, by omega, by go_num, rfl, Lib.hid fun a' b' ha' hb' => by
                by_cases e : a' = b
                · subst e; exact hin.out b' hb'
                · exact hall.out a' b' (by omega) hb'⟩
              case measure => simp [intOf]; omega
        · obtain rfl : a = k := by omega
          have hR := Lib.hid (Kl.ckC_ok hA.out (Kl.allB_half fun a' b' ha' hb' => hall.out a' b' ha' hb'))
          go_wp2_with fail
          go_ret
          exact ⟨ret_int hR.out.symm, _, rfl⟩
end Go.Proofs.Ytcckocaaoklibaa
