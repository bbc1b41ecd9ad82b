/- My texts, packed: G4, G5, Lg, Rm, Ra, Rb, Rc. -/
import Derived.Test.YtkpomjdablopaaaGreatDoorZ9
import Derived.Test.YtkpomjdablopaaaGreatDoorZ6
import Derived.Test.YtkpomjdablopaaaGreatDoorZ8
import Derived.Test.YtkpomjdablopaaaGreatDoorZ5
/- Walks: foresee. -/
namespace Go.Proofs.YtkpomjdablopaaaGreatDoor
open Go.RowKit
set_option linter.unusedVariables false

/-- the cells of what a number of steps make of two magnitudes -/
abbrev strC (c a0 b0 a1 b1 : Nat) : Array Value := #[.int .i64 (c : Int), .int .u64 (a0 : Int), .int .u64 (b0 : Int), .int .u64 (a1 : Int), .int .u64 (b1 : Int)]
/-- the block b holds them -/
structure Five (w : World) (b c a0 b0 a1 b1 : Nat) : Prop where
  blk : ∃ T, w.heap[b]? = some (.cells (strC c a0 b0 a1 b1) T (0, 0))
section
variable {w w' : World} {b c a0 b0 a1 b1 : Nat}
theorem Five.lt (h : Five w b c a0 b0 a1 b1) : b < w.heap.size := by obtain ⟨T, h⟩ := h.blk; exact (Array.getElem?_eq_some_iff.1 h).1
theorem Five.c0 (h : Five w b c a0 b0 a1 b1) : w.cell? ⟨b, 0, none⟩ = some (.int .i64 (c : Int)) := by obtain ⟨T, h⟩ := h.blk; rw [cell_of_row w b 0 _ _ _ h]; rfl
theorem Five.c1 (h : Five w b c a0 b0 a1 b1) : w.cell? ⟨b, 1, none⟩ = some (.int .u64 (a0 : Int)) := by obtain ⟨T, h⟩ := h.blk; rw [cell_of_row w b 1 _ _ _ h]; rfl
theorem Five.c2 (h : Five w b c a0 b0 a1 b1) : w.cell? ⟨b, 2, none⟩ = some (.int .u64 (b0 : Int)) := by obtain ⟨T, h⟩ := h.blk; rw [cell_of_row w b 2 _ _ _ h]; rfl
theorem Five.c3 (h : Five w b c a0 b0 a1 b1) : w.cell? ⟨b, 3, none⟩ = some (.int .u64 (a1 : Int)) := by obtain ⟨T, h⟩ := h.blk; rw [cell_of_row w b 3 _ _ _ h]; rfl
theorem Five.c4 (h : Five w b c a0 b0 a1 b1) : w.cell? ⟨b, 4, none⟩ = some (.int .u64 (b1 : Int)) := by obtain ⟨T, h⟩ := h.blk; rw [cell_of_row w b 4 _ _ _ h]; rfl
theorem Five.fr (h : Five w b c a0 b0 a1 b1) (k : Nat) : w.frozen? ⟨b, k, none⟩ = false := by obtain ⟨T, h⟩ := h.blk; exact frozen_of_row w b k _ _ h
theorem Five.new_ (w : World) (c a0 b0 a1 b1 : Nat) (T : TypeId) : Five (w.alloc (.cells (strC c a0 b0 a1 b1) T)) w.heap.size c a0 b0 a1 b1 := ⟨T, heap_alloc_new w _⟩
theorem Five.alloc (h : Five w b c a0 b0 a1 b1) (o : Obj) : Five (w.alloc o) b c a0 b0 a1 b1 := by
  have hl := h.lt
  obtain ⟨T, h⟩ := h.blk
  exact ⟨T, (Below.heap_alloc w o b hl).trans h⟩
theorem Five.drewN (h : Five w b c a0 b0 a1 b1) (n : Nat) : Five (w.drewN n) b c a0 b0 a1 b1 := ⟨h.blk⟩
theorem Five.drew (h : Five w b c a0 b0 a1 b1) : Five w.drew b c a0 b0 a1 b1 := ⟨h.blk⟩
theorem Five.below {B : Nat} (h : Five w b c a0 b0 a1 b1) (hb : Below B w w') (hB : b < B) : Five w' b c a0 b0 a1 b1 := by
  obtain ⟨T, h⟩ := h.blk
  exact ⟨T, (hb.block b hB).trans h⟩
theorem Five.far (h : Five w b c a0 b0 a1 b1) {p : Addr} (hp : b ≠ p.block) (u : Value) : Five (w.setCell p u) b c a0 b0 a1 b1 := by
  obtain ⟨T, h⟩ := h.blk
  exact ⟨T, (Below.heap_setCell w p u b hp).trans h⟩
theorem Five.name (h : Five w b c a0 b0 a1 b1) : ∃ W, W = w := ⟨_, rfl⟩
/-- all five are stored -/
abbrev put5 (w : World) (b c a0 b0 a1 b1 : Nat) : World := ((((w.setCell ⟨b, 0, none⟩ (.int .i64 (c : Int))).setCell ⟨b, 1, none⟩ (.int .u64 (a0 : Int))).setCell ⟨b, 2, none⟩ (.int .u64 (b0 : Int))).setCell ⟨b, 3, none⟩ (.int .u64 (a1 : Int))).setCell ⟨b, 4, none⟩ (.int .u64 (b1 : Int))
theorem Five.put (h : Five w b c a0 b0 a1 b1) (c' a0' b0' a1' b1' : Nat) : Five (put5 w b c' a0' b0' a1' b1') b c' a0' b0' a1' b1' := by
  obtain ⟨T, h⟩ := h.blk
  exact ⟨T, by simp [put5, World.setCell, Array.getElem?_modify, h]⟩
theorem Five.far5 (h : Five w b c a0 b0 a1 b1) {g : Nat} (hg : b ≠ g) (c' a0' b0' a1' b1' : Nat) : Five (put5 w g c' a0' b0' a1' b1') b c a0 b0 a1 b1 :=
  ((((h.far (p := ⟨g, 0, none⟩) hg _).far (p := ⟨g, 1, none⟩) hg _).far (p := ⟨g, 2, none⟩) hg _).far (p := ⟨g, 3, none⟩) hg _).far (p := ⟨g, 4, none⟩) hg _
theorem below_put5 {B : Nat} {a w : World} (h : Below B a w) {g : Nat} (hg : B ≤ g) (c a0 b0 a1 b1 : Nat) : Below B a (put5 w g c a0 b0 a1 b1) :=
  ((((h.setCell (p := ⟨g, 0, none⟩) hg _).setCell (p := ⟨g, 1, none⟩) hg _).setCell (p := ⟨g, 2, none⟩) hg _).setCell (p := ⟨g, 3, none⟩) hg _).setCell (p := ⟨g, 4, none⟩) hg _
theorem size_put5 (w : World) (g c a0 b0 a1 b1 : Nat) : (put5 w g c a0 b0 a1 b1).heap.size = w.heap.size := by simp [put5, World.setCell]
end

theorem Sl.nx' {w w' : World} {A : Option Addr} {c : Nat} {ws : List Nat} (h : Sl w w.heap.size A c ws) (hb : Below w.heap.size w w') : Sl w' w'.heap.size A c ws := h.at_ hb (Nat.le_refl _)
/-- what foresee hands back -/
def FsRes (A B : Nat) (w : World) (e : Ending) (w' : World) : Prop :=
  ∃ c a0 b0 a1 b1 X Y, e = .returned (.agg (strC c a0 b0 a1 b1)) ∧ Kn.Tr A B c a0 b0 a1 b1 X Y ∧ a0 < 4294967296 ∧ b0 < 4294967296 ∧ a1 < 4294967296 ∧ b1 < 4294967296 ∧ c < 4294967296 ∧ Below w.heap.size w w'

/-- the world of foresee's loop: the result's box and the box of the steps so far -/
structure Fs (w wr : World) (g h c a0 b0 a1 b1 : Nat) : Prop where
  r : Five wr g 0 0 0 0 0
  s : Five wr h c a0 b0 a1 b1
  hg : w.heap.size ≤ g
  hh : g < h
  bel : Below w.heap.size w wr
theorem Fs.name {w wr : World} {g h c a0 b0 a1 b1 : Nat} (i : Fs w wr g h c a0 b0 a1 b1) : ∃ W, W = wr := ⟨_, rfl⟩

set_option maxRecDepth 100000 in
set_option maxHeartbeats 4000000 in
theorem foresee_any (N M : Nat) (A : Option Addr) (ca : Nat) (B : Option Addr) (cb : Nat) (w : World) (ha : Sl w w.heap.size A ca (Kn.dig N)) (hb : Sl w w.heap.size B cb (Kn.dig M)) (hMN : M ≤ N) (hM : 3 ≤ (Kn.dig M).length) (hla : (Kn.dig N).length ≤ 999999) :
    Calls Tryz.prog 167 #[.slice A (Kn.dig N).length ca, .slice B (Kn.dig M).length cb] w (FsRes N M w) := by
  have hlen : (Kn.dig M).length ≤ (Kn.dig N).length := Kn.dig_len_le (Nat.lt_of_le_of_lt hMN Kn.dig_lt)
  have hN0 : 0 < N := Kn.dig_len_pos.1 (by omega)
  obtain ⟨n, hn⟩ : ∃ n, Hid (n = (Kn.dig N).length) := ⟨_, Lib.hid rfl⟩
  obtain ⟨m, hm⟩ : ∃ n, Hid (n = (Kn.dig M).length) := ⟨_, Lib.hid rfl⟩
  obtain ⟨b1, o1, x, rfl, hb1, hc1, hx, hxl⟩ := ha.word (k := n - 1) (by rw [← hn.out]; have := hn.out; omega)
  have hx0 : 0 < x := by
    rw [hx.out, hn.out]
    have := Kn.dig_last hN0
    omega
  obtain ⟨s, hs, hs1, hs2, HLZ⟩ := lz32 x hx0 hxl
  have HZ := Lib.hid HLZ
  obtain ⟨t, ht⟩ : ∃ t, t = 32 - s := ⟨_, rfl⟩
  have htop : x < 2 ^ t := by
    rw [ht]
    have h1 : (4294967296 : Nat) = 2 ^ (32 - s) * 2 ^ s := by rw [← Nat.pow_add, show 32 - s + s = 32 by omega]
    rw [h1] at hs2
    exact Nat.lt_of_mul_lt_mul_right hs2
  obtain ⟨E, hE⟩ : ∃ E, Hid (E = Kn.pw (n - 3) * 2 ^ (32 - s)) := ⟨_, Lib.hid rfl⟩
  have hEp : 0 < E := by rw [hE.out]; exact Nat.mul_pos (Kn.pw_pos _) (Nat.pow_pos (by decide))
  obtain ⟨x0, hx0e⟩ : ∃ z, Hid (z = N / E) := ⟨_, Lib.hid rfl⟩
  obtain ⟨y0, hy0e⟩ : ∃ z, Hid (z = M / E) := ⟨_, Lib.hid rfl⟩
  have htopB : (Kn.dig M).getD (n - 1) 0 < 2 ^ (32 - s) := by
    rw [← ht]
    refine Nat.lt_of_le_of_lt ?_ htop
    have e1 := Kn.val_take_step (Kn.dig M) (n - 1)
    have e2 := Kn.val_take_step (Kn.dig N) (n - 1)
    rw [show n - 1 + 1 = n by have := hn.out; omega, List.take_of_length_le (by have := hn.out; omega), Kn.val_dig] at e1 e2
    have l1 := Kn.val_take_lt (Kn.dig_wd N) (n - 1)
    rw [← hx.out] at e2
    rw [← Nat.not_lt]
    intro hc
    have h3 : Kn.pw (n - 1) * (x + 1) ≤ Kn.pw (n - 1) * (Kn.dig M).getD (n - 1) 0 := Nat.mul_le_mul_left _ hc
    rw [Nat.mul_add] at h3
    omega
  have LA := Lib.hid (fun (W : World) (h : Sl W W.heap.size (some ⟨b1, o1, none⟩) ca (Kn.dig N)) => (by have := leading_any (some ⟨b1, o1, none⟩) ca (Kn.dig N) n s x0 W h (by rw [← hn.out]; omega) (by have := hn.out; omega) (by have := hn.out; omega) hs (by rw [← hx.out, ← ht]; exact htop) (Lib.hid (by rw [hx0e.out, hE.out, Kn.val_dig])); rwa [← hn.out] at this : Calls Tryz.prog 180 #[.slice (some ⟨b1, o1, none⟩) n ca, .int .i64 (n : Int), .int .i64 (s : Int)] W fun e w' => e = .returned (.int .u64 (x0 : Int)) ∧ x0 < 18446744073709551616 ∧ Below W.heap.size W w'))
  have LBB := Lib.hid (fun (W : World) (h : Sl W W.heap.size B cb (Kn.dig M)) => (by have := leading_any B cb (Kn.dig M) n s y0 W h (by have := hn.out; omega) (by have := hn.out; omega) (by have := hn.out; omega) hs htopB (Lib.hid (by rw [hy0e.out, hE.out, Kn.val_dig])); rwa [← hm.out] at this : Calls Tryz.prog 180 #[.slice B m cb, .int .i64 (n : Int), .int .i64 (s : Int)] W fun e w' => e = .returned (.int .u64 (y0 : Int)) ∧ y0 < 18446744073709551616 ∧ Below W.heap.size W w'))
  have DA := Lib.hid (Kn.div_between N E hEp)
  have DB := Lib.hid (Kn.div_between M E hEp)
  rw [← hx0e.out] at DA
  rw [← hy0e.out] at DB
  have hyx : y0 ≤ x0 := by rw [hx0e.out, hy0e.out]; exact Nat.div_le_div_right hMN
  have SM0 : Hid (Kn.Sm x0 y0 0 1 0 0 1 x0 y0) := Lib.hid (Kn.Sm.start hyx)
  have TR0 : Hid (Kn.Tr N M 0 1 0 0 1 N M) := Lib.hid (Kn.Tr.start hMN)
  have hn3 : 3 ≤ n := by have := hn.out; omega
  have hnb : n ≤ 999999 := by have := hn.out; omega
  rw [← hn.out, ← hm.out]
  have e1 : ((n : Int) - 1).toNat = n - 1 := by omega
  have e2 : (0 : Int) ≤ (n : Int) - 1 := by omega
  clear hs1 hs2 HLZ ht htop htopB hM hlen hla
  go_enter Tryz.func167, Tryz.ntmps167
  go_wp2_with fail
  have F4 : Five (w.alloc (.cells #[.int .i64 0, .int .u64 0, .int .u64 0, .int .u64 0, .int .u64 0] 165)) w.heap.size 0 0 0 0 0 := Five.new_ w 0 0 0 0 0 165
  have bel := al1 w (.cells #[.int .i64 0, .int .u64 0, .int .u64 0, .int .u64 0, .int .u64 0] 165)
  revert F4 bel
  generalize w.alloc (.cells #[.int .i64 0, .int .u64 0, .int .u64 0, .int .u64 0, .int .u64 0] 165) = w1
  intro F4 bel
  refine (HZ.out _).mono ?_
  rintro e w' ⟨rfl, rfl⟩
  clear hc1
  go_wp2_with fail
  refine (LA.out _ (ha.nx' bel)).mono ?_
  rintro e w2 ⟨rfl, hxb, hb2⟩
  replace F4 := F4.below hb2 F4.lt
  replace bel := bel.trans (hb2.mono bel.size)
  go_wp2_with fail
  refine (LBB.out _ (hb.nx' bel)).mono ?_
  rintro e w3 ⟨rfl, hyb, hb3⟩
  replace F4 := F4.below hb3 F4.lt
  replace bel := bel.trans (hb3.mono bel.size)
  clear hb2 hb3
  have I0 : Fs w (w3.alloc (.cells #[.int .i64 0, .int .u64 1, .int .u64 0, .int .u64 0, .int .u64 1] 165)) w.heap.size w3.heap.size 0 1 0 0 1 := ⟨F4.alloc _, Five.new_ w3 0 1 0 0 1 165, Nat.le_refl _, F4.lt, bel.alloc bel.size _⟩
  go_wp2_with fail
  revert I0
  generalize w3.alloc (.cells #[.int .i64 0, .int .u64 1, .int .u64 0, .int .u64 0, .int .u64 1] 165) = w4
  generalize w3.heap.size = h
  intro I0
  clear F4 bel ha hb LA LBB HZ
  have HXB := Lib.hid hxb
  have HYB := Lib.hid hyb
  clear hxb hyb
  go_loopw [7, 8] (fun xv yv wr => ∃ c a0 b0 a1 b1 x y X Y, xv = .int .u64 (x : Nat) ∧ yv = .int .u64 (y : Nat) ∧ Fs w wr w.heap.size h c a0 b0 a1 b1 ∧ Hid (x < 18446744073709551616) ∧ Hid (y ≤ x) ∧ Hid (Kn.Sm x0 y0 c a0 b0 a1 b1 x y) ∧ Hid (Kn.Tr N M c a0 b0 a1 b1 X Y)) (fun _ yv _ => (intOf yv).toNat)
  case atStart => exact ⟨0, 1, 0, 0, 1, x0, y0, N, M, rfl, rfl, I0, HXB, Lib.hid hyx, SM0, TR0⟩
  case round =>
    clear I0 SM0 TR0 hyx
    obtain ⟨c, a0, b0, a1, b1', x, y, X, Y, rfl, rfl, I, hxl, hyx, SM, TR⟩ := hrel
    have WD := Lib.hid (SM.out.words HXB.out)
    rcases Nat.eq_zero_or_pos y with h0 | h0
    · subst h0
      have s0 := I.s.c0
      have s1 := I.s.c1
      have s2 := I.s.c2
      have s3 := I.s.c3
      have s4 := I.s.c4
      have r0 := I.r.c0
      have r1 := I.r.c1
      have r2 := I.r.c2
      have r3 := I.r.c3
      have r4 := I.r.c4
      have f0 := I.r.fr 0
      have f1 := I.r.fr 1
      have f2 := I.r.fr 2
      have f3 := I.r.fr 3
      have f4 := I.r.fr 4
      have P := Lib.hid (I.r.put c a0 b0 a1 b1')
      go_wp2_with fail
      have q0 := P.out.c0
      have q1 := P.out.c1
      have q2 := P.out.c2
      have q3 := P.out.c3
      have q4 := P.out.c4
      refine bodyPost_ret (v := .agg (strC c a0 b0 a1 b1')) (by simp [results, Tryz.results167, go_sem, q0, q1, q2, q3, q4]) rfl ?_
      exact ⟨c, a0, b0, a1, b1', X, Y, rfl, TR.out, WD.out.1, WD.out.2.1, WD.out.2.2.1, WD.out.2.2.2.1, WD.out.2.2.2.2, below_put5 I.bel I.hg c a0 b0 a1 b1'⟩
    · have hyn : (y : Int) ≠ 0 := by omega
      have gy : ((y : Int) != 0) = true := by rw [bne_iff_ne]; exact hyn
      obtain ⟨q, hq⟩ : ∃ q : Nat, Hid (q = x / y) := ⟨_, Lib.hid rfl⟩
      obtain ⟨y', hy'⟩ : ∃ q : Nat, Hid (q = x % y) := ⟨_, Lib.hid rfl⟩
      have hyl : y' < y := by rw [hy'.out]; exact Nat.mod_lt _ h0
      have hqy : Hid (x = q * y + y') := Lib.hid (by rw [hq.out, hy'.out, Nat.mul_comm]; exact (Nat.div_add_mod x y).symm)
      have FT := Lib.hid (SM.out.fits h0 hqy.out hyl)
      obtain ⟨p1, hp1⟩ : ∃ p : Nat, Hid (p = q * y) := ⟨_, Lib.hid rfl⟩
      obtain ⟨p2, hp2⟩ : ∃ p : Nat, Hid (p = q * a1) := ⟨_, Lib.hid rfl⟩
      obtain ⟨p3, hp3⟩ : ∃ p : Nat, Hid (p = q * b1') := ⟨_, Lib.hid rfl⟩
      obtain ⟨na, hna⟩ : ∃ p : Nat, Hid (p = a0 + p2) := ⟨_, Lib.hid rfl⟩
      obtain ⟨nb, hnb⟩ : ∃ p : Nat, Hid (p = b0 + p3) := ⟨_, Lib.hid rfl⟩
      obtain ⟨nc, hnc⟩ : ∃ p : Nat, Hid (p = c + 1) := ⟨_, Lib.hid rfl⟩
      have B := Lib.hid (show p1 ≤ x ∧ na < 18446744073709551616 ∧ nb < 18446744073709551616 ∧ p2 < 18446744073709551616 ∧ p3 < 18446744073709551616 by
        have h1 := FT.out.2.1
        have h2 := FT.out.2.2.1
        have h3 := FT.out.2.2.2.2
        have h4 := HXB.out
        have h5 := hqy.out
        rw [← hp2.out, ← hp3.out] at h1 h3
        rw [← hp3.out] at h2
        rw [← hp1.out] at h5
        have := hna.out
        have := hnb.out
        omega)
      have hxl2 := hxl.out
      have q1 : IntKind.u64.wrap ((x : Int) / (y : Int)) = (q : Int) := by rw [← Int.natCast_ediv, ← hq.out]; exact wrap_nat (by rw [hq.out]; exact Nat.lt_of_le_of_lt (Nat.div_le_self _ _) hxl2)
      have q2 : IntKind.u64.wrap ((q : Int) * (y : Int)) = (p1 : Int) := by rw [← Int.natCast_mul, ← hp1.out]; exact wrap_nat (by have := B.out.1; omega)
      have q3 : IntKind.u64.wrap ((x : Int) - (p1 : Int)) = (y' : Int) := by rw [IntKind.wrap_u64]; have := hqy.out; rw [← hp1.out] at this; omega
      have q3' : (x : Int) - (p1 : Int) = (y' : Int) := by have := hqy.out; rw [← hp1.out] at this; omega
      have q4 : IntKind.u64.wrap ((q : Int) * (a1 : Int)) = (p2 : Int) := by rw [← Int.natCast_mul, ← hp2.out]; exact wrap_nat B.out.2.2.2.1
      have q5 : IntKind.u64.wrap ((q : Int) * (b1' : Int)) = (p3 : Int) := by rw [← Int.natCast_mul, ← hp3.out]; exact wrap_nat B.out.2.2.2.2
      have q6 : (a0 : Int) + (p2 : Int) = (na : Int) := by rw [hna.out]; omega
      have q7 : (b0 : Int) + (p3 : Int) = (nb : Int) := by rw [hnb.out]; omega
      have q6' : IntKind.u64.wrap (na : Int) = (na : Int) := wrap_nat B.out.2.1
      have q7' : IntKind.u64.wrap (nb : Int) = (nb : Int) := wrap_nat B.out.2.2.1
      have q9 : IntKind.u64.wrap (y' : Int) = (y' : Int) := wrap_nat (by have := hxl.out; have := hyx.out; omega)
      have q8 : (c : Int) + 1 = (nc : Int) := by rw [hnc.out]; omega
      have hncb : nc ≤ 4294967296 := by have := hnc.out; have := WD.out.2.2.2.2; omega
      have s0 := I.s.c0
      have s1 := I.s.c1
      have s2 := I.s.c2
      have s3 := I.s.c3
      have s4 := I.s.c4
      clear hxl2
      go_upto_region 9 with (fail)
      have J : Fs w (wr.alloc (.cells (strC nc a1 b1' na nb) 165)) w.heap.size h c a0 b0 a1 b1' := ⟨I.r.alloc _, I.s.alloc _, I.hg, I.hh, I.bel.alloc I.bel.size _⟩
      have X11 : Five (wr.alloc (.cells (strC nc a1 b1' na nb) 165)) wr.heap.size nc a1 b1' na nb := Five.new_ wr nc a1 b1' na nb 165
      have hh11 := I.s.lt
      revert J X11
      generalize wr.alloc (.cells (strC nc a1 b1' na nb) 165) = w9
      generalize wr.heap.size = g11 at hh11
      intro J X11
      clear s0 s1 s2 s3 s4 q1 q2 q3 q3' q4 q5 q6 q7 q6' q7' q8 q9 I
      have I := J
      clear J
      have x2 := X11.c2
      have x4 := X11.c4
      by_cases hc1 : y' < nb
      · have g1 : decide (y' < nb) = true := by simp; omega
        have g1' : decide ((y' : Int) < (nb : Int)) = true := by simp; omega
        have HC1 := Lib.hid hc1
        clear hc1
        have s0 := I.s.c0
        have s1 := I.s.c1
        have s2 := I.s.c2
        have s3 := I.s.c3
        have s4 := I.s.c4
        have r0 := I.r.c0
        have r1 := I.r.c1
        have r2 := I.r.c2
        have r3 := I.r.c3
        have r4 := I.r.c4
        have f0 := I.r.fr 0
        have f1 := I.r.fr 1
        have f2 := I.r.fr 2
        have f3 := I.r.fr 3
        have f4 := I.r.fr 4
        have P := Lib.hid (I.r.put c a0 b0 a1 b1')
        go_wp2_with fail
        have q0 := P.out.c0
        have q1 := P.out.c1
        have q2 := P.out.c2
        have q3 := P.out.c3
        have q4 := P.out.c4
        refine bodyPost_ret (v := .agg (strC c a0 b0 a1 b1')) (by simp [results, Tryz.results167, go_sem, q0, q1, q2, q3, q4]) rfl ?_
        exact ⟨c, a0, b0, a1, b1', X, Y, rfl, TR.out, WD.out.1, WD.out.2.1, WD.out.2.2.1, WD.out.2.2.2.1, WD.out.2.2.2.2, below_put5 I.bel I.hg c a0 b0 a1 b1'⟩
      · have g1 : decide (y' < nb) = false := by simp; omega
        have g1' : decide ((y' : Int) < (nb : Int)) = false := by simp; omega
        obtain ⟨d, hd⟩ : ∃ d : Nat, Hid (d = y - y') := ⟨_, Lib.hid rfl⟩
        obtain ⟨e', he'⟩ : ∃ d : Nat, Hid (d = b1' + nb) := ⟨_, Lib.hid rfl⟩
        have hel : e' < 18446744073709551616 := by
          have h1 := FT.out.2.2.2.1
          rw [← hp3.out, ← hnb.out] at h1
          have h2 : 1 ≤ nb := by
            have := SM.out.b1p
            have h3 : 1 * b1' ≤ q * b1' := Nat.mul_le_mul_right _ FT.out.1
            have := hnb.out
            have := hp3.out
            omega
          have h4 : nb * 1 ≤ nb * y := Nat.mul_le_mul_left _ h0
          have h5 : b1' * 1 ≤ b1' * y' := Nat.mul_le_mul_left _ (by omega)
          have := he'.out
          have := HXB.out
          omega
        have u1 : (y : Int) - (y' : Int) = (d : Int) := by rw [hd.out]; omega
        have u2 : (b1' : Int) + (nb : Int) = (e' : Int) := by rw [he'.out]; omega
        have u3 : IntKind.u64.wrap (d : Int) = (d : Int) := wrap_nat (by have := hd.out; have := hxl.out; have := hyx.out; omega)
        have u4 : IntKind.u64.wrap (e' : Int) = (e' : Int) := wrap_nat hel
        have HC1 := Lib.hid hc1
        by_cases hc2 : d < e'
        · have g2 : decide (d < e') = true := by simp; omega
          have g2' : decide ((d : Int) < (e' : Int)) = true := by simp; omega
          clear hc1 hc2
          have s0 := I.s.c0
          have s1 := I.s.c1
          have s2 := I.s.c2
          have s3 := I.s.c3
          have s4 := I.s.c4
          have r0 := I.r.c0
          have r1 := I.r.c1
          have r2 := I.r.c2
          have r3 := I.r.c3
          have r4 := I.r.c4
          have f0 := I.r.fr 0
          have f1 := I.r.fr 1
          have f2 := I.r.fr 2
          have f3 := I.r.fr 3
          have f4 := I.r.fr 4
          have P := Lib.hid (I.r.put c a0 b0 a1 b1')
          go_wp2_with fail
          have q0 := P.out.c0
          have q1 := P.out.c1
          have q2 := P.out.c2
          have q3 := P.out.c3
          have q4 := P.out.c4
          refine bodyPost_ret (v := .agg (strC c a0 b0 a1 b1')) (by simp [results, Tryz.results167, go_sem, q0, q1, q2, q3, q4]) rfl ?_
          exact ⟨c, a0, b0, a1, b1', X, Y, rfl, TR.out, WD.out.1, WD.out.2.1, WD.out.2.2.1, WD.out.2.2.2.1, WD.out.2.2.2.2, below_put5 I.bel I.hg c a0 b0 a1 b1'⟩
        · have g2 : decide (d < e') = false := by simp; omega
          have g2' : decide ((d : Int) < (e' : Int)) = false := by simp; omega
          have ST := Kn.step_both DA.out.1 DA.out.2 DB.out.1 DB.out.2 SM.out TR.out h0 hqy.out hyl (by rw [← hp3.out, ← hnb.out]; omega) (by rw [← hp3.out, ← hnb.out]; have := hd.out; have := he'.out; omega)
          rw [← hp2.out, ← hp3.out, ← hna.out, ← hnb.out, ← hnc.out] at ST
          obtain ⟨SM2, Z, TR2⟩ := ST
          have HSM2 := Lib.hid SM2
          have HTR2 := Lib.hid TR2
          have hyl2 : Hid (y < 18446744073709551616) := Lib.hid (by have := hxl.out; have := hyx.out; omega)
          have hyy : Hid (y' ≤ y) := Lib.hid (by omega)
          have s0 := I.s.c0
          have s1 := I.s.c1
          have s2 := I.s.c2
          have s3 := I.s.c3
          have s4 := I.s.c4
          have f0 := I.s.fr 0
          have f1 := I.s.fr 1
          have f2 := I.s.fr 2
          have f3 := I.s.fr 3
          have f4 := I.s.fr 4
          have x0c := X11.c0
          have x1c := X11.c1
          have x3c := X11.c3
          have J : Fs w (put5 w9 h nc a1 b1' na nb) w.heap.size h nc a1 b1' na nb := ⟨I.r.far5 (by have := I.hh; omega) _ _ _ _ _, I.s.put _ _ _ _ _, I.hg, I.hh, below_put5 I.bel (by have := I.hg; have := I.hh; omega) _ _ _ _ _⟩
          clear SM2 TR2 hc1 hc2 I
          go_wp2_with fail
          go_roundw
          case rel => exact ⟨nc, a1, b1', na, nb, y, y', Y, Z, rfl, rfl, J, hyl2, hyy, HSM2, HTR2⟩
          case measure => first | (simp [intOf]; done) | (simp [intOf]; omega)
end Go.Proofs.YtkpomjdablopaaaGreatDoor
/- Walks: shrink. -/
namespace Go.Proofs.YtkpomjdablopaaaGreatDoor
open Go.RowKit
set_option linter.unusedVariables false

/-- what shrink hands back -/
def ShRes (N M : Nat) (w : World) (e : Ending) (w' : World) : Prop :=
  ∃ X Y A c B d, e = .returned (.tuple #[.slice A (Kn.dig X).length c, .slice B (Kn.dig Y).length d]) ∧ Kn.Shr N M X Y ∧ Sl w' w'.heap.size A c (Kn.dig X) ∧ Sl w' w'.heap.size B d (Kn.dig Y) ∧ Below w.heap.size w w'

set_option maxRecDepth 100000 in
set_option maxHeartbeats 2000000 in
theorem shrink_any (N M : Nat) (A : Option Addr) (ca : Nat) (B : Option Addr) (cb : Nat) (w : World) (ha : Sl w w.heap.size A ca (Kn.dig N)) (hb : Sl w w.heap.size B cb (Kn.dig M)) (hMN : M ≤ N) (hM : 3 ≤ (Kn.dig M).length) (hla : (Kn.dig N).length ≤ 999999) :
    Calls Tryz.prog 147 #[.slice A (Kn.dig N).length ca, .slice B (Kn.dig M).length cb] w (ShRes N M w) := by
  have hlen : (Kn.dig M).length ≤ (Kn.dig N).length := Kn.dig_len_le (Nat.lt_of_le_of_lt hMN Kn.dig_lt)
  have hM0 : 0 < M := Kn.dig_len_pos.1 (by omega)
  have HFS := Lib.hid (fun (W : World) (h1 : Sl W W.heap.size A ca (Kn.dig N)) (h2 : Sl W W.heap.size B cb (Kn.dig M)) => foresee_any N M A ca B cb W h1 h2 hMN hM hla)
  have HDW := Lib.hid (fun (W : World) (h1 : Sl W W.heap.size A ca (Kn.dig N)) (h2 : Sl W W.heap.size B cb (Kn.dig M)) => divideWords_any N M A ca B cb W h1 h2 hM0 hla (by omega))
  have hlb : (Kn.dig M).length ≤ 999999 := by omega
  clear hM hlen
  go_enter Tryz.func147, Tryz.ntmps147
  go_wp2_with fail
  refine (HFS.out _ ha hb).mono ?_
  rintro e w2 ⟨c, a0, b0, a1, b1, X, Y, rfl, TR, l1, l2, l3, l4, l5, hb2⟩
  have HTR := Lib.hid TR
  clear TR
  replace ha := ha.nx' hb2
  replace hb := hb.nx' hb2
  have F := Five.new_ w2 c a0 b0 a1 b1 165
  have bel := hb2.trans ((al1 w2 (.cells (strC c a0 b0 a1 b1) 165)).mono hb2.size)
  replace ha := ha.nx' (al1 w2 (.cells (strC c a0 b0 a1 b1) 165))
  replace hb := hb.nx' (al1 w2 (.cells (strC c a0 b0 a1 b1) 165))
  go_upto_region 2 with (fail)
  revert F bel ha hb
  generalize w2.alloc (.cells (strC c a0 b0 a1 b1) 165) = w3
  generalize w2.heap.size = g
  intro F bel ha hb
  clear hb2 HFS
  have s0 := F.c0
  rcases Nat.eq_zero_or_pos c with hc | hc
  · subst hc
    have s0' : w3.cell? ⟨g, 0, none⟩ = some (.int .i64 0) := s0
    clear s0
    go_wp2_with fail
    refine (HDW.out _ ha hb).mono ?_
    rintro e w4 ⟨A4, c4, B4, d4, rfl, hQ, hR, hb4⟩
    replace hb := hb.nx' hb4
    go_wp2_with fail
    go_ret2
    exact ⟨M, N % M, B, cb, B4, d4, rfl, Kn.shr_mod hM0 hMN, hb, hR, bel.trans (hb4.mono bel.size)⟩
  · have gc : ((c : Int) == 0) = false := by rw [beq_eq_false_iff_ne]; omega
    have HSH := Lib.hid (HTR.out.shr hM0 hMN hc)
    have HYB := Lib.hid (HTR.out.yb)
    have HST : Hid (X ≤ M ∧ X + Y ≤ N) := Lib.hid (by rcases HTR.out.st with h | h <;> omega)
    have hNl := Lib.hid (@Kn.dig_lt N)
    have hMl := Lib.hid (@Kn.dig_lt M)
    rcases Nat.mod_two_eq_zero_or_one c with hm | hm
    · have gm : (((c : Int) % 2) == 0) = true := by rw [beq_iff_eq]; omega
      have gm2 : (c : Int) % 2 = 0 := by omega
      have HE := Lib.hid (HTR.out.even hm)
      have C1 := Lib.hid (fun (W : World) (h1 : Sl W W.heap.size A ca (Kn.dig N)) (h2 : Sl W W.heap.size B cb (Kn.dig M)) => (by
        have := combine_any a0 A ca (Kn.dig N) b0 B cb (Kn.dig M) W h1 h2 (by omega) (by omega) l1 l2 (by rw [Kn.val_dig, Kn.val_dig]; have := HE.out; omega) (by rw [Kn.val_dig, Kn.val_dig]; have := HE.out; have := HST.out; have := hNl.out; omega)
        rwa [Kn.val_dig, Kn.val_dig, show a0 * N - b0 * M = X by have := HE.out; omega] at this : Calls Tryz.prog 150 #[.int .u64 (a0 : Int), .slice A (Kn.dig N).length ca, .int .u64 (b0 : Int), .slice B (Kn.dig M).length cb] W (MagRes X W)))
      have C2 := Lib.hid (fun (W : World) (h1 : Sl W W.heap.size A ca (Kn.dig N)) (h2 : Sl W W.heap.size B cb (Kn.dig M)) => (by
        have := combine_any b1 B cb (Kn.dig M) a1 A ca (Kn.dig N) W h2 h1 (by omega) (by omega) l4 l3 (by rw [Kn.val_dig, Kn.val_dig]; have := HE.out; omega) (by rw [Kn.val_dig, Kn.val_dig]; have := HE.out; have := HYB.out; have := hMl.out; omega)
        rwa [Kn.val_dig, Kn.val_dig, show b1 * M - a1 * N = Y by have := HE.out; omega] at this : Calls Tryz.prog 150 #[.int .u64 (b1 : Int), .slice B (Kn.dig M).length cb, .int .u64 (a1 : Int), .slice A (Kn.dig N).length ca] W (MagRes Y W)))
      clear hm hc
      go_wp2_with fail
      clear s0
      replace F := F.drew
      replace ha := sl_drew ha
      replace hb := sl_drew hb
      replace bel := bDrew1 bel
      go_region_held3 (fun w' => w'.cell? ⟨g, 1, none⟩ = some (.int .u64 (a0 : Int)) ∧ w'.cell? ⟨g, 2, none⟩ = some (.int .u64 (b0 : Int)) ∧ w'.cell? ⟨g, 3, none⟩ = some (.int .u64 (a1 : Int)) ∧ w'.cell? ⟨g, 4, none⟩ = some (.int .u64 (b1 : Int)))
        (with_reducible exact ⟨F.c1, F.c2, F.c3, F.c4⟩)
        (first
          | (go_at_call 150; (with_reducible refine (C1.out _ ha hb).mono ?_); rintro e w4 ⟨A4, c4, rfl, S4, hb4⟩; replace F := F.below hb4 F.lt; replace ha := ha.nx' hb4; replace hb := hb.nx' hb4; replace bel := bel.trans (hb4.mono bel.size); clear hb4)
          | (go_at_call 150; (with_reducible refine (C2.out _ ha hb).mono ?_); rintro e w5 ⟨A5, c5, rfl, S5, hb4⟩; replace F := F.below hb4 F.lt; replace S4 := S4.nx' hb4; replace bel := bel.trans (hb4.mono bel.size); clear hb4))
      all_goals
        go_wp2_with fail
        go_ret2
        exact ⟨X, Y, A4, c4, A5, c5, rfl, HSH.out, S4, S5, bel⟩
    · have gm : (((c : Int) % 2) == 0) = false := by rw [beq_eq_false_iff_ne]; omega
      have gm2 : (c : Int) % 2 = 1 := by omega
      have HE := Lib.hid (HTR.out.odd hm)
      have C1 := Lib.hid (fun (W : World) (h1 : Sl W W.heap.size A ca (Kn.dig N)) (h2 : Sl W W.heap.size B cb (Kn.dig M)) => (by
        have := combine_any b0 B cb (Kn.dig M) a0 A ca (Kn.dig N) W h2 h1 (by omega) (by omega) l2 l1 (by rw [Kn.val_dig, Kn.val_dig]; have := HE.out; omega) (by rw [Kn.val_dig, Kn.val_dig]; have := HE.out; have := HST.out; have := hMl.out; omega)
        rwa [Kn.val_dig, Kn.val_dig, show b0 * M - a0 * N = X by have := HE.out; omega] at this : Calls Tryz.prog 150 #[.int .u64 (b0 : Int), .slice B (Kn.dig M).length cb, .int .u64 (a0 : Int), .slice A (Kn.dig N).length ca] W (MagRes X W)))
      have C2 := Lib.hid (fun (W : World) (h1 : Sl W W.heap.size A ca (Kn.dig N)) (h2 : Sl W W.heap.size B cb (Kn.dig M)) => (by
        have := combine_any a1 A ca (Kn.dig N) b1 B cb (Kn.dig M) W h1 h2 (by omega) (by omega) l3 l4 (by rw [Kn.val_dig, Kn.val_dig]; have := HE.out; omega) (by rw [Kn.val_dig, Kn.val_dig]; have := HE.out; have := HST.out; have := hNl.out; omega)
        rwa [Kn.val_dig, Kn.val_dig, show a1 * N - b1 * M = Y by have := HE.out; omega] at this : Calls Tryz.prog 150 #[.int .u64 (a1 : Int), .slice A (Kn.dig N).length ca, .int .u64 (b1 : Int), .slice B (Kn.dig M).length cb] W (MagRes Y W)))
      clear hm hc
      go_wp2_with fail
      clear s0
      replace F := F.drew
      replace ha := sl_drew ha
      replace hb := sl_drew hb
      replace bel := bDrew1 bel
      go_region_held3 (fun w' => w'.cell? ⟨g, 1, none⟩ = some (.int .u64 (a0 : Int)) ∧ w'.cell? ⟨g, 2, none⟩ = some (.int .u64 (b0 : Int)) ∧ w'.cell? ⟨g, 3, none⟩ = some (.int .u64 (a1 : Int)) ∧ w'.cell? ⟨g, 4, none⟩ = some (.int .u64 (b1 : Int)))
        (with_reducible exact ⟨F.c1, F.c2, F.c3, F.c4⟩)
        (first
          | (go_at_call 150; (with_reducible refine (C1.out _ ha hb).mono ?_); rintro e w4 ⟨A4, c4, rfl, S4, hb4⟩; replace F := F.below hb4 F.lt; replace ha := ha.nx' hb4; replace hb := hb.nx' hb4; replace bel := bel.trans (hb4.mono bel.size); clear hb4)
          | (go_at_call 150; (with_reducible refine (C2.out _ ha hb).mono ?_); rintro e w5 ⟨A5, c5, rfl, S5, hb4⟩; replace F := F.below hb4 F.lt; replace S4 := S4.nx' hb4; replace bel := bel.trans (hb4.mono bel.size); clear hb4))
      all_goals
        go_wp2_with fail
        go_ret2
        exact ⟨X, Y, A4, c4, A5, c5, rfl, HSH.out, S4, S5, bel⟩
end Go.Proofs.YtkpomjdablopaaaGreatDoor
/- Walks: gcdWords, Gcd. -/
namespace Go.Proofs.YtkpomjdablopaaaGreatDoor
open Go.RowKit
set_option linter.unusedVariables false

/-- the world of gcdWords' loop -/
structure Gw (w wr : World) (A : Option Addr) (ca N : Nat) (B : Option Addr) (cb M : Nat) : Prop where
  a : Sl wr wr.heap.size A ca (Kn.dig N)
  b : Sl wr wr.heap.size B cb (Kn.dig M)
  bel : Below w.heap.size w wr
theorem Gw.name {w wr : World} {A B : Option Addr} {ca N cb M : Nat} (h : Gw w wr A ca N B cb M) : ∃ W, W = wr := ⟨_, rfl⟩
theorem two_small {n : Nat} (h : (Kn.dig n).length ≤ 2) : n < 18446744073709551616 := by
  have h1 := @Kn.dig_lt n
  have h2 := Kn.pw_mono h
  have h3 : Kn.pw 2 = 18446744073709551616 := by decide
  omega
theorem cmp_sign5 (N M : Nat) : decide (Kn.cmp N M < 0) = decide (N < M) := by
  rcases Nat.lt_trichotomy N M with h | h | h
  · rw [Kn.cmp_lt h, decide_eq_true h]; rfl
  · rw [h, Kn.cmp_self, decide_eq_false (Nat.lt_irrefl _)]; rfl
  · rw [Kn.cmp_gt h]; exact (decide_eq_false (p := N < M) (by omega)).symm

set_option maxRecDepth 100000 in
set_option maxHeartbeats 2000000 in
theorem gcdWords_any (N M : Nat) (A : Option Addr) (ca : Nat) (B : Option Addr) (cb : Nat) (w : World) (ha : Sl w w.heap.size A ca (Kn.dig N)) (hb : Sl w w.heap.size B cb (Kn.dig M)) (hla : (Kn.dig N).length ≤ 99999) (hlb : (Kn.dig M).length ≤ 99999) :
    Calls Tryz.prog 119 #[.slice A (Kn.dig N).length ca, .slice B (Kn.dig M).length cb] w (MagRes (Nat.gcd N M) w) := by
  obtain ⟨G, hG⟩ : ∃ G, Hid (G = Nat.gcd N M) := ⟨_, Lib.hid rfl⟩
  rw [← hG.out]
  have HCW := Lib.hid (compareWords_any A ca N B cb M w _ ha hb (by omega) (by omega))
  obtain ⟨cm, hcm⟩ : ∃ c, Hid (c = Kn.cmp N M) := ⟨_, Lib.hid rfl⟩
  have gcs := Lib.hid (cmp_sign5 N M)
  rw [← hcm.out] at gcs HCW
  go_enter Tryz.func119, Tryz.ntmps119
  go_wp2_with fail
  refine HCW.out.mono ?_
  rintro e w1 ⟨rfl, q, rfl⟩
  have ha1 : Sl (w.drewN q) (w.drewN q).heap.size A ca (Kn.dig N) := ha.drewN q
  have hb1 : Sl (w.drewN q) (w.drewN q).heap.size B cb (Kn.dig M) := hb.drewN q
  have bel := bDrew (Below.refl w.heap.size w) q
  revert ha1 hb1 bel
  generalize w.drewN q = w2
  intro ha1 hb1 bel
  go_upto_if 10 with (fail)
  go_cut [0, 1] (fun s0 s1 wx => ∃ X Y A c B d, s0 = .slice A (Kn.dig X).length c ∧ s1 = .slice B (Kn.dig Y).length d ∧ Gw w wx A c X B d Y ∧ Y ≤ X ∧ (Kn.dig X).length ≤ 99999 ∧ Hid (Nat.gcd X Y = G))
  case first =>
    by_cases h : N < M
    · have gc : decide (cm < 0) = true := by rw [gcs.out, decide_eq_true h]
      have gc2 : cm < 0 := of_decide_eq_true gc
      have HH := Lib.hid h
      clear h
      go_wp2_with fail
      go_meet
      exact ⟨M, N, B, cb, A, ca, rfl, rfl, ⟨hb1, ha1, bel⟩, Nat.le_of_lt HH.out, hlb, Lib.hid (by rw [hG.out, Nat.gcd_comm])⟩
    · have gc : decide (cm < 0) = false := by rw [gcs.out, decide_eq_false h]
      have gc2 : ¬ cm < 0 := of_decide_eq_false gc
      have HH := Lib.hid h
      clear h
      go_wp2_with fail
      go_meet
      exact ⟨N, M, A, ca, B, cb, rfl, rfl, ⟨ha1, hb1, bel⟩, by have := HH.out; omega, hla, Lib.hid hG.out.symm⟩
  case rest =>
    clear ha hb ha1 hb1 HCW gcs bel
    obtain ⟨X0, Y0, A0, c0, B0, d0, rfl, rfl, I0, hyx0, hx0l, HG0⟩ := hcut
    obtain ⟨w3, rfl⟩ := I0.name
    go_wp2_with fail
    go_loopw [0, 1] (fun s0 s1 wx => ∃ X Y A c B d, s0 = .slice A (Kn.dig X).length c ∧ s1 = .slice B (Kn.dig Y).length d ∧ Gw w wx A c X B d Y ∧ Y ≤ X ∧ (Kn.dig X).length ≤ 99999 ∧ Hid (Nat.gcd X Y = G)) (fun s0 s1 wx => rdVal wx s0 + rdVal wx s1)
    case atStart => exact ⟨X0, Y0, A0, c0, B0, d0, rfl, rfl, I0, hyx0, hx0l, HG0⟩
    case round =>
      clear I0 HG0 hyx0 hx0l
      obtain ⟨X, Y, A, c, B, d, rfl, rfl, I, hyx, hxl, HG⟩ := hrel
      have hyl : (Kn.dig Y).length ≤ (Kn.dig X).length := Kn.dig_len_le (Nat.lt_of_le_of_lt hyx Kn.dig_lt)
      by_cases h2 : 2 < (Kn.dig Y).length
      · have g2 : decide ((2 : Int) < ((Kn.dig Y).length : Int)) = true := by simp; omega
        go_wp2_with fail
        refine (shrink_any X Y A c B d wr I.a I.b hyx (by omega) (by omega)).mono ?_
        rintro e w4 ⟨X', Y', A', c', B', d', rfl, hsh, S1, S2, hb4⟩
        obtain ⟨sh1, sh2, sh3, sh4⟩ := hsh
        have HMS := Lib.hid (show rdVal w4 (.slice A' (Kn.dig X').length c') + rdVal w4 (.slice B' (Kn.dig Y').length d') < rdVal wr (.slice A (Kn.dig X).length c) + rdVal wr (.slice B (Kn.dig Y).length d) by rw [rdVal_dig S1, rdVal_dig S2, rdVal_dig I.a, rdVal_dig I.b]; exact sh3)
        have J : Gw w w4 A' c' X' B' d' Y' := ⟨S1, S2, I.bel.trans (hb4.mono I.bel.size)⟩
        have hx' : (Kn.dig X').length ≤ 99999 := Nat.le_trans (Kn.dig_len_le (Nat.lt_of_le_of_lt sh4 Kn.dig_lt)) hxl
        have HG2 : Hid (Nat.gcd X' Y' = G) := Lib.hid (by rw [sh2]; exact HG.out)
        have H1 := Lib.hid sh1
        clear sh1 sh2 sh3 sh4 I hb4 h2 g2
        go_wp2_with fail
        go_roundw
        case rel => exact ⟨X', Y', A', c', B', d', rfl, rfl, J, H1.out, hx', HG2⟩
        case measure => exact HMS.out
      · have g2 : decide ((2 : Int) < ((Kn.dig Y).length : Int)) = false := by simp; omega
        have hyl2 : (Kn.dig Y).length ≤ 2 := by omega
        rcases Nat.eq_zero_or_pos Y with hy0 | hy0
        · subst hy0
          have hXG : Hid (X = G) := Lib.hid (by rw [← HG.out, Nat.gcd_zero_right])
          have HCL := Lib.hid (clone_any A c _ wr I.a (by omega))
          rw [hXG.out] at HCL
          have hz0 : (Kn.dig 0).length = 0 := by rw [Kn.dig_zero]; rfl
          rw [hz0]
          clear hz0 h2 g2 hyl hyl2 hxl
          rw [hXG.out]
          go_wp2_with fail
          refine HCL.out.mono ?_
          rintro e w4 ⟨A', c', rfl, S1, hb4⟩
          go_wp2_with fail
          go_ret
          exact ⟨A', c', rfl, S1, I.bel.trans (hb4.mono I.bel.size)⟩
        · have hyp := Kn.dig_len_pos.2 hy0
          have gz : (((Kn.dig Y).length : Int) == 0) = false := by rw [beq_eq_false_iff_ne]; omega
          have hYs := two_small hyl2
          have HYS := Lib.hid hYs
          clear hYs
          by_cases hx2 : 2 < (Kn.dig X).length
          · have g3 : decide ((2 : Int) < ((Kn.dig X).length : Int)) = true := by simp; omega
            obtain ⟨R, hR⟩ : ∃ R, Hid (R = X % Y) := ⟨_, Lib.hid rfl⟩
            have hRY : R < Y := by rw [hR.out]; exact Nat.mod_lt _ hy0
            have hRl : (Kn.dig R).length ≤ 2 := Nat.le_trans (Kn.dig_len_le (Nat.lt_trans hRY Kn.dig_lt)) hyl2
            have HRS := Lib.hid (two_small hRl)
            have HG2 : Hid (Nat.gcd Y R = G) := Lib.hid (by rw [← HG.out, hR.out, Nat.gcd_comm X Y, Nat.gcd_rec Y X, Nat.gcd_comm])
            have HGS : Hid (G < 18446744073709551616) := Lib.hid (by rw [← HG2.out]; exact Nat.lt_of_le_of_lt (Nat.gcd_le_left _ hy0) HYS.out)
            go_wp2_with fail
            refine (divideWords_any X Y A c B d wr I.a I.b hy0 (by omega) (by omega)).mono ?_
            rintro e w4 ⟨A', c', B', d', rfl, S1, S2, hb4⟩
            rw [← hR.out] at S2 ⊢
            have hb := I.b.nx' hb4
            have bel := I.bel.trans (hb4.mono I.bel.size)
            go_wp2_with fail
            refine (join_any B d _ w4 _ hb hyl2).mono ?_
            rintro e w' ⟨rfl, rfl⟩
            rw [Kn.val_dig]
            go_wp2_with fail
            refine (join_any B' d' _ w4 _ S2 hRl).mono ?_
            rintro e w' ⟨rfl, rfl⟩
            rw [Kn.val_dig]
            go_wp2_with fail
            refine (gcdSmall_any Y R HYS HRS w4).mono ?_
            rintro e w5 ⟨rfl, q, rfl⟩
            rw [HG2.out]
            go_wp2_with fail
            refine (split_any G HGS (w4.drewN q)).mono ?_
            rintro e w6 ⟨A6, c6, rfl, S6, hb6⟩
            go_wp2_with fail
            go_ret
            exact ⟨A6, c6, rfl, S6, bel.trans (((bDrew (Below.refl _ _) q).trans hb6).mono bel.size)⟩
          · have g3 : decide ((2 : Int) < ((Kn.dig X).length : Int)) = false := by simp; omega
            have hxl2 : (Kn.dig X).length ≤ 2 := by omega
            have HXS := Lib.hid (two_small hxl2)
            have HGS : Hid (G < 18446744073709551616) := Lib.hid (by rw [← HG.out]; exact Nat.lt_of_le_of_lt (Nat.gcd_le_right _ hy0) HYS.out)
            go_wp2_with fail
            refine (join_any A c _ wr _ I.a hxl2).mono ?_
            rintro e w' ⟨rfl, rfl⟩
            rw [Kn.val_dig]
            go_wp2_with fail
            refine (join_any B d _ wr _ I.b hyl2).mono ?_
            rintro e w' ⟨rfl, rfl⟩
            rw [Kn.val_dig]
            go_wp2_with fail
            refine (gcdSmall_any X Y HXS HYS wr).mono ?_
            rintro e w5 ⟨rfl, q, rfl⟩
            rw [HG.out]
            go_wp2_with fail
            refine (split_any G HGS (wr.drewN q)).mono ?_
            rintro e w6 ⟨A6, c6, rfl, S6, hb6⟩
            go_wp2_with fail
            go_ret
            exact ⟨A6, c6, rfl, S6, I.bel.trans (((bDrew (Below.refl _ _) q).trans hb6).mono I.bel.size)⟩

theorem iv_false_dig' (n : Nat) : Kn.iv false (Kn.dig n) = (n : Int) := by rw [Kn.iv_d]; rfl

set_option maxRecDepth 100000 in
set_option maxHeartbeats 1000000 in
theorem gcd_any (nx : Bool) (A : Option Addr) (ca : Nat) (xs : List Nat) (ny : Bool) (B : Option Addr) (cb : Nat) (ys : List Nat) (w : World) (hx : Sl w w.heap.size A ca xs) (hy : Sl w w.heap.size B cb ys) (hlx : xs.length ≤ 99999) (hly : ys.length ≤ 99999) :
    Calls Tryz.prog 84 #[intV nx A xs.length ca, intV ny B ys.length cb] w (IntRes (Nat.gcd (Kn.val xs) (Kn.val ys) : Int) w) := by
  obtain ⟨G, hG⟩ : ∃ G, Hid (G = Nat.gcd (Kn.val xs) (Kn.val ys)) := ⟨_, Lib.hid rfl⟩
  rw [← hG.out]
  obtain ⟨z, hz⟩ : ∃ z : Int, Hid (z = (G : Int)) := ⟨_, Lib.hid rfl⟩
  rw [← hz.out]
  have hdx : (Kn.dig (Kn.val xs)).length ≤ 99999 := Nat.le_trans (Kn.dig_len_val hx.wd) hlx
  have hdy : (Kn.dig (Kn.val ys)).length ≤ 99999 := Nat.le_trans (Kn.dig_len_val hy.wd) hly
  have hGl : (Kn.dig G).length ≤ 99999 := by
    rcases Nat.eq_zero_or_pos (Kn.val xs) with h0 | h0
    · rw [hG.out, h0, Nat.gcd_zero_left]; exact hdy
    · rw [hG.out]; exact Nat.le_trans (Kn.dig_len_le (Nat.lt_of_le_of_lt (Nat.gcd_le_left _ h0) Kn.dig_lt)) hdx
  have HGW := Lib.hid (fun (W : World) (h1 : Sl W W.heap.size A ca (Kn.dig (Kn.val xs))) (h2 : Sl W W.heap.size B cb (Kn.dig (Kn.val ys))) => (by have := gcdWords_any (Kn.val xs) (Kn.val ys) A ca B cb W h1 h2 hdx hdy; rwa [← hG.out] at this : Calls Tryz.prog 119 #[.slice A (Kn.dig (Kn.val xs)).length ca, .slice B (Kn.dig (Kn.val ys)).length cb] W (MagRes G W)))
  have HSG := Lib.hid (fun (W : World) (C : Option Addr) (c : Nat) (h : Sl W W.heap.size C c (Kn.dig G)) => (by have := signed_any false C c (Kn.dig G) W h (by omega); rwa [iv_false_dig', ← hz.out] at this : Calls Tryz.prog 63 #[.bool false, .slice C (Kn.dig G).length c] W (IntRes z W)))
  unfold intV
  go_enter Tryz.func84, Tryz.ntmps84
  go_wp2_with fail
  have i := B3.new_ w nx A xs.length ca ny B ys.length cb 24
  revert i
  generalize ((w.alloc (.cells #[.bool nx, .slice A xs.length ca] 24)).alloc (.cells #[.bool ny, .slice B ys.length cb] 24)).alloc (.cells #[.bool false, .slice none 0 0] 24) = wx
  intro i
  replace i := i.drew
  have hX := (hx.below i.bel).more i.bel.size
  have hY := (hy.below i.bel).more i.bel.size
  go_region_held3 (fun w' => w'.cell? ⟨w.heap.size, 1, none⟩ = some (.slice A xs.length ca) ∧ w'.cell? ⟨w.heap.size + 1, 1, none⟩ = some (.slice B ys.length cb))
    (first | exact ⟨i.t1.c1, i.t2.c1⟩ | exact ⟨((i.t1.far (by simp; omega) _).far (by simp; omega) _).c1, ((i.t2.far (by simp) _).far (by simp) _).c1⟩)
    (first
      | (go_at_call 65; (with_reducible refine (trim_any A ca xs _ _ hX (by omega)).mono ?_); rintro e w' ⟨rfl, rfl⟩)
      | (go_at_call 65; (with_reducible refine (trim_any B cb ys _ _ hY (by omega)).mono ?_); rintro e w' ⟨rfl, rfl⟩)
      | (go_at_call 119; (with_reducible refine (HGW.out _ hX.trim hY.trim).mono ?_); rintro e w3 ⟨A3, c3, rfl, hS, hb3⟩; replace i := i.below hb3; clear hb3)
      | (go_at_call 63; (with_reducible refine (HSG.out _ _ _ hS).mono ?_); rintro e w4 ⟨A4, c4, rfl, hS4, hb4⟩; replace i := i.below hb4; clear hb4; have d20 := i.t3.c0; have d21 := i.t3.c1; have f20 := i.t3.fr 0; have f21 := i.t3.fr 1))
  all_goals
    have R := Lib.hid (two_set w4 (.bool (decide (z < 0))) (.slice A4 (Kn.dig z.natAbs).length c4) d20 d21)
    clear d20 d21 f20 f21
    go_wp2_with fail
    obtain ⟨r0, r1⟩ := R.out
    refine bodyPost_ret (v := .agg #[.bool (decide (z < 0)), .slice A4 (Kn.dig z.natAbs).length c4]) (by simp [results, Tryz.results84, go_sem, r0, r1]) rfl ?_
    exact i.fin hS4
end Go.Proofs.YtkpomjdablopaaaGreatDoor
/- For the laws: quotients and common divisors of integers in memory, with their values. -/
namespace Go.Proofs.YtkpomjdablopaaaGreatDoor
open Go.RowKit
set_option linter.unusedVariables false

theorem fm_eq (x y : Int) : x.fdiv y * y + x.fmod y = x := by rw [Int.mul_comm]; exact Int.mul_fdiv_add_fmod x y
theorem fm_range {x y : Int} (hy : y ≠ 0) : (0 < y ∧ 0 ≤ x.fmod y ∧ x.fmod y < y) ∨ (y < 0 ∧ y < x.fmod y ∧ x.fmod y ≤ 0) := by
  rcases Int.lt_or_gt_of_ne hy with h | h
  · have := (Int.fdiv_fmod_unique' (a := x) (r := x.fmod y) (q := x.fdiv y) h).1 ⟨rfl, rfl⟩
    exact Or.inr ⟨h, this.2⟩
  · have := (Int.fdiv_fmod_unique (a := x) (r := x.fmod y) (q := x.fdiv y) h).1 ⟨rfl, rfl⟩
    exact Or.inl ⟨h, this.2⟩
theorem fm_abs {x y : Int} (hy : y ≠ 0) : (x.fmod y).natAbs < y.natAbs := by rcases fm_range (x := x) hy with h | h <;> omega
theorem fm_sign {x y : Int} (hy : y ≠ 0) (hr : x.fmod y ≠ 0) : (x.fmod y).sign = y.sign := by
  rcases fm_range (x := x) hy with h | h
  · rw [Int.sign_eq_one_of_pos h.1, Int.sign_eq_one_of_pos (by omega)]
  · rw [Int.sign_eq_neg_one_of_neg h.1, Int.sign_eq_neg_one_of_neg (by omega)]

/-- two new integers, and no error -/
def GI2 (a b : Int) (n k : Nat) (W : World) (e : Ending) (W' : World) : Prop :=
  ∃ p A c l q B d m, e = .returned (.tuple #[.agg #[.bool p, .slice A l.length c], .agg #[.bool q, .slice B m.length d], .int .i64 0]) ∧ Cn W' p A c l a n ∧ Cn W' q B d m b k ∧ Below W.heap.size W W'
theorem GI2.of {a b : Int} {n k : Nat} {W W' : World} {e : Ending} (h : IntRes2 a b W e W') (ha : a.natAbs < Kn.pw n) (hb : b.natAbs < Kn.pw k) : GI2 a b n k W e W' := by
  obtain ⟨A, c, B, d, he, h1, h2, hbl⟩ := h
  exact ⟨_, A, c, _, _, B, d, _, he, ⟨⟨h1, Kn.iv_dig a, Kn.dig_len_le ha⟩, rfl, rfl⟩, ⟨⟨h2, Kn.iv_dig b, Kn.dig_len_le hb⟩, rfl, rfl⟩, hbl⟩
section
variable {W W' : World} {p q : Bool} {A B : Option Addr} {c d : Nat} {l m : List Nat} {x y z : Int} {n k : Nat}
theorem Iv.val0 (h : Iv W p A c l z n) : Kn.val l = z.natAbs := by rw [← h.val, Kn.iv_natAbs]
theorem gdivide (h1 : Iv W p A c l x n) (h2 : Iv W q B d m y k) (hy : y ≠ 0) (hn : n ≤ 100) (hk : k ≤ 100) : Calls Tryz.prog 120 #[.agg #[.bool p, .slice A l.length c], .agg #[.bool q, .slice B m.length d]] W (GI2 (x.fdiv y) (x.fmod y) n k W) := by
  have h := divide_any p A c l q B d m W h1.sl h2.sl (by have := h1.len; omega) (by have := h2.len; omega) (by rw [h2.val0]; omega)
  rw [h1.val, h2.val] at h
  exact h.mono fun _ _ hr => GI2.of hr (Nat.lt_of_le_of_lt (Int.natAbs_fdiv_le_natAbs x y) h1.abs) (Nat.lt_trans (fm_abs hy) h2.abs)
theorem grdivide (h1 : Iv W p A c l x n) (h2 : Iv W q B d m y k) (hy : y ≠ 0) (hn : n ≤ 100) (hk : k ≤ 100) : Calls Tryz.prog 73 #[.agg #[.bool p, .slice A l.length c], .agg #[.bool q, .slice B m.length d]] W (GI2 (x.fdiv y) (x.fmod y) n k W) := by
  have h := rdivide_any p A c l q B d m W h1.sl h2.sl (by have := h1.len; omega) (by have := h2.len; omega) (by rw [h2.val0]; omega)
  rw [h1.val, h2.val] at h
  exact h.mono fun _ _ hr => GI2.of hr (Nat.lt_of_le_of_lt (Int.natAbs_fdiv_le_natAbs x y) h1.abs) (Nat.lt_trans (fm_abs hy) h2.abs)
theorem gdivz (h2 : Iv W q B d m y k) (hy : y = 0) (hk : k ≤ 100) : Calls Tryz.prog 120 #[.agg #[.bool p, .slice A l.length c], .agg #[.bool q, .slice B m.length d]] W fun e w' => e = .returned (.tuple #[.agg #[.bool false, .slice none 0 0], .agg #[.bool false, .slice none 0 0], .int .i64 1]) ∧ Below W.heap.size W w' :=
  divide_zero p A c l q B d m W h2.sl (by have := h2.len; omega) (by rw [h2.val0, hy]; rfl)
theorem grdivz (h1 : Iv W p A c l x n) (h2 : Iv W q B d m y k) (hy : y = 0) (hn : n ≤ 100) (hk : k ≤ 100) : Calls Tryz.prog 73 #[.agg #[.bool p, .slice A l.length c], .agg #[.bool q, .slice B m.length d]] W fun e w' => e = .returned (.tuple #[.agg #[.bool false, .slice none 0 0], .agg #[.bool false, .slice none 0 0], .int .i64 1]) ∧ Below W.heap.size W w' :=
  rdivide_zero p A c l q B d m W h1.sl h2.sl (by have := h1.len; omega) (by have := h2.len; omega) (by rw [h2.val0, hy]; rfl)
theorem gcd_bound (h1 : x.natAbs < Kn.pw n) (h2 : y.natAbs < Kn.pw k) : (Nat.gcd x.natAbs y.natAbs : Int).natAbs < Kn.pw (max n k) := by
  rw [Int.natAbs_natCast]
  have e1 := Kn.pw_mono (show n ≤ max n k by omega)
  have e2 := Kn.pw_mono (show k ≤ max n k by omega)
  rcases Nat.eq_zero_or_pos x.natAbs with h0 | h0
  · rw [h0, Nat.gcd_zero_left]; omega
  · have := Nat.gcd_le_left y.natAbs h0; omega
theorem ggcd (h1 : Iv W p A c l x n) (h2 : Iv W q B d m y k) (hn : n ≤ 100) (hk : k ≤ 100) : Calls Tryz.prog 84 #[.agg #[.bool p, .slice A l.length c], .agg #[.bool q, .slice B m.length d]] W (GI (Nat.gcd x.natAbs y.natAbs : Int) (max n k) W) := by
  have h := gcd_any p A c l q B d m W h1.sl h2.sl (by have := h1.len; omega) (by have := h2.len; omega)
  rw [h1.val0, h2.val0] at h
  exact h.mono fun _ _ hr => GI.of hr (gcd_bound h1.abs h2.abs)
theorem grgcd (h1 : Iv W p A c l x n) (h2 : Iv W q B d m y k) (hn : n ≤ 100) (hk : k ≤ 100) : Calls Tryz.prog 72 #[.agg #[.bool p, .slice A l.length c], .agg #[.bool q, .slice B m.length d]] W (GI (Nat.gcd x.natAbs y.natAbs : Int) (max n k) W) := by
  have h := rgcd_any p A c l q B d m W h1.sl h2.sl (by have := h1.len; omega) (by have := h2.len; omega)
  rw [h1.val0, h2.val0] at h
  exact h.mono fun _ _ hr => GI.of hr (gcd_bound h1.abs h2.abs)
theorem gof1 (W : World) : Calls Tryz.prog 45 #[.int .i64 1] W (GI 1 1 W) :=
  (of_any 1 (Lib.hid (by omega)) (Lib.hid (by omega)) W).mono fun _ _ hr => GI.of hr (by decide)
end

/-- an integer in a box of its own -/
structure Bi (W : World) (g : Nat) (z : Int) (n : Nat) (p : Bool) (A : Option Addr) (c : Nat) (l : List Nat) : Prop where
  t : Two W g (.bool p) (.slice A l.length c)
  v : Cn W p A c l z n
/-- the same, in whatever form -/
structure Bv (W : World) (g : Nat) (z : Int) (n : Nat) (p : Bool) (A : Option Addr) (c : Nat) (l : List Nat) : Prop where
  t : Two W g (.bool p) (.slice A l.length c)
  v : Iv W p A c l z n
section
variable {W W' : World} {p : Bool} {A : Option Addr} {c : Nat} {l : List Nat} {z : Int} {n g : Nat}
theorem Bi.below (h : Bi W g z n p A c l) (hb : Below W.heap.size W W') : Bi W' g z n p A c l := ⟨h.t.below hb h.t.lt, h.v.below hb⟩
theorem Bv.below (h : Bv W g z n p A c l) (hb : Below W.heap.size W W') : Bv W' g z n p A c l := ⟨h.t.below hb h.t.lt, h.v.below hb⟩
theorem Bi.drew (h : Bi W g z n p A c l) : Bi W.drew g z n p A c l := ⟨h.t.drew, h.v.drew⟩
theorem Bv.drew (h : Bv W g z n p A c l) : Bv W.drew g z n p A c l := ⟨h.t.drew, h.v.drew⟩
theorem Bi.alloc (h : Bi W g z n p A c l) (o : Obj) : Bi (W.alloc o) g z n p A c l := ⟨h.t.alloc o, h.v.alloc o⟩
theorem Bv.alloc (h : Bv W g z n p A c l) (o : Obj) : Bv (W.alloc o) g z n p A c l := ⟨h.t.alloc o, h.v.alloc o⟩
theorem Bi.new_ (h : Cn W p A c l z n) (T : TypeId) : Bi (W.alloc (.cells #[.bool p, .slice A l.length c] T)) W.heap.size z n p A c l := ⟨Two.new_ _ _ _ _, h.alloc _⟩
theorem Bi.new2 (h : Cn W p A c l z n) (T : TypeId) (o : Obj) : Bi ((W.alloc o).alloc (.cells #[.bool p, .slice A l.length c] T)) (W.heap.size + 1) z n p A c l := by
  have := Bi.new_ (h.alloc o) T
  rwa [World.size_alloc] at this
end
end Go.Proofs.YtkpomjdablopaaaGreatDoor
/- For the walks of rational: fractions in memory with their values. -/
namespace Go.Proofs.YtkpomjdablopaaaGreatDoor
open Go.RowKit
set_option linter.unusedVariables false

/-- the block b holds the four values -/
structure Four (w : World) (b : Nat) (x y u v : Value) : Prop where
  blk : ∃ T, w.heap[b]? = some (.cells #[x, y, u, v] T (0, 0))
section
variable {w w' : World} {b : Nat} {x y u v : Value}
theorem Four.lt (h : Four w b x y u v) : b < w.heap.size := by obtain ⟨T, h⟩ := h.blk; exact (Array.getElem?_eq_some_iff.1 h).1
theorem Four.c0 (h : Four w b x y u v) : w.cell? ⟨b, 0, none⟩ = some x := by obtain ⟨T, h⟩ := h.blk; rw [cell_of_row w b 0 _ _ _ h]; rfl
theorem Four.c1 (h : Four w b x y u v) : w.cell? ⟨b, 1, none⟩ = some y := by obtain ⟨T, h⟩ := h.blk; rw [cell_of_row w b 1 _ _ _ h]; rfl
theorem Four.c2 (h : Four w b x y u v) : w.cell? ⟨b, 2, none⟩ = some u := by obtain ⟨T, h⟩ := h.blk; rw [cell_of_row w b 2 _ _ _ h]; rfl
theorem Four.c3 (h : Four w b x y u v) : w.cell? ⟨b, 3, none⟩ = some v := by obtain ⟨T, h⟩ := h.blk; rw [cell_of_row w b 3 _ _ _ h]; rfl
theorem Four.fr (h : Four w b x y u v) (k : Nat) : w.frozen? ⟨b, k, none⟩ = false := by obtain ⟨T, h⟩ := h.blk; exact frozen_of_row w b k _ _ h
theorem Four.new_ (w : World) (x y u v : Value) (T : TypeId) : Four (w.alloc (.cells #[x, y, u, v] T)) w.heap.size x y u v := ⟨T, heap_alloc_new w _⟩
theorem Four.alloc (h : Four w b x y u v) (o : Obj) : Four (w.alloc o) b x y u v := by
  have hl := h.lt
  obtain ⟨T, h⟩ := h.blk
  exact ⟨T, (Below.heap_alloc w o b hl).trans h⟩
theorem Four.drew (h : Four w b x y u v) : Four w.drew b x y u v := ⟨h.blk⟩
theorem Four.drewN (h : Four w b x y u v) (n : Nat) : Four (w.drewN n) b x y u v := ⟨h.blk⟩
theorem Four.below {B : Nat} (h : Four w b x y u v) (hb : Below B w w') (hB : b < B) : Four w' b x y u v := by
  obtain ⟨T, h⟩ := h.blk
  exact ⟨T, (hb.block b hB).trans h⟩
theorem Four.far (h : Four w b x y u v) {p : Addr} (hp : b ≠ p.block) (t : Value) : Four (w.setCell p t) b x y u v := by
  obtain ⟨T, h⟩ := h.blk
  exact ⟨T, (Below.heap_setCell w p t b hp).trans h⟩
end
section
variable {W W' : World} {p q : Bool} {A B : Option Addr} {c d : Nat} {l m : List Nat} {x y : Int} {n k : Nat}
theorem Iv.more (h : Iv W p A c l x n) (hn : n ≤ k) : Iv W p A c l x k := ⟨h.sl, h.val, Nat.le_trans h.len hn⟩
theorem Cn.more (h : Cn W p A c l x n) (hn : n ≤ k) : Cn W p A c l x k := ⟨h.iv.more hn, h.can⟩
end
/-- a numerator and a denominator above 0 of the fraction z -/
def Ra (z : Rat) (n : Nat) (W : World) (e : Ending) (W' : World) : Prop :=
  ∃ p A c l q B d m x y, e = .returned (.tuple #[.agg #[.bool p, .slice A l.length c], .agg #[.bool q, .slice B m.length d]]) ∧ Iv W' p A c l x n ∧ Iv W' q B d m y n ∧ 0 < y ∧ Rat.divInt x y = z ∧ Below W.heap.size W W'
/-- a fraction as a value -/
abbrev ratV (p : Bool) (A : Option Addr) (n c : Nat) (q : Bool) (B : Option Addr) (m d : Nat) : Value := .agg #[.bool p, .slice A n c, .bool q, .slice B m d]
/-- the canonical form of z -/
structure Cr (W : World) (A : Option Addr) (c : Nat) (l : List Nat) (B : Option Addr) (d : Nat) (m : List Nat) (z : Rat) (n : Nat) : Prop where
  a : Cn W (decide (z.num < 0)) A c l z.num n
  b : Cn W false B d m (z.den : Int) n
theorem Cr.below {W W' : World} {A B : Option Addr} {c d : Nat} {l m : List Nat} {z : Rat} {n : Nat} (h : Cr W A c l B d m z n) (hb : Below W.heap.size W W') : Cr W' A c l B d m z n := ⟨h.a.below hb, h.b.below hb⟩
theorem Cr.drew {W : World} {A B : Option Addr} {c d : Nat} {l m : List Nat} {z : Rat} {n : Nat} (h : Cr W A c l B d m z n) : Cr W.drew A c l B d m z n := ⟨h.a.drew, h.b.drew⟩
theorem Cr.alloc {W : World} {A B : Option Addr} {c d : Nat} {l m : List Nat} {z : Rat} {n : Nat} (h : Cr W A c l B d m z n) (o : Obj) : Cr (W.alloc o) A c l B d m z n := ⟨h.a.alloc o, h.b.alloc o⟩
/-- a new fraction -/
def GR (z : Rat) (n : Nat) (W : World) (e : Ending) (W' : World) : Prop :=
  ∃ A c l B d m, e = .returned (ratV (decide (z.num < 0)) A l.length c false B m.length d) ∧ Cr W' A c l B d m z n ∧ Below W.heap.size W W'
/-- a new fraction and a code -/
def GRc (z : Rat) (n : Nat) (W : World) (e : Ending) (W' : World) : Prop :=
  ∃ A c l B d m, e = .returned (.tuple #[ratV (decide (z.num < 0)) A l.length c false B m.length d, .int .i64 0]) ∧ Cr W' A c l B d m z n ∧ Below W.heap.size W W'
end Go.Proofs.YtkpomjdablopaaaGreatDoor
/- Walks of package rational: quotient. -/
namespace Go.Proofs.YtkpomjdablopaaaGreatDoor
open Go.RowKit
set_option linter.unusedVariables false

set_option maxRecDepth 100000 in
set_option maxHeartbeats 2000000 in
theorem quotient_any {x y : Int} {n k : Nat} (p : Bool) (A : Option Addr) (c : Nat) (l : List Nat) (q : Bool) (B : Option Addr) (d : Nat) (m : List Nat) (w : World) (h1 : Iv w p A c l x n) (h2 : Iv w q B d m y k) (hy : y ≠ 0) (hn : n ≤ 100) (hk : k ≤ 100) :
    Calls Tryz.prog 85 #[.agg #[.bool p, .slice A l.length c], .agg #[.bool q, .slice B m.length d]] w (IntRes (x.fdiv y) w) := by
  obtain ⟨za, hza⟩ : ∃ z : Int, z = x.fdiv y := ⟨_, rfl⟩
  obtain ⟨zb, hzb⟩ : ∃ z : Int, z = x.fmod y := ⟨_, rfl⟩
  rw [← hza]
  have HD := Lib.hid (fun (W : World) (h1 : Iv W p A c l x n) (h2 : Iv W q B d m y k) => (by have h := divide_any p A c l q B d m W h1.sl h2.sl (by have := h1.len; omega) (by have := h2.len; omega) (by rw [h2.val0]; omega); rw [h1.val, h2.val, ← hza, ← hzb] at h; exact h : Calls Tryz.prog 120 #[.agg #[.bool p, .slice A l.length c], .agg #[.bool q, .slice B m.length d]] W (IntRes2 za zb W)))
  clear hza hzb hy hn hk
  go_enter Tryz.func85, Tryz.ntmps85
  go_wp2_with fail
  have i := B3.new_ w p A l.length c q B m.length d 24
  revert i
  generalize ((w.alloc (.cells #[.bool p, .slice A l.length c] 24)).alloc (.cells #[.bool q, .slice B m.length d] 24)).alloc (.cells #[.bool false, .slice none 0 0] 24) = wx
  intro i
  have X := h1.below i.bel
  have Y := h2.below i.bel
  have c10 := i.t1.c0
  have c11 := i.t1.c1
  have c20 := i.t2.c0
  have c21 := i.t2.c1
  go_wp2_with fail
  refine (HD.out _ X Y).mono ?_
  rintro e w4 ⟨A1, c1, B1, d1, rfl, S1, S2, hb4⟩
  replace i := i.below hb4
  clear c10 c11 c20 c21 X Y hb4
  have J := (Two.new_ w4 (.bool (decide (za < 0))) (.slice A1 (Kn.dig za.natAbs).length c1) 24).alloc (.cells #[.bool (decide (zb < 0)), .slice B1 (Kn.dig zb.natAbs).length d1] 24)
  have j0 := J.c0
  have j1 := J.c1
  have b5 : Below w4.heap.size w4 ((w4.alloc (.cells #[.bool (decide (za < 0)), .slice A1 (Kn.dig za.natAbs).length c1] 24)).alloc (.cells #[.bool (decide (zb < 0)), .slice B1 (Kn.dig zb.natAbs).length d1] 24)) := (al1 _ _).alloc (by simp) _
  have i5 := i.below b5
  have S5 := S1.nx b5
  have d20 := i5.t3.c0
  have d21 := i5.t3.c1
  have f20 := i5.t3.fr 0
  have f21 := i5.t3.fr 1
  have R := Lib.hid (two_set _ (.bool (decide (za < 0))) (.slice A1 (Kn.dig za.natAbs).length c1) d20 d21)
  have I5 := Lib.hid i5
  have S6 := Lib.hid S5
  clear i i5 S1 S2 S5 J b5
  go_wp2_with fail
  obtain ⟨r0, r1⟩ := R.out
  refine bodyPost_ret (v := .agg #[.bool (decide (za < 0)), .slice A1 (Kn.dig za.natAbs).length c1]) (by simp [results, Tryz.results85, go_sem, r0, r1]) rfl ?_
  exact I5.out.fin S6.out
theorem gquot {x y : Int} {n k : Nat} {p : Bool} {A : Option Addr} {c : Nat} {l : List Nat} {q : Bool} {B : Option Addr} {d : Nat} {m : List Nat} {w : World} (h1 : Iv w p A c l x n) (h2 : Iv w q B d m y k) (hy : y ≠ 0) (hn : n ≤ 100) (hk : k ≤ 100) :
    Calls Tryz.prog 85 #[.agg #[.bool p, .slice A l.length c], .agg #[.bool q, .slice B m.length d]] w (GI (x.fdiv y) n w) :=
  (quotient_any p A c l q B d m w h1 h2 hy hn hk).mono fun _ _ hr => GI.of hr (Nat.lt_of_le_of_lt (Int.natAbs_fdiv_le_natAbs x y) h1.abs)
end Go.Proofs.YtkpomjdablopaaaGreatDoor
/- Walks of package rational: ratio. -/
namespace Go.Proofs.YtkpomjdablopaaaGreatDoor
open Go.RowKit
set_option linter.unusedVariables false

theorem Iv.put {W : World} {p : Bool} {A : Option Addr} {c : Nat} {l : List Nat} {x : Int} {n b : Nat} {p' : Bool} {A' : Option Addr} {n' c' : Nat} (h : Iv W p A c l x n) (t : Two W b (.bool p') (.slice A' n' c')) (u v : Value) : Iv ((W.setCell ⟨b, 0, none⟩ u).setCell ⟨b, 1, none⟩ v) p A c l x n :=
  ⟨(h.sl.put t u v).more (by simp [World.setCell]), h.val, h.len⟩
/-- ratio's world: the fraction and the two results -/
structure Rt (w wr : World) (p : Bool) (A : Option Addr) (n c : Nat) (q : Bool) (B : Option Addr) (m d : Nat) : Prop where
  t1 : Four wr w.heap.size (.bool p) (.slice A n c) (.bool q) (.slice B m d)
  t2 : Two wr (w.heap.size + 1) (.bool false) (.slice none 0 0)
  t3 : Two wr (w.heap.size + 2) (.bool false) (.slice none 0 0)
  bel : Below w.heap.size w wr
section
variable {w wr wx : World} {p q : Bool} {A B : Option Addr} {n m c d : Nat}
theorem Rt.below (h : Rt w wr p A n c q B m d) (hb : Below wr.heap.size wr wx) : Rt w wx p A n c q B m d := ⟨h.t1.below hb h.t1.lt, h.t2.below hb h.t2.lt, h.t3.below hb h.t3.lt, h.bel.trans (hb.mono h.bel.size)⟩
theorem Rt.drew (h : Rt w wr p A n c q B m d) : Rt w wr.drew p A n c q B m d := ⟨h.t1.drew, h.t2.drew, h.t3.drew, bDrew1 h.bel⟩
theorem Rt.new_ (w : World) (p : Bool) (A : Option Addr) (n c : Nat) (q : Bool) (B : Option Addr) (m d : Nat) (T U : TypeId) :
    Rt w (((w.alloc (.cells #[.bool p, .slice A n c, .bool q, .slice B m d] U)).alloc (.cells #[.bool false, .slice none 0 0] T)).alloc (.cells #[.bool false, .slice none 0 0] T)) p A n c q B m d :=
  ⟨((Four.new_ _ _ _ _ _ _).alloc _).alloc _, by simpa using (Two.new_ (w.alloc (.cells #[.bool p, .slice A n c, .bool q, .slice B m d] U)) (.bool false) (.slice none 0 0) T).alloc (.cells #[.bool false, .slice none 0 0] T),
    by simpa using Two.new_ ((w.alloc (.cells #[.bool p, .slice A n c, .bool q, .slice B m d] U)).alloc (.cells #[.bool false, .slice none 0 0] T)) (.bool false) (.slice none 0 0) T,
    (((Below.refl _ _).alloc (Nat.le_refl _) _).alloc (by simp) _).alloc (by simp; omega) _⟩
theorem Rt.fin (h : Rt w wr p A n c q B m d) {p1 q1 : Bool} {A1 B1 : Option Addr} {c1 d1 k : Nat} {l1 m1 : List Nat} {x y : Int} {z : Rat} (hx : Iv wr p1 A1 c1 l1 x k) (hy : Iv wr q1 B1 d1 m1 y k) (h0 : 0 < y) (hz : Rat.divInt x y = z) :
    Ra z k w (.returned (.tuple #[.agg #[.bool p1, .slice A1 l1.length c1], .agg #[.bool q1, .slice B1 m1.length d1]]))
      ((((wr.setCell ⟨w.heap.size + 1, 0, none⟩ (.bool p1)).setCell ⟨w.heap.size + 1, 1, none⟩ (.slice A1 l1.length c1)).setCell ⟨w.heap.size + 2, 0, none⟩ (.bool q1)).setCell ⟨w.heap.size + 2, 1, none⟩ (.slice B1 m1.length d1)) := by
  have T3 : Two ((wr.setCell ⟨w.heap.size + 1, 0, none⟩ (.bool p1)).setCell ⟨w.heap.size + 1, 1, none⟩ (.slice A1 l1.length c1)) (w.heap.size + 2) (.bool false) (.slice none 0 0) := (h.t3.far (by simp) _).far (by simp) _
  exact ⟨p1, A1, c1, l1, q1, B1, d1, m1, x, y, rfl, (hx.put h.t2 _ _).put T3 _ _, (hy.put h.t2 _ _).put T3 _ _, h0, hz, (((h.bel.setCell (p := ⟨w.heap.size + 1, 0, none⟩) (by simp) _).setCell (p := ⟨w.heap.size + 1, 1, none⟩) (by simp) _).setCell (p := ⟨w.heap.size + 2, 0, none⟩) (by simp) _).setCell (p := ⟨w.heap.size + 2, 1, none⟩) (by simp) _⟩
end
theorem Ra.drew {z : Rat} {n : Nat} {W W' : World} {e : Ending} (h : Ra z n W e W') : Ra z n W e W'.drew := by
  obtain ⟨p, A, c, l, q, B, d, m, x, y, he, hx, hy, h0, hz, hb⟩ := h
  exact ⟨p, A, c, l, q, B, d, m, x, y, he, hx.drew, hy.drew, h0, hz, bDrew1 hb⟩

set_option maxRecDepth 100000 in
set_option maxHeartbeats 2000000 in
theorem ratio_zero {x : Int} {n : Nat} (p : Bool) (A : Option Addr) (c : Nat) (l : List Nat) (q : Bool) (B : Option Addr) (d : Nat) (m : List Nat) (w : World) (h1 : Iv w p A c l x n) (h2 : Iv w q B d m 0 n) (hn : n ≤ 100) (hn1 : 1 ≤ n) :
    Calls Tryz.prog 39 #[ratV p A l.length c q B m.length d] w (Ra 0 n w) := by
  have HS := Lib.hid (fun (W : World) (h : Iv W q B d m 0 n) => (by have h := gsign h (by omega); exact h : Calls Tryz.prog 51 #[.agg #[.bool q, .slice B m.length d]] W fun e w' => e = .returned (.int .i64 0) ∧ Below W.heap.size W w'))
  have HN := Lib.hid hn1
  clear hn1 hn
  unfold ratV
  go_enter Tryz.func39, Tryz.ntmps39
  go_wp2_with fail
  have i := Rt.new_ w p A l.length c q B m.length d 24 26
  revert i
  generalize ((w.alloc (.cells #[.bool p, .slice A l.length c, .bool q, .slice B m.length d] 26)).alloc (.cells #[.bool false, .slice none 0 0] 24)).alloc (.cells #[.bool false, .slice none 0 0] 24) = wx
  intro i
  have Y := h2.below i.bel
  have c2 := i.t1.c2
  have c3 := i.t1.c3
  go_wp2_with fail
  refine (HS.out _ Y).mono ?_
  rintro e w2 ⟨rfl, hb⟩
  replace i := i.below hb
  clear Y c2 c3 hb
  go_wp2_with fail
  refine (gof1 _).mono ?_
  rintro e w3 ⟨p1, A1, c1, l1, rfl, C1, hb⟩
  replace i := i.below hb
  clear hb
  have d20 := i.t2.c0
  have d21 := i.t2.c1
  have f20 := i.t2.fr 0
  have f21 := i.t2.fr 1
  have T3 : Two ((w3.setCell ⟨w.heap.size + 1, 0, none⟩ (.bool false)).setCell ⟨w.heap.size + 1, 1, none⟩ (.slice none 0 0)) (w.heap.size + 2) (.bool false) (.slice none 0 0) := (i.t3.far (by simp) _).far (by simp) _
  have d30 := T3.c0
  have d31 := T3.c1
  have f30 := T3.fr 0
  have f31 := T3.fr 1
  have R := Lib.hid (four_set w3 (b := w.heap.size + 1) (b' := w.heap.size + 2) (by omega) (.bool false) (.slice none 0 0) (.bool p1) (.slice A1 l1.length c1) i.t2.c0 i.t2.c1 i.t3.c0 i.t3.c1)
  have FN := Lib.hid (i.fin (p1 := false) (A1 := none) (c1 := 0) (l1 := []) (x := 0) (z := 0) ⟨Sl.nil _ _, rfl, Nat.zero_le _⟩ (C1.iv.more HN.out) (by decide) (by rw [Rat.zero_divInt]))
  clear i C1 T3
  go_wp2_with fail
  obtain ⟨r0, r1, r2, r3⟩ := R.out
  refine bodyPost_ret (v := .tuple #[.agg #[.bool false, .slice none 0 0], .agg #[.bool p1, .slice A1 l1.length c1]]) (by simp [results, Tryz.results39, go_sem, r0, r1, r2, r3]) rfl ?_
  exact FN.out

set_option maxRecDepth 100000 in
set_option maxHeartbeats 2000000 in
theorem ratio_pos {x y : Int} {n : Nat} (p : Bool) (A : Option Addr) (c : Nat) (l : List Nat) (q : Bool) (B : Option Addr) (d : Nat) (m : List Nat) (w : World) (h1 : Iv w p A c l x n) (h2 : Iv w q B d m y n) (hy : 0 < y) (hn : n ≤ 100) :
    Calls Tryz.prog 39 #[ratV p A l.length c q B m.length d] w (Ra (Rat.divInt x y) n w) := by
  have HS := Lib.hid (fun (W : World) (h : Iv W q B d m y n) => (by have h := gsign h (by omega); rw [Int.sign_eq_one_of_pos hy] at h; exact h : Calls Tryz.prog 51 #[.agg #[.bool q, .slice B m.length d]] W fun e w' => e = .returned (.int .i64 1) ∧ Below W.heap.size W w'))
  have HY := Lib.hid hy
  clear hy hn
  unfold ratV
  go_enter Tryz.func39, Tryz.ntmps39
  go_wp2_with fail
  have i := Rt.new_ w p A l.length c q B m.length d 24 26
  revert i
  generalize ((w.alloc (.cells #[.bool p, .slice A l.length c, .bool q, .slice B m.length d] 26)).alloc (.cells #[.bool false, .slice none 0 0] 24)).alloc (.cells #[.bool false, .slice none 0 0] 24) = wx
  intro i
  have Y := h2.below i.bel
  have c2 := i.t1.c2
  have c3 := i.t1.c3
  go_wp2_with fail
  refine (HS.out _ Y).mono ?_
  rintro e w2 ⟨rfl, hb⟩
  replace i := i.below hb
  clear Y c2 c3 hb
  go_wp2_with fail
  have o0 := i.t1.c0
  have o1 := i.t1.c1
  have o2 := i.t1.c2
  have o3 := i.t1.c3
  have X := h1.below i.bel
  have Y := h2.below i.bel
  have d20 := i.t2.c0
  have d21 := i.t2.c1
  have f20 := i.t2.fr 0
  have f21 := i.t2.fr 1
  have T3 : Two ((w2.setCell ⟨w.heap.size + 1, 0, none⟩ (.bool p)).setCell ⟨w.heap.size + 1, 1, none⟩ (.slice A l.length c)) (w.heap.size + 2) (.bool false) (.slice none 0 0) := (i.t3.far (by simp) _).far (by simp) _
  have d30 := T3.c0
  have d31 := T3.c1
  have f30 := T3.fr 0
  have f31 := T3.fr 1
  have a0 := i.drew.t1.c0
  have a1 := i.drew.t1.c1
  have a2 := i.drew.t1.c2
  have a3 := i.drew.t1.c3
  have g20 := i.drew.t2.c0
  have g21 := i.drew.t2.c1
  have k20 := i.drew.t2.fr 0
  have k21 := i.drew.t2.fr 1
  have U3 : Two ((w2.drew.setCell ⟨w.heap.size + 1, 0, none⟩ (.bool p)).setCell ⟨w.heap.size + 1, 1, none⟩ (.slice A l.length c)) (w.heap.size + 2) (.bool false) (.slice none 0 0) := (i.drew.t3.far (by simp) _).far (by simp) _
  have g30 := U3.c0
  have g31 := U3.c1
  have k30 := U3.fr 0
  have k31 := U3.fr 1
  have R := Lib.hid (four_set w2 (b := w.heap.size + 1) (b' := w.heap.size + 2) (by omega) (.bool p) (.slice A l.length c) (.bool q) (.slice B m.length d) i.t2.c0 i.t2.c1 i.t3.c0 i.t3.c1)
  have FN := Lib.hid (i.fin X Y HY.out rfl)
  clear i X Y T3 U3
  go_region
  go_wp2_with fail
  obtain ⟨r0, r1, r2, r3⟩ := R.out
  refine bodyPost_ret (v := .tuple #[.agg #[.bool p, .slice A l.length c], .agg #[.bool q, .slice B m.length d]]) (by simp [results, Tryz.results39, go_sem, r0, r1, r2, r3]) rfl ?_
  first | exact FN.out | exact FN.out.drew
end Go.Proofs.YtkpomjdablopaaaGreatDoor
/- Walks of package rational: ratio of a denominator below 0; every ratio. -/
namespace Go.Proofs.YtkpomjdablopaaaGreatDoor
open Go.RowKit
set_option linter.unusedVariables false

set_option maxRecDepth 100000 in
set_option maxHeartbeats 2000000 in
theorem ratio_neg {x y : Int} {n : Nat} (p : Bool) (A : Option Addr) (c : Nat) (l : List Nat) (q : Bool) (B : Option Addr) (d : Nat) (m : List Nat) (w : World) (h1 : Iv w p A c l x n) (h2 : Iv w q B d m y n) (hy : y < 0) (hn : n ≤ 100) :
    Calls Tryz.prog 39 #[ratV p A l.length c q B m.length d] w (Ra (Rat.divInt x y) n w) := by
  have HS := Lib.hid (fun (W : World) (h : Iv W q B d m y n) => (by have h := gsign h (by omega); rw [Int.sign_eq_neg_one_of_neg hy] at h; exact h : Calls Tryz.prog 51 #[.agg #[.bool q, .slice B m.length d]] W fun e w' => e = .returned (.int .i64 (-1)) ∧ Below W.heap.size W w'))
  have HN1 := Lib.hid (fun (W : World) (h : Iv W p A c l x n) => gneg h hn)
  have HN2 := Lib.hid (fun (W : World) (h : Iv W q B d m y n) => gneg h hn)
  have HY := Lib.hid hy
  clear hy hn
  unfold ratV
  go_enter Tryz.func39, Tryz.ntmps39
  go_wp2_with fail
  have i := Rt.new_ w p A l.length c q B m.length d 24 26
  revert i
  generalize ((w.alloc (.cells #[.bool p, .slice A l.length c, .bool q, .slice B m.length d] 26)).alloc (.cells #[.bool false, .slice none 0 0] 24)).alloc (.cells #[.bool false, .slice none 0 0] 24) = wx
  intro i
  have Y := h2.below i.bel
  have c2 := i.t1.c2
  have c3 := i.t1.c3
  go_wp2_with fail
  refine (HS.out _ Y).mono ?_
  rintro e w2 ⟨rfl, hb⟩
  replace i := i.below hb
  clear Y c2 c3 hb
  go_wp2_with fail
  replace i := i.drew
  have X := h1.below i.bel
  have Y := h2.below i.bel
  go_region_held3 (fun w' => w'.cell? ⟨w.heap.size, 0, none⟩ = some (.bool p) ∧ w'.cell? ⟨w.heap.size, 1, none⟩ = some (.slice A l.length c) ∧ w'.cell? ⟨w.heap.size, 2, none⟩ = some (.bool q) ∧ w'.cell? ⟨w.heap.size, 3, none⟩ = some (.slice B m.length d))
    (first | with_reducible exact ⟨i.t1.c0, i.t1.c1, i.t1.c2, i.t1.c3⟩ | exact ⟨P2.out.c0, P2.out.c1, P2.out.c2, P2.out.c3⟩ | exact ⟨P4.out.c0, P4.out.c1, P4.out.c2, P4.out.c3⟩)
    (first
      | (go_at_call 28; (with_reducible refine (HN1.out _ X).mono ?_); rintro e w5 ⟨p1, A1, c1, l1, rfl, C1, hb⟩; replace i := i.below hb; replace X := X.below hb; replace Y := Y.below hb; clear hb)
      | (go_at_call 28; (with_reducible refine (HN2.out _ Y).mono ?_); rintro e w6 ⟨q1, B1, d1, m1, rfl, C2, hb⟩; replace i := i.below hb; replace C1 := C1.below hb; clear hb X Y
         have d20 := i.t2.c0
         have d21 := i.t2.c1
         have f20 := i.t2.fr 0
         have f21 := i.t2.fr 1
         have T3 : Two ((w6.setCell ⟨w.heap.size + 1, 0, none⟩ (.bool p1)).setCell ⟨w.heap.size + 1, 1, none⟩ (.slice A1 l1.length c1)) (w.heap.size + 2) (.bool false) (.slice none 0 0) := (i.t3.far (by simp) _).far (by simp) _
         have d30 := T3.c0
         have d31 := T3.c1
         have f30 := T3.fr 0
         have f31 := T3.fr 1
         have R := Lib.hid (four_set w6 (b := w.heap.size + 1) (b' := w.heap.size + 2) (by omega) (.bool p1) (.slice A1 l1.length c1) (.bool q1) (.slice B1 m1.length d1) i.t2.c0 i.t2.c1 i.t3.c0 i.t3.c1)
         have FN := Lib.hid (i.fin C1.iv C2.iv (show 0 < -y by have := HY.out; omega) (Rat.neg_divInt_neg x y))
         have P2 := Lib.hid ((i.t1.far (p := ⟨w.heap.size + 1, 0, none⟩) (by simp) (.bool p1)).far (p := ⟨w.heap.size + 1, 1, none⟩) (by simp) (.slice A1 l1.length c1))
         have P4 := Lib.hid ((P2.out.far (p := ⟨w.heap.size + 2, 0, none⟩) (by simp) (.bool q1)).far (p := ⟨w.heap.size + 2, 1, none⟩) (by simp) (.slice B1 m1.length d1))
         clear T3))
  go_wp2_with fail
  obtain ⟨r0, r1, r2, r3⟩ := R.out
  refine bodyPost_ret (v := .tuple #[.agg #[.bool p1, .slice A1 l1.length c1], .agg #[.bool q1, .slice B1 m1.length d1]]) (by simp [results, Tryz.results39, go_sem, r0, r1, r2, r3]) rfl ?_
  first | exact FN.out | exact FN.out.drew
theorem gratio {x y : Int} {n : Nat} {p : Bool} {A : Option Addr} {c : Nat} {l : List Nat} {q : Bool} {B : Option Addr} {d : Nat} {m : List Nat} {w : World} (h1 : Iv w p A c l x n) (h2 : Iv w q B d m y n) (hn : n ≤ 100) (hn1 : 1 ≤ n) :
    Calls Tryz.prog 39 #[ratV p A l.length c q B m.length d] w (Ra (Rat.divInt x y) n w) := by
  rcases Int.lt_trichotomy y 0 with h | h | h
  · exact ratio_neg p A c l q B d m w h1 h2 h hn
  · subst h
    rw [Rat.divInt_zero]
    exact ratio_zero p A c l q B d m w h1 h2 hn hn1
  · exact ratio_pos p A c l q B d m w h1 h2 h hn
end Go.Proofs.YtkpomjdablopaaaGreatDoor
