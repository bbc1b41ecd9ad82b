/- Walks: foresee. -/
import Derived.Test.YtmhfdmidaheoeaaDoorG2
namespace Go.Proofs.YtmhfdmidaheoeaaDoor
open Go.RowKit
set_option linter.unusedVariables false

/-- the cells of what a number of steps make of two magnitudes -/
abbrev strC (c a0 b0 a1 b1 : Nat) : Array Value := #[.int .i64 (c : Int), .int .u64 (a0 : Int), .int .u64 (b0 : Int), .int .u64 (a1 : Int), .int .u64 (b1 : Int)]
/-- the block b holds them -/
structure Five (w : World) (b c a0 b0 a1 b1 : Nat) : Prop where
  blk : ∃ T, w.heap[b]? = some (.cells (strC c a0 b0 a1 b1) T (0, 0))
section
variable {w w' : World} {b c a0 b0 a1 b1 : Nat}
theorem Five.lt (h : Five w b c a0 b0 a1 b1) : b < w.heap.size := by obtain ⟨T, h⟩ := h.blk; exact (Array.getElem?_eq_some_iff.1 h).1
theorem Five.c0 (h : Five w b c a0 b0 a1 b1) : w.cell? ⟨b, 0, none⟩ = some (.int .i64 (c : Int)) := by obtain ⟨T, h⟩ := h.blk; rw [cell_of_row w b 0 _ _ _ h]; rfl
theorem Five.c1 (h : Five w b c a0 b0 a1 b1) : w.cell? ⟨b, 1, none⟩ = some (.int .u64 (a0 : Int)) := by obtain ⟨T, h⟩ := h.blk; rw [cell_of_row w b 1 _ _ _ h]; rfl
theorem Five.c2 (h : Five w b c a0 b0 a1 b1) : w.cell? ⟨b, 2, none⟩ = some (.int .u64 (b0 : Int)) := by obtain ⟨T, h⟩ := h.blk; rw [cell_of_row w b 2 _ _ _ h]; rfl
theorem Five.c3 (h : Five w b c a0 b0 a1 b1) : w.cell? ⟨b, 3, none⟩ = some (.int .u64 (a1 : Int)) := by obtain ⟨T, h⟩ := h.blk; rw [cell_of_row w b 3 _ _ _ h]; rfl
theorem Five.c4 (h : Five w b c a0 b0 a1 b1) : w.cell? ⟨b, 4, none⟩ = some (.int .u64 (b1 : Int)) := by obtain ⟨T, h⟩ := h.blk; rw [cell_of_row w b 4 _ _ _ h]; rfl
theorem Five.fr (h : Five w b c a0 b0 a1 b1) (k : Nat) : w.frozen? ⟨b, k, none⟩ = false := by obtain ⟨T, h⟩ := h.blk; exact frozen_of_row w b k _ _ h
theorem Five.new_ (w : World) (c a0 b0 a1 b1 : Nat) (T : TypeId) : Five (w.alloc (.cells (strC c a0 b0 a1 b1) T)) w.heap.size c a0 b0 a1 b1 := ⟨T, heap_alloc_new w _⟩
theorem Five.alloc (h : Five w b c a0 b0 a1 b1) (o : Obj) : Five (w.alloc o) b c a0 b0 a1 b1 := by
  have hl := h.lt
  obtain ⟨T, h⟩ := h.blk
  exact ⟨T, (Below.heap_alloc w o b hl).trans h⟩
theorem Five.drewN (h : Five w b c a0 b0 a1 b1) (n : Nat) : Five (w.drewN n) b c a0 b0 a1 b1 := ⟨h.blk⟩
theorem Five.drew (h : Five w b c a0 b0 a1 b1) : Five w.drew b c a0 b0 a1 b1 := ⟨h.blk⟩
theorem Five.below {B : Nat} (h : Five w b c a0 b0 a1 b1) (hb : Below B w w') (hB : b < B) : Five w' b c a0 b0 a1 b1 := by
  obtain ⟨T, h⟩ := h.blk
  exact ⟨T, (hb.block b hB).trans h⟩
theorem Five.far (h : Five w b c a0 b0 a1 b1) {p : Addr} (hp : b ≠ p.block) (u : Value) : Five (w.setCell p u) b c a0 b0 a1 b1 := by
  obtain ⟨T, h⟩ := h.blk
  exact ⟨T, (Below.heap_setCell w p u b hp).trans h⟩
theorem Five.name (h : Five w b c a0 b0 a1 b1) : ∃ W, W = w := ⟨_, rfl⟩
/-- all five are stored -/
abbrev put5 (w : World) (b c a0 b0 a1 b1 : Nat) : World := ((((w.setCell ⟨b, 0, none⟩ (.int .i64 (c : Int))).setCell ⟨b, 1, none⟩ (.int .u64 (a0 : Int))).setCell ⟨b, 2, none⟩ (.int .u64 (b0 : Int))).setCell ⟨b, 3, none⟩ (.int .u64 (a1 : Int))).setCell ⟨b, 4, none⟩ (.int .u64 (b1 : Int))
theorem Five.put (h : Five w b c a0 b0 a1 b1) (c' a0' b0' a1' b1' : Nat) : Five (put5 w b c' a0' b0' a1' b1') b c' a0' b0' a1' b1' := by
  obtain ⟨T, h⟩ := h.blk
  exact ⟨T, by simp [put5, World.setCell, Array.getElem?_modify, h]⟩
theorem Five.far5 (h : Five w b c a0 b0 a1 b1) {g : Nat} (hg : b ≠ g) (c' a0' b0' a1' b1' : Nat) : Five (put5 w g c' a0' b0' a1' b1') b c a0 b0 a1 b1 :=
  ((((h.far (p := ⟨g, 0, none⟩) hg _).far (p := ⟨g, 1, none⟩) hg _).far (p := ⟨g, 2, none⟩) hg _).far (p := ⟨g, 3, none⟩) hg _).far (p := ⟨g, 4, none⟩) hg _
theorem below_put5 {B : Nat} {a w : World} (h : Below B a w) {g : Nat} (hg : B ≤ g) (c a0 b0 a1 b1 : Nat) : Below B a (put5 w g c a0 b0 a1 b1) :=
  ((((h.setCell (p := ⟨g, 0, none⟩) hg _).setCell (p := ⟨g, 1, none⟩) hg _).setCell (p := ⟨g, 2, none⟩) hg _).setCell (p := ⟨g, 3, none⟩) hg _).setCell (p := ⟨g, 4, none⟩) hg _
theorem size_put5 (w : World) (g c a0 b0 a1 b1 : Nat) : (put5 w g c a0 b0 a1 b1).heap.size = w.heap.size := by simp [put5, World.setCell]
end

theorem Sl.nx' {w w' : World} {A : Option Addr} {c : Nat} {ws : List Nat} (h : Sl w w.heap.size A c ws) (hb : Below w.heap.size w w') : Sl w' w'.heap.size A c ws := h.at_ hb (Nat.le_refl _)
/-- what foresee hands back -/
def FsRes (A B : Nat) (w : World) (e : Ending) (w' : World) : Prop :=
  ∃ c a0 b0 a1 b1 X Y, e = .returned (.agg (strC c a0 b0 a1 b1)) ∧ Kn.Tr A B c a0 b0 a1 b1 X Y ∧ a0 < 4294967296 ∧ b0 < 4294967296 ∧ a1 < 4294967296 ∧ b1 < 4294967296 ∧ c < 4294967296 ∧ Below w.heap.size w w'

/-- the world of foresee's loop: the result's box and the box of the steps so far -/
structure Fs (w wr : World) (g h c a0 b0 a1 b1 : Nat) : Prop where
  r : Five wr g 0 0 0 0 0
  s : Five wr h c a0 b0 a1 b1
  hg : w.heap.size ≤ g
  hh : g < h
  bel : Below w.heap.size w wr
theorem Fs.name {w wr : World} {g h c a0 b0 a1 b1 : Nat} (i : Fs w wr g h c a0 b0 a1 b1) : ∃ W, W = wr := ⟨_, rfl⟩

set_option maxRecDepth 100000 in
set_option maxHeartbeats 4000000 in
theorem foresee_any (N M : Nat) (A : Option Addr) (ca : Nat) (B : Option Addr) (cb : Nat) (w : World) (ha : Sl w w.heap.size A ca (Kn.dig N)) (hb : Sl w w.heap.size B cb (Kn.dig M)) (hMN : M ≤ N) (hM : 3 ≤ (Kn.dig M).length) (hla : (Kn.dig N).length ≤ 999999) :
    Calls Tryd.prog 87 #[.slice A (Kn.dig N).length ca, .slice B (Kn.dig M).length cb] w (FsRes N M w) := by
  have hlen : (Kn.dig M).length ≤ (Kn.dig N).length := Kn.dig_len_le (Nat.lt_of_le_of_lt hMN Kn.dig_lt)
  have hN0 : 0 < N := Kn.dig_len_pos.1 (by omega)
  obtain ⟨n, hn⟩ : ∃ n, Hid (n = (Kn.dig N).length) := ⟨_, Lib.hid rfl⟩
  obtain ⟨m, hm⟩ : ∃ n, Hid (n = (Kn.dig M).length) := ⟨_, Lib.hid rfl⟩
  obtain ⟨b1, o1, x, rfl, hb1, hc1, hx, hxl⟩ := ha.word (k := n - 1) (by rw [← hn.out]; have := hn.out; omega)
  have hx0 : 0 < x := by
    rw [hx.out, hn.out]
    have := Kn.dig_last hN0
    omega
  obtain ⟨s, hs, hs1, hs2, HLZ⟩ := lz32 x hx0 hxl
  have HZ := Lib.hid HLZ
  obtain ⟨t, ht⟩ : ∃ t, t = 32 - s := ⟨_, rfl⟩
  have htop : x < 2 ^ t := by
    rw [ht]
    have h1 : (4294967296 : Nat) = 2 ^ (32 - s) * 2 ^ s := by rw [← Nat.pow_add, show 32 - s + s = 32 by omega]
    rw [h1] at hs2
    exact Nat.lt_of_mul_lt_mul_right hs2
  obtain ⟨E, hE⟩ : ∃ E, Hid (E = Kn.pw (n - 3) * 2 ^ (32 - s)) := ⟨_, Lib.hid rfl⟩
  have hEp : 0 < E := by rw [hE.out]; exact Nat.mul_pos (Kn.pw_pos _) (Nat.pow_pos (by decide))
  obtain ⟨x0, hx0e⟩ : ∃ z, Hid (z = N / E) := ⟨_, Lib.hid rfl⟩
  obtain ⟨y0, hy0e⟩ : ∃ z, Hid (z = M / E) := ⟨_, Lib.hid rfl⟩
  have htopB : (Kn.dig M).getD (n - 1) 0 < 2 ^ (32 - s) := by
    rw [← ht]
    refine Nat.lt_of_le_of_lt ?_ htop
    have e1 := Kn.val_take_step (Kn.dig M) (n - 1)
    have e2 := Kn.val_take_step (Kn.dig N) (n - 1)
    rw [show n - 1 + 1 = n by have := hn.out; omega, List.take_of_length_le (by have := hn.out; omega), Kn.val_dig] at e1 e2
    have l1 := Kn.val_take_lt (Kn.dig_wd N) (n - 1)
    rw [← hx.out] at e2
    rw [← Nat.not_lt]
    intro hc
    have h3 : Kn.pw (n - 1) * (x + 1) ≤ Kn.pw (n - 1) * (Kn.dig M).getD (n - 1) 0 := Nat.mul_le_mul_left _ hc
    rw [Nat.mul_add] at h3
    omega
  have LA := Lib.hid (fun (W : World) (h : Sl W W.heap.size (some ⟨b1, o1, none⟩) ca (Kn.dig N)) => (by have := leading_any (some ⟨b1, o1, none⟩) ca (Kn.dig N) n s x0 W h (by rw [← hn.out]; omega) (by have := hn.out; omega) (by have := hn.out; omega) hs (by rw [← hx.out, ← ht]; exact htop) (Lib.hid (by rw [hx0e.out, hE.out, Kn.val_dig])); rwa [← hn.out] at this : Calls Tryd.prog 105 #[.slice (some ⟨b1, o1, none⟩) n ca, .int .i64 (n : Int), .int .i64 (s : Int)] W fun e w' => e = .returned (.int .u64 (x0 : Int)) ∧ x0 < 18446744073709551616 ∧ Below W.heap.size W w'))
  have LBB := Lib.hid (fun (W : World) (h : Sl W W.heap.size B cb (Kn.dig M)) => (by have := leading_any B cb (Kn.dig M) n s y0 W h (by have := hn.out; omega) (by have := hn.out; omega) (by have := hn.out; omega) hs htopB (Lib.hid (by rw [hy0e.out, hE.out, Kn.val_dig])); rwa [← hm.out] at this : Calls Tryd.prog 105 #[.slice B m cb, .int .i64 (n : Int), .int .i64 (s : Int)] W fun e w' => e = .returned (.int .u64 (y0 : Int)) ∧ y0 < 18446744073709551616 ∧ Below W.heap.size W w'))
  have DA := Lib.hid (Kn.div_between N E hEp)
  have DB := Lib.hid (Kn.div_between M E hEp)
  rw [← hx0e.out] at DA
  rw [← hy0e.out] at DB
  have hyx : y0 ≤ x0 := by rw [hx0e.out, hy0e.out]; exact Nat.div_le_div_right hMN
  have SM0 : Hid (Kn.Sm x0 y0 0 1 0 0 1 x0 y0) := Lib.hid (Kn.Sm.start hyx)
  have TR0 : Hid (Kn.Tr N M 0 1 0 0 1 N M) := Lib.hid (Kn.Tr.start hMN)
  have hn3 : 3 ≤ n := by have := hn.out; omega
  have hnb : n ≤ 999999 := by have := hn.out; omega
  rw [← hn.out, ← hm.out]
  have e1 : ((n : Int) - 1).toNat = n - 1 := by omega
  have e2 : (0 : Int) ≤ (n : Int) - 1 := by omega
  clear hs1 hs2 HLZ ht htop htopB hM hlen hla
  go_enter Tryd.func87, Tryd.ntmps87
  go_wp2_with fail
  have F4 : Five (w.alloc (.cells #[.int .i64 0, .int .u64 0, .int .u64 0, .int .u64 0, .int .u64 0] 95)) w.heap.size 0 0 0 0 0 := Five.new_ w 0 0 0 0 0 95
  have bel := al1 w (.cells #[.int .i64 0, .int .u64 0, .int .u64 0, .int .u64 0, .int .u64 0] 95)
  revert F4 bel
  generalize w.alloc (.cells #[.int .i64 0, .int .u64 0, .int .u64 0, .int .u64 0, .int .u64 0] 95) = w1
  intro F4 bel
  refine (HZ.out _).mono ?_
  rintro e w' ⟨rfl, rfl⟩
  clear hc1
  go_wp2_with fail
  refine (LA.out _ (ha.nx' bel)).mono ?_
  rintro e w2 ⟨rfl, hxb, hb2⟩
  replace F4 := F4.below hb2 F4.lt
  replace bel := bel.trans (hb2.mono bel.size)
  go_wp2_with fail
  refine (LBB.out _ (hb.nx' bel)).mono ?_
  rintro e w3 ⟨rfl, hyb, hb3⟩
  replace F4 := F4.below hb3 F4.lt
  replace bel := bel.trans (hb3.mono bel.size)
  clear hb2 hb3
  have I0 : Fs w (w3.alloc (.cells #[.int .i64 0, .int .u64 1, .int .u64 0, .int .u64 0, .int .u64 1] 95)) w.heap.size w3.heap.size 0 1 0 0 1 := ⟨F4.alloc _, Five.new_ w3 0 1 0 0 1 95, Nat.le_refl _, F4.lt, bel.alloc bel.size _⟩
  go_wp2_with fail
  revert I0
  generalize w3.alloc (.cells #[.int .i64 0, .int .u64 1, .int .u64 0, .int .u64 0, .int .u64 1] 95) = w4
  generalize w3.heap.size = h
  intro I0
  clear F4 bel ha hb LA LBB HZ
  have HXB := Lib.hid hxb
  have HYB := Lib.hid hyb
  clear hxb hyb
  go_loopw [7, 8] (fun xv yv wr => ∃ c a0 b0 a1 b1 x y X Y, xv = .int .u64 (x : Nat) ∧ yv = .int .u64 (y : Nat) ∧ Fs w wr w.heap.size h c a0 b0 a1 b1 ∧ Hid (x < 18446744073709551616) ∧ Hid (y ≤ x) ∧ Hid (Kn.Sm x0 y0 c a0 b0 a1 b1 x y) ∧ Hid (Kn.Tr N M c a0 b0 a1 b1 X Y)) (fun _ yv _ => (intOf yv).toNat)
  case atStart => exact ⟨0, 1, 0, 0, 1, x0, y0, N, M, rfl, rfl, I0, HXB, Lib.hid hyx, SM0, TR0⟩
  case round =>
    clear I0 SM0 TR0 hyx
    obtain ⟨c, a0, b0, a1, b1', x, y, X, Y, rfl, rfl, I, hxl, hyx, SM, TR⟩ := hrel
    have WD := Lib.hid (SM.out.words HXB.out)
    rcases Nat.eq_zero_or_pos y with h0 | h0
    · subst h0
      have s0 := I.s.c0
      have s1 := I.s.c1
      have s2 := I.s.c2
      have s3 := I.s.c3
      have s4 := I.s.c4
      have r0 := I.r.c0
      have r1 := I.r.c1
      have r2 := I.r.c2
      have r3 := I.r.c3
      have r4 := I.r.c4
      have f0 := I.r.fr 0
      have f1 := I.r.fr 1
      have f2 := I.r.fr 2
      have f3 := I.r.fr 3
      have f4 := I.r.fr 4
      have P := Lib.hid (I.r.put c a0 b0 a1 b1')
      go_wp2_with fail
      have q0 := P.out.c0
      have q1 := P.out.c1
      have q2 := P.out.c2
      have q3 := P.out.c3
      have q4 := P.out.c4
      refine bodyPost_ret (v := .agg (strC c a0 b0 a1 b1')) (by simp [results, Tryd.results87, go_sem, q0, q1, q2, q3, q4]) rfl ?_
      exact ⟨c, a0, b0, a1, b1', X, Y, rfl, TR.out, WD.out.1, WD.out.2.1, WD.out.2.2.1, WD.out.2.2.2.1, WD.out.2.2.2.2, below_put5 I.bel I.hg c a0 b0 a1 b1'⟩
    · have hyn : (y : Int) ≠ 0 := by omega
      have gy : ((y : Int) != 0) = true := by rw [bne_iff_ne]; exact hyn
      obtain ⟨q, hq⟩ : ∃ q : Nat, Hid (q = x / y) := ⟨_, Lib.hid rfl⟩
      obtain ⟨y', hy'⟩ : ∃ q : Nat, Hid (q = x % y) := ⟨_, Lib.hid rfl⟩
      have hyl : y' < y := by rw [hy'.out]; exact Nat.mod_lt _ h0
      have hqy : Hid (x = q * y + y') := Lib.hid (by rw [hq.out, hy'.out, Nat.mul_comm]; exact (Nat.div_add_mod x y).symm)
      have FT := Lib.hid (SM.out.fits h0 hqy.out hyl)
      obtain ⟨p1, hp1⟩ : ∃ p : Nat, Hid (p = q * y) := ⟨_, Lib.hid rfl⟩
      obtain ⟨p2, hp2⟩ : ∃ p : Nat, Hid (p = q * a1) := ⟨_, Lib.hid rfl⟩
      obtain ⟨p3, hp3⟩ : ∃ p : Nat, Hid (p = q * b1') := ⟨_, Lib.hid rfl⟩
      obtain ⟨na, hna⟩ : ∃ p : Nat, Hid (p = a0 + p2) := ⟨_, Lib.hid rfl⟩
      obtain ⟨nb, hnb⟩ : ∃ p : Nat, Hid (p = b0 + p3) := ⟨_, Lib.hid rfl⟩
      obtain ⟨nc, hnc⟩ : ∃ p : Nat, Hid (p = c + 1) := ⟨_, Lib.hid rfl⟩
      have B := Lib.hid (show p1 ≤ x ∧ na < 18446744073709551616 ∧ nb < 18446744073709551616 ∧ p2 < 18446744073709551616 ∧ p3 < 18446744073709551616 by
        have h1 := FT.out.2.1
        have h2 := FT.out.2.2.1
        have h3 := FT.out.2.2.2.2
        have h4 := HXB.out
        have h5 := hqy.out
        rw [← hp2.out, ← hp3.out] at h1 h3
        rw [← hp3.out] at h2
        rw [← hp1.out] at h5
        have := hna.out
        have := hnb.out
        omega)
      have hxl2 := hxl.out
      have q1 : IntKind.u64.wrap ((x : Int) / (y : Int)) = (q : Int) := by rw [← Int.natCast_ediv, ← hq.out]; exact wrap_nat (by rw [hq.out]; exact Nat.lt_of_le_of_lt (Nat.div_le_self _ _) hxl2)
      have q2 : IntKind.u64.wrap ((q : Int) * (y : Int)) = (p1 : Int) := by rw [← Int.natCast_mul, ← hp1.out]; exact wrap_nat (by have := B.out.1; omega)
      have q3 : IntKind.u64.wrap ((x : Int) - (p1 : Int)) = (y' : Int) := by rw [IntKind.wrap_u64]; have := hqy.out; rw [← hp1.out] at this; omega
      have q3' : (x : Int) - (p1 : Int) = (y' : Int) := by have := hqy.out; rw [← hp1.out] at this; omega
      have q4 : IntKind.u64.wrap ((q : Int) * (a1 : Int)) = (p2 : Int) := by rw [← Int.natCast_mul, ← hp2.out]; exact wrap_nat B.out.2.2.2.1
      have q5 : IntKind.u64.wrap ((q : Int) * (b1' : Int)) = (p3 : Int) := by rw [← Int.natCast_mul, ← hp3.out]; exact wrap_nat B.out.2.2.2.2
      have q6 : (a0 : Int) + (p2 : Int) = (na : Int) := by rw [hna.out]; omega
      have q7 : (b0 : Int) + (p3 : Int) = (nb : Int) := by rw [hnb.out]; omega
      have q6' : IntKind.u64.wrap (na : Int) = (na : Int) := wrap_nat B.out.2.1
      have q7' : IntKind.u64.wrap (nb : Int) = (nb : Int) := wrap_nat B.out.2.2.1
      have q9 : IntKind.u64.wrap (y' : Int) = (y' : Int) := wrap_nat (by have := hxl.out; have := hyx.out; omega)
      have q8 : (c : Int) + 1 = (nc : Int) := by rw [hnc.out]; omega
      have hncb : nc ≤ 4294967296 := by have := hnc.out; have := WD.out.2.2.2.2; omega
      have s0 := I.s.c0
      have s1 := I.s.c1
      have s2 := I.s.c2
      have s3 := I.s.c3
      have s4 := I.s.c4
      clear hxl2
      go_upto_region 9 with (fail)
      have J : Fs w (wr.alloc (.cells (strC nc a1 b1' na nb) 95)) w.heap.size h c a0 b0 a1 b1' := ⟨I.r.alloc _, I.s.alloc _, I.hg, I.hh, I.bel.alloc I.bel.size _⟩
      have X11 : Five (wr.alloc (.cells (strC nc a1 b1' na nb) 95)) wr.heap.size nc a1 b1' na nb := Five.new_ wr nc a1 b1' na nb 95
      have hh11 := I.s.lt
      revert J X11
      generalize wr.alloc (.cells (strC nc a1 b1' na nb) 95) = w9
      generalize wr.heap.size = g11 at hh11
      intro J X11
      clear s0 s1 s2 s3 s4 q1 q2 q3 q3' q4 q5 q6 q7 q6' q7' q8 q9 I
      have I := J
      clear J
      have x2 := X11.c2
      have x4 := X11.c4
      by_cases hc1 : y' < nb
      · have g1 : decide (y' < nb) = true := by simp; omega
        have g1' : decide ((y' : Int) < (nb : Int)) = true := by simp; omega
        have HC1 := Lib.hid hc1
        clear hc1
        have s0 := I.s.c0
        have s1 := I.s.c1
        have s2 := I.s.c2
        have s3 := I.s.c3
        have s4 := I.s.c4
        have r0 := I.r.c0
        have r1 := I.r.c1
        have r2 := I.r.c2
        have r3 := I.r.c3
        have r4 := I.r.c4
        have f0 := I.r.fr 0
        have f1 := I.r.fr 1
        have f2 := I.r.fr 2
        have f3 := I.r.fr 3
        have f4 := I.r.fr 4
        have P := Lib.hid (I.r.put c a0 b0 a1 b1')
        go_wp2_with fail
        have q0 := P.out.c0
        have q1 := P.out.c1
        have q2 := P.out.c2
        have q3 := P.out.c3
        have q4 := P.out.c4
        refine bodyPost_ret (v := .agg (strC c a0 b0 a1 b1')) (by simp [results, Tryd.results87, go_sem, q0, q1, q2, q3, q4]) rfl ?_
        exact ⟨c, a0, b0, a1, b1', X, Y, rfl, TR.out, WD.out.1, WD.out.2.1, WD.out.2.2.1, WD.out.2.2.2.1, WD.out.2.2.2.2, below_put5 I.bel I.hg c a0 b0 a1 b1'⟩
      · have g1 : decide (y' < nb) = false := by simp; omega
        have g1' : decide ((y' : Int) < (nb : Int)) = false := by simp; omega
        obtain ⟨d, hd⟩ : ∃ d : Nat, Hid (d = y - y') := ⟨_, Lib.hid rfl⟩
        obtain ⟨e', he'⟩ : ∃ d : Nat, Hid (d = b1' + nb) := ⟨_, Lib.hid rfl⟩
        have hel : e' < 18446744073709551616 := by
          have h1 := FT.out.2.2.2.1
          rw [← hp3.out, ← hnb.out] at h1
          have h2 : 1 ≤ nb := by
            have := SM.out.b1p
            have h3 : 1 * b1' ≤ q * b1' := Nat.mul_le_mul_right _ FT.out.1
            have := hnb.out
            have := hp3.out
            omega
          have h4 : nb * 1 ≤ nb * y := Nat.mul_le_mul_left _ h0
          have h5 : b1' * 1 ≤ b1' * y' := Nat.mul_le_mul_left _ (by omega)
          have := he'.out
          have := HXB.out
          omega
        have u1 : (y : Int) - (y' : Int) = (d : Int) := by rw [hd.out]; omega
        have u2 : (b1' : Int) + (nb : Int) = (e' : Int) := by rw [he'.out]; omega
        have u3 : IntKind.u64.wrap (d : Int) = (d : Int) := wrap_nat (by have := hd.out; have := hxl.out; have := hyx.out; omega)
        have u4 : IntKind.u64.wrap (e' : Int) = (e' : Int) := wrap_nat hel
        have HC1 := Lib.hid hc1
        by_cases hc2 : d < e'
        · have g2 : decide (d < e') = true := by simp; omega
          have g2' : decide ((d : Int) < (e' : Int)) = true := by simp; omega
          clear hc1 hc2
          have s0 := I.s.c0
          have s1 := I.s.c1
          have s2 := I.s.c2
          have s3 := I.s.c3
          have s4 := I.s.c4
          have r0 := I.r.c0
          have r1 := I.r.c1
          have r2 := I.r.c2
          have r3 := I.r.c3
          have r4 := I.r.c4
          have f0 := I.r.fr 0
          have f1 := I.r.fr 1
          have f2 := I.r.fr 2
          have f3 := I.r.fr 3
          have f4 := I.r.fr 4
          have P := Lib.hid (I.r.put c a0 b0 a1 b1')
          go_wp2_with fail
          have q0 := P.out.c0
          have q1 := P.out.c1
          have q2 := P.out.c2
          have q3 := P.out.c3
          have q4 := P.out.c4
          refine bodyPost_ret (v := .agg (strC c a0 b0 a1 b1')) (by simp [results, Tryd.results87, go_sem, q0, q1, q2, q3, q4]) rfl ?_
          exact ⟨c, a0, b0, a1, b1', X, Y, rfl, TR.out, WD.out.1, WD.out.2.1, WD.out.2.2.1, WD.out.2.2.2.1, WD.out.2.2.2.2, below_put5 I.bel I.hg c a0 b0 a1 b1'⟩
        · have g2 : decide (d < e') = false := by simp; omega
          have g2' : decide ((d : Int) < (e' : Int)) = false := by simp; omega
          have ST := Kn.step_both DA.out.1 DA.out.2 DB.out.1 DB.out.2 SM.out TR.out h0 hqy.out hyl (by rw [← hp3.out, ← hnb.out]; omega) (by rw [← hp3.out, ← hnb.out]; have := hd.out; have := he'.out; omega)
          rw [← hp2.out, ← hp3.out, ← hna.out, ← hnb.out, ← hnc.out] at ST
          obtain ⟨SM2, Z, TR2⟩ := ST
          have HSM2 := Lib.hid SM2
          have HTR2 := Lib.hid TR2
          have hyl2 : Hid (y < 18446744073709551616) := Lib.hid (by have := hxl.out; have := hyx.out; omega)
          have hyy : Hid (y' ≤ y) := Lib.hid (by omega)
          have s0 := I.s.c0
          have s1 := I.s.c1
          have s2 := I.s.c2
          have s3 := I.s.c3
          have s4 := I.s.c4
          have f0 := I.s.fr 0
          have f1 := I.s.fr 1
          have f2 := I.s.fr 2
          have f3 := I.s.fr 3
          have f4 := I.s.fr 4
          have x0c := X11.c0
          have x1c := X11.c1
          have x3c := X11.c3
          have J : Fs w (put5 w9 h nc a1 b1' na nb) w.heap.size h nc a1 b1' na nb := ⟨I.r.far5 (by have := I.hh; omega) _ _ _ _ _, I.s.put _ _ _ _ _, I.hg, I.hh, below_put5 I.bel (by have := I.hg; have := I.hh; omega) _ _ _ _ _⟩
          clear SM2 TR2 hc1 hc2 I
          go_wp2_with fail
          go_roundw
          case rel => exact ⟨nc, a1, b1', na, nb, y, y', Y, Z, rfl, rfl, J, hyl2, hyy, HSM2, HTR2⟩
          case measure => first | (simp [intOf]; done) | (simp [intOf]; omega)
end Go.Proofs.YtmhfdmidaheoeaaDoor
/- Walks: shrink. -/
namespace Go.Proofs.YtmhfdmidaheoeaaDoor
open Go.RowKit
set_option linter.unusedVariables false

/-- what shrink hands back -/
def ShRes (N M : Nat) (w : World) (e : Ending) (w' : World) : Prop :=
  ∃ X Y A c B d, e = .returned (.tuple #[.slice A (Kn.dig X).length c, .slice B (Kn.dig Y).length d]) ∧ Kn.Shr N M X Y ∧ Sl w' w'.heap.size A c (Kn.dig X) ∧ Sl w' w'.heap.size B d (Kn.dig Y) ∧ Below w.heap.size w w'

set_option maxRecDepth 100000 in
set_option maxHeartbeats 2000000 in
theorem shrink_any (N M : Nat) (A : Option Addr) (ca : Nat) (B : Option Addr) (cb : Nat) (w : World) (ha : Sl w w.heap.size A ca (Kn.dig N)) (hb : Sl w w.heap.size B cb (Kn.dig M)) (hMN : M ≤ N) (hM : 3 ≤ (Kn.dig M).length) (hla : (Kn.dig N).length ≤ 999999) :
    Calls Tryd.prog 68 #[.slice A (Kn.dig N).length ca, .slice B (Kn.dig M).length cb] w (ShRes N M w) := by
  have hlen : (Kn.dig M).length ≤ (Kn.dig N).length := Kn.dig_len_le (Nat.lt_of_le_of_lt hMN Kn.dig_lt)
  have hM0 : 0 < M := Kn.dig_len_pos.1 (by omega)
  have HFS := Lib.hid (fun (W : World) (h1 : Sl W W.heap.size A ca (Kn.dig N)) (h2 : Sl W W.heap.size B cb (Kn.dig M)) => foresee_any N M A ca B cb W h1 h2 hMN hM hla)
  have HDW := Lib.hid (fun (W : World) (h1 : Sl W W.heap.size A ca (Kn.dig N)) (h2 : Sl W W.heap.size B cb (Kn.dig M)) => divideWords_any N M A ca B cb W h1 h2 hM0 hla (by omega))
  have hlb : (Kn.dig M).length ≤ 999999 := by omega
  clear hM hlen
  go_enter Tryd.func68, Tryd.ntmps68
  go_wp2_with fail
  refine (HFS.out _ ha hb).mono ?_
  rintro e w2 ⟨c, a0, b0, a1, b1, X, Y, rfl, TR, l1, l2, l3, l4, l5, hb2⟩
  have HTR := Lib.hid TR
  clear TR
  replace ha := ha.nx' hb2
  replace hb := hb.nx' hb2
  have F := Five.new_ w2 c a0 b0 a1 b1 95
  have bel := hb2.trans ((al1 w2 (.cells (strC c a0 b0 a1 b1) 95)).mono hb2.size)
  replace ha := ha.nx' (al1 w2 (.cells (strC c a0 b0 a1 b1) 95))
  replace hb := hb.nx' (al1 w2 (.cells (strC c a0 b0 a1 b1) 95))
  go_upto_region 2 with (fail)
  revert F bel ha hb
  generalize w2.alloc (.cells (strC c a0 b0 a1 b1) 95) = w3
  generalize w2.heap.size = g
  intro F bel ha hb
  clear hb2 HFS
  have s0 := F.c0
  rcases Nat.eq_zero_or_pos c with hc | hc
  · subst hc
    have s0' : w3.cell? ⟨g, 0, none⟩ = some (.int .i64 0) := s0
    clear s0
    go_wp2_with fail
    refine (HDW.out _ ha hb).mono ?_
    rintro e w4 ⟨A4, c4, B4, d4, rfl, hQ, hR, hb4⟩
    replace hb := hb.nx' hb4
    go_wp2_with fail
    go_ret2
    exact ⟨M, N % M, B, cb, B4, d4, rfl, Kn.shr_mod hM0 hMN, hb, hR, bel.trans (hb4.mono bel.size)⟩
  · have gc : ((c : Int) == 0) = false := by rw [beq_eq_false_iff_ne]; omega
    have HSH := Lib.hid (HTR.out.shr hM0 hMN hc)
    have HYB := Lib.hid (HTR.out.yb)
    have HST : Hid (X ≤ M ∧ X + Y ≤ N) := Lib.hid (by rcases HTR.out.st with h | h <;> omega)
    have hNl := Lib.hid (@Kn.dig_lt N)
    have hMl := Lib.hid (@Kn.dig_lt M)
    rcases Nat.mod_two_eq_zero_or_one c with hm | hm
    · have gm : (((c : Int) % 2) == 0) = true := by rw [beq_iff_eq]; omega
      have gm2 : (c : Int) % 2 = 0 := by omega
      have HE := Lib.hid (HTR.out.even hm)
      have C1 := Lib.hid (fun (W : World) (h1 : Sl W W.heap.size A ca (Kn.dig N)) (h2 : Sl W W.heap.size B cb (Kn.dig M)) => (by
        have := combine_any a0 A ca (Kn.dig N) b0 B cb (Kn.dig M) W h1 h2 (by omega) (by omega) l1 l2 (by rw [Kn.val_dig, Kn.val_dig]; have := HE.out; omega) (by rw [Kn.val_dig, Kn.val_dig]; have := HE.out; have := HST.out; have := hNl.out; omega)
        rwa [Kn.val_dig, Kn.val_dig, show a0 * N - b0 * M = X by have := HE.out; omega] at this : Calls Tryd.prog 59 #[.int .u64 (a0 : Int), .slice A (Kn.dig N).length ca, .int .u64 (b0 : Int), .slice B (Kn.dig M).length cb] W (MagRes X W)))
      have C2 := Lib.hid (fun (W : World) (h1 : Sl W W.heap.size A ca (Kn.dig N)) (h2 : Sl W W.heap.size B cb (Kn.dig M)) => (by
        have := combine_any b1 B cb (Kn.dig M) a1 A ca (Kn.dig N) W h2 h1 (by omega) (by omega) l4 l3 (by rw [Kn.val_dig, Kn.val_dig]; have := HE.out; omega) (by rw [Kn.val_dig, Kn.val_dig]; have := HE.out; have := HYB.out; have := hMl.out; omega)
        rwa [Kn.val_dig, Kn.val_dig, show b1 * M - a1 * N = Y by have := HE.out; omega] at this : Calls Tryd.prog 59 #[.int .u64 (b1 : Int), .slice B (Kn.dig M).length cb, .int .u64 (a1 : Int), .slice A (Kn.dig N).length ca] W (MagRes Y W)))
      clear hm hc
      go_wp2_with fail
      clear s0
      replace F := F.drew
      replace ha := sl_drew ha
      replace hb := sl_drew hb
      replace bel := bDrew1 bel
      go_region_held3 (fun w' => w'.cell? ⟨g, 1, none⟩ = some (.int .u64 (a0 : Int)) ∧ w'.cell? ⟨g, 2, none⟩ = some (.int .u64 (b0 : Int)) ∧ w'.cell? ⟨g, 3, none⟩ = some (.int .u64 (a1 : Int)) ∧ w'.cell? ⟨g, 4, none⟩ = some (.int .u64 (b1 : Int)))
        (with_reducible exact ⟨F.c1, F.c2, F.c3, F.c4⟩)
        (first
          | (go_at_call 59; (with_reducible refine (C1.out _ ha hb).mono ?_); rintro e w4 ⟨A4, c4, rfl, S4, hb4⟩; replace F := F.below hb4 F.lt; replace ha := ha.nx' hb4; replace hb := hb.nx' hb4; replace bel := bel.trans (hb4.mono bel.size); clear hb4)
          | (go_at_call 59; (with_reducible refine (C2.out _ ha hb).mono ?_); rintro e w5 ⟨A5, c5, rfl, S5, hb4⟩; replace F := F.below hb4 F.lt; replace S4 := S4.nx' hb4; replace bel := bel.trans (hb4.mono bel.size); clear hb4))
      all_goals
        go_wp2_with fail
        go_ret2
        exact ⟨X, Y, A4, c4, A5, c5, rfl, HSH.out, S4, S5, bel⟩
    · have gm : (((c : Int) % 2) == 0) = false := by rw [beq_eq_false_iff_ne]; omega
      have gm2 : (c : Int) % 2 = 1 := by omega
      have HE := Lib.hid (HTR.out.odd hm)
      have C1 := Lib.hid (fun (W : World) (h1 : Sl W W.heap.size A ca (Kn.dig N)) (h2 : Sl W W.heap.size B cb (Kn.dig M)) => (by
        have := combine_any b0 B cb (Kn.dig M) a0 A ca (Kn.dig N) W h2 h1 (by omega) (by omega) l2 l1 (by rw [Kn.val_dig, Kn.val_dig]; have := HE.out; omega) (by rw [Kn.val_dig, Kn.val_dig]; have := HE.out; have := HST.out; have := hMl.out; omega)
        rwa [Kn.val_dig, Kn.val_dig, show b0 * M - a0 * N = X by have := HE.out; omega] at this : Calls Tryd.prog 59 #[.int .u64 (b0 : Int), .slice B (Kn.dig M).length cb, .int .u64 (a0 : Int), .slice A (Kn.dig N).length ca] W (MagRes X W)))
      have C2 := Lib.hid (fun (W : World) (h1 : Sl W W.heap.size A ca (Kn.dig N)) (h2 : Sl W W.heap.size B cb (Kn.dig M)) => (by
        have := combine_any a1 A ca (Kn.dig N) b1 B cb (Kn.dig M) W h1 h2 (by omega) (by omega) l3 l4 (by rw [Kn.val_dig, Kn.val_dig]; have := HE.out; omega) (by rw [Kn.val_dig, Kn.val_dig]; have := HE.out; have := HST.out; have := hNl.out; omega)
        rwa [Kn.val_dig, Kn.val_dig, show a1 * N - b1 * M = Y by have := HE.out; omega] at this : Calls Tryd.prog 59 #[.int .u64 (a1 : Int), .slice A (Kn.dig N).length ca, .int .u64 (b1 : Int), .slice B (Kn.dig M).length cb] W (MagRes Y W)))
      clear hm hc
      go_wp2_with fail
      clear s0
      replace F := F.drew
      replace ha := sl_drew ha
      replace hb := sl_drew hb
      replace bel := bDrew1 bel
      go_region_held3 (fun w' => w'.cell? ⟨g, 1, none⟩ = some (.int .u64 (a0 : Int)) ∧ w'.cell? ⟨g, 2, none⟩ = some (.int .u64 (b0 : Int)) ∧ w'.cell? ⟨g, 3, none⟩ = some (.int .u64 (a1 : Int)) ∧ w'.cell? ⟨g, 4, none⟩ = some (.int .u64 (b1 : Int)))
        (with_reducible exact ⟨F.c1, F.c2, F.c3, F.c4⟩)
        (first
          | (go_at_call 59; (with_reducible refine (C1.out _ ha hb).mono ?_); rintro e w4 ⟨A4, c4, rfl, S4, hb4⟩; replace F := F.below hb4 F.lt; replace ha := ha.nx' hb4; replace hb := hb.nx' hb4; replace bel := bel.trans (hb4.mono bel.size); clear hb4)
          | (go_at_call 59; (with_reducible refine (C2.out _ ha hb).mono ?_); rintro e w5 ⟨A5, c5, rfl, S5, hb4⟩; replace F := F.below hb4 F.lt; replace S4 := S4.nx' hb4; replace bel := bel.trans (hb4.mono bel.size); clear hb4))
      all_goals
        go_wp2_with fail
        go_ret2
        exact ⟨X, Y, A4, c4, A5, c5, rfl, HSH.out, S4, S5, bel⟩
end Go.Proofs.YtmhfdmidaheoeaaDoor
