/- Walks: within. -/
import Derived.Test.YtkcnaedffcmodaaW7
namespace Go.Proofs.Ytkcnaedffcmodaa
open Go.RowKit Go.Maps
set_option linter.unusedVariables false

namespace Kd
/-- the box as a test of offsets -/
def bx (ds : List (Int × Nat)) (lo hi : List Int) (i x : Nat) : Bool := decide (lo.getD i 0 ≤ lof ds i + (x : Int)) && decide (lof ds i + (x : Int) ≤ hi.getD i 0)
theorem bx_iff {ds : List (Int × Nat)} {lo hi : List Int} {i x : Nat} : bx ds lo hi i x = true ↔ lo.getD i 0 ≤ lof ds i + (x : Int) ∧ lof ds i + (x : Int) ≤ hi.getD i 0 := by unfold bx; simp
/-- the numbers of the vectors of a box -/
def win (ds : List (Int × Nat)) (lo hi : List Int) : List Nat := W (cf ds) (bx ds lo hi) ds.length
theorem sg_from {b : Nat → Bool} {f : Nat} : ∀ (n : Nat), (∀ x, x < f + n → (b x = true ↔ f ≤ x)) → sg b (f + n) = (List.range n).map fun j => f + j := by
  intro n
  induction n with
  | zero =>
    intro hb
    refine sg_low fun x hx => ?_
    cases e : b x with
    | false => rfl
    | true => have := (hb x (by omega)).1 e; omega
  | succ n ih2 =>
    intro hb
    rw [show f + (n + 1) = f + n + 1 from rfl, sg_yes ((hb _ (by omega)).2 (by omega)), List.range_succ, List.map_append, ih2 fun x hx => hb x (by omega)]; rfl
theorem sg_mid {b : Nat → Bool} {q f n : Nat} (hq : f + n ≤ q) (h : ∀ x, x < q → (b x = true ↔ f ≤ x ∧ x < f + n)) : sg b q = (List.range n).map fun j => f + j := by
  have h1 : ∀ x, f + n ≤ x → x < q → b x = false := fun x h1 h2 => by
    cases e : b x with
    | false => rfl
    | true => have := (h x h2).1 e; omega
  rw [sg_high hq h1]
  refine sg_from n fun x hx => ?_
  have := h x (by omega)
  constructor
  · intro e; exact (this.1 e).1
  · intro e; exact this.2 ⟨e, hx⟩
theorem W_ext {c : Nat → Nat} {b : Nat → Nat → Bool} {k f n : Nat} (hq : f + n ≤ c k) (h : ∀ x, x < c k → (b k x = true ↔ f ≤ x ∧ x < f + n)) : W c b (k + 1) = ext (W c b k) (c k) f n := by
  rw [W_succ, sg_mid hq h]
  unfold ext seg
  simp only [List.map_map]
  rfl
end Kd
theorem max2 (a b n : Int) (h : n = max a b) (ts : Array TypeId) (t : TypeId) (W : World) : (Builtin.max_ ts t #[.int .i64 a, .int .i64 b]).run Try.prog W = .ok (.int .i64 n) W := by
  have e : ∀ x y : Int, (if x < y then y else x) = max x y := fun x y => by split <;> omega
  simp [Builtin.max_, Builtin.max2, List.foldlM, e, go_sem, h]

set_option maxRecDepth 100000 in
set_option maxHeartbeats 4000000 in
theorem within_any (A : Option Addr) (c : Nat) (ds : List (Int × Nat)) (sp : Int) (B : Option Addr) (cb : Nat) (lo : List Int) (D : Option Addr) (cd : Nat) (hi : List Int) (w : World) (h : Dgs w w.heap.size A ds) (hd : Kd.OkD ds) (hl : ds.length ≤ 1000000) (hlo : Ints w w.heap.size B lo) (hhi : Ints w w.heap.size D hi) (hl1 : lo.length = ds.length) (hl2 : hi.length = ds.length) :
    Calls Try.prog 29 #[domV A ds.length c sp, .slice B lo.length cb, .slice D hi.length cd] w (IntsRes (nats (Kd.win ds lo hi)) w) := by
  unfold domV
  have b0 := newB1 w (.cells #[.slice A ds.length c, .int .i64 sp] 54)
  have HD := Lib.hid hd
  have HL1 := Lib.hid hl1
  have HL2 := Lib.hid hl2
  have hll1 : lo.length ≤ 1000000 := by omega
  have hll2 : hi.length ≤ 1000000 := by omega
  have HQ := Lib.hid (fun i (hi' : i ≤ ds.length) => Nat.le_trans (Kd.Q_mono hd.pos hi') (by have := hd.sp; unfold Kd.pr at this; exact this))
  clear hd hl1 hl2
  go_enter Try.func29, Try.ntmps29
  go_wp2_with fail
  have B1 := bAlloc b0 (.cells #[.int .i64 0] 3)
  have I0 : Ints ((w.alloc (.cells #[.slice A ds.length c, .int .i64 sp] 54)).alloc (.cells #[.int .i64 0] 3)) ((w.alloc (.cells #[.slice A ds.length c, .int .i64 sp] 54)).alloc (.cells #[.int .i64 0] 3)).heap.size (some ⟨w.heap.size + 1, 0, none⟩) (nats (Kd.W (Kd.cf ds) (Kd.bx ds lo hi) 0)) := by
    have h1 := IBlk.new_ (w.alloc (.cells #[.slice A ds.length c, .int .i64 sp] 54)) [0]
    rw [World.size_alloc] at h1
    exact h1.ints (by simp) (by intro x hx; simp at hx; omega)
  go_loopw [7, 16] (fun rv iv wr => ∃ (i : Nat) (A' : Option Addr) (c' : Nat), i ≤ ds.length ∧ iv = .int .i64 i ∧ rv = .slice A' (Kd.W (Kd.cf ds) (Kd.bx ds lo hi) i).length c' ∧ Ints wr wr.heap.size A' (nats (Kd.W (Kd.cf ds) (Kd.bx ds lo hi) i)) ∧ Below w.heap.size w wr) (fun _ iv _ => ds.length - (intOf iv).toNat)
  case atStart => exact ⟨0, some ⟨w.heap.size + 1, 0, none⟩, 1, Nat.zero_le _, rfl, rfl, I0, B1⟩
  case round =>
    clear I0 B1 b0
    obtain ⟨i, A', c', hi1, rfl, rfl, I, b1⟩ := hrel
    by_cases hlt : i < ds.length
    · obtain ⟨bb, off, l, q, rfl, hbb, c0, c1, hlq⟩ := (h.below b1).at_ hlt
      obtain ⟨b2, off2, y, rfl, hb2, c2, hy⟩ := (hlo.below b1).at_ (k := i) (by rw [HL1.out]; exact hlt)
      obtain ⟨b3, off3, z, rfl, hb3, c3, hz⟩ := (hhi.below b1).at_ (k := i) (by rw [HL2.out]; exact hlt)
      have hlt1 : (i : Int) < (lo.length : Int) := by have := HL1.out; omega
      have hlt2 : (i : Int) < (hi.length : Int) := by have := HL2.out; omega
      have hbd := HD.out.lo i hlt
      have hps := HD.out.pos i hlt
      rw [← hlq.out.1, ← hlq.out.2] at hbd
      rw [← hlq.out.2] at hps
      have hyb := hy.out.2
      have hzb := hz.out.2
      have hnx : Hid (Kd.lof ds i = l ∧ Kd.cf ds i = q ∧ lo.getD i 0 = y ∧ hi.getD i 0 = z) := Lib.hid ⟨hlq.out.1.symm, hlq.out.2.symm, hy.out.1.symm, hz.out.1.symm⟩
      have hbx : Hid (∀ x, Kd.bx ds lo hi i x = true ↔ y ≤ l + (x : Int) ∧ l + (x : Int) ≤ z) := Lib.hid fun x => by rw [Kd.bx_iff, hnx.out.1, hnx.out.2.2.1, hnx.out.2.2.2]
      have hsz := b1.size
      have b5 := bAlloc b1 (.cells #[.int .i64 l, .int .i64 (q : Int)] 62)
      have t5 := Two.new_ wr (.int .i64 l) (.int .i64 (q : Int)) 62
      have c2' : (wr.alloc (.cells #[.int .i64 l, .int .i64 (q : Int)] 62)).cell? ⟨b2, off2 + i, none⟩ = some (.int .i64 y) := (World.cell?_alloc_lt wr _ _ (by show b2 < wr.heap.size; omega)).trans c2
      have c3' : (wr.alloc (.cells #[.int .i64 l, .int .i64 (q : Int)] 62)).cell? ⟨b3, off3 + i, none⟩ = some (.int .i64 z) := (World.cell?_alloc_lt wr _ _ (by show b3 < wr.heap.size; omega)).trans c3
      have I5 := I.at (newB1 wr (.cells #[.int .i64 l, .int .i64 (q : Int)] 62))
      go_wp2_with fail
      clear I b1 c0 c1 c2 c3 hsz
      revert b5 t5 c2' c3' I5
      generalize wr.alloc (.cells #[.int .i64 l, .int .i64 (q : Int)] 62) = w5
      generalize wr.heap.size = g
      intro b5 t5 c2' c3' I5
      have d0 := t5.c0
      have d1 := t5.c1
      have HT := Lib.hid t5
      clear t5
      obtain ⟨fr, hfr⟩ : ∃ fr : Int, Hid (fr = max y l) := ⟨_, Lib.hid rfl⟩
      obtain ⟨tu, htu⟩ : ∃ tu : Int, Hid (tu = min z (l + (q : Int) - 1)) := ⟨_, Lib.hid rfl⟩
      have e1 : IntKind.i64.wrap (l + (q : Int)) = l + (q : Int) := IntWalk.i64_in _ (by omega)
      have e2 : IntKind.i64.wrap (l + (q : Int) - 1) = l + (q : Int) - 1 := IntWalk.i64_in _ (by omega)
      have hmx : ∀ W : World, (Builtin.max_ #[3, 3] 3 #[.int .i64 y, .int .i64 l]).run Try.prog W = .ok (.int .i64 fr) W := fun W => max2 _ _ _ hfr.out _ _ W
      have hmn : ∀ W : World, (Builtin.min_ #[3, 3] 3 #[.int .i64 z, .int .i64 (l + (q : Int) - 1)]).run Try.prog W = .ok (.int .i64 tu) W := fun W => min2 _ _ _ htu.out _ _ W
      go_quiet (fail)
      clear e1 e2 hmx hmn
      have bq : Below w5.heap.size w5 (w5.drewN nq) := bDrew (Below.refl _ _) nq
      replace b5 := bTrans b5 bq
      replace I5 := I5.at bq
      replace d0 : (w5.drewN nq).cell? ⟨g, 0, none⟩ = _ := d0
      replace d1 : (w5.drewN nq).cell? ⟨g, 1, none⟩ = _ := d1
      clear bq c2' c3' HT
      generalize w5.drewN nq = w6 at *
      have hf1 := hfr.out
      have hf2 := htu.out
      by_cases hle : tu < fr
      · have HN : Hid (Kd.win ds lo hi = []) := Lib.hid (by
          have h1 : Kd.W (Kd.cf ds) (Kd.bx ds lo hi) (i + 1) = [] := Kd.W_none fun x hx => by
            cases e : Kd.bx ds lo hi i x with
            | false => rfl
            | true =>
              have := (hbx.out x).1 e
              have hxq : x < q := by rw [← hnx.out.2.1]; exact hx
              omega
          have h2 := Kd.W_stay h1 (ds.length - (i + 1))
          unfold Kd.win
          rwa [show i + 1 + (ds.length - (i + 1)) = ds.length by omega] at h2)
        clear hf1 hf2
        go_wp2_with fail
        go_ret
        exact ⟨none, 0, by rw [HN.out]; rfl, by rw [HN.out]; exact Ints.nil _ _ _, b5⟩
      · obtain ⟨f, hff⟩ : ∃ f : Nat, fr = l + (f : Int) := ⟨(fr - l).toNat, by omega⟩
        obtain ⟨n, hnn⟩ : ∃ n : Nat, tu = l + (f : Int) + (n : Int) - 1 := ⟨(tu - fr + 1).toNat, by omega⟩
        have hfn : f + n ≤ q := by omega
        have HW : Hid (Kd.W (Kd.cf ds) (Kd.bx ds lo hi) (i + 1) = Kd.ext (Kd.W (Kd.cf ds) (Kd.bx ds lo hi) i) q f n) := Lib.hid (by
          rw [← hnx.out.2.1]
          refine Kd.W_ext (by rw [hnx.out.2.1]; exact hfn) fun x hx => ?_
          rw [hbx.out]
          rw [hnx.out.2.1] at hx
          omega)
        have HF := Lib.hid hff
        have HN := Lib.hid hnn
        by_cases hq1 : 1 < q
        · have hqI : (1 : Int) < (q : Int) := by omega
          have hwl : (Kd.W (Kd.cf ds) (Kd.bx ds lo hi) i).length ≤ 4096 := Nat.le_trans Kd.W_len (HQ.out i hi1)
          have hwb : Hid (∀ r ∈ Kd.W (Kd.cf ds) (Kd.bx ds lo hi) i, r ≤ 4096) := Lib.hid fun r hr => by have h1 := Kd.W_lt r hr; have h2 := HQ.out i hi1; omega
          clear hf1 hf2 hff hnn
          revert I5 HW hwl hwb
          generalize Kd.W (Kd.cf ds) (Kd.bx ds lo hi) i = rs
          intro I5 HW hwl hwb
          go_wp2_with fail
          refine (ext_any A' c' rs l q f n fr tu _ I5 hwl hwb.out hbd hfn HF.out HN.out).mono ?_
          rintro e w7 ⟨A7, c7, rfl, I7, b7⟩
          rw [← HW.out] at I7 ⊢
          go_wp2_with fail
          go_roundw
          case rel => exact ⟨i + 1, A7, c7, by omega, by go_num, by rw [nats_length], I7, bTrans b5 b7⟩
          case measure => simp [intOf]; omega
        · have hqI : ¬ (1 : Int) < (q : Int) := by omega
          have HO : Hid (Kd.W (Kd.cf ds) (Kd.bx ds lo hi) (i + 1) = Kd.W (Kd.cf ds) (Kd.bx ds lo hi) i) := Lib.hid (Kd.W_one (by rw [hnx.out.2.1]; omega) (by rw [hbx.out]; omega))
          clear hf1 hf2 hff hnn
          go_wp2_with fail
          go_roundw
          case rel => exact ⟨i + 1, A', c', by omega, by go_num, by rw [HO.out], by rw [HO.out]; exact I5, b5⟩
          case measure => simp [intOf]; omega
    · obtain rfl : i = ds.length := by omega
      go_wp2_with fail
      go_ret
      exact ⟨A', c', by rw [nats_length]; rfl, I, b1⟩
end Go.Proofs.Ytkcnaedffcmodaa
