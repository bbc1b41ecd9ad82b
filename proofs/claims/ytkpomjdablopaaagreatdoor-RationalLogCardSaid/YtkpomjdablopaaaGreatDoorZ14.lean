/- My texts, packed: Rz, R1, R5, R8, K0. -/
import Derived.Test.YtkpomjdablopaaaGreatDoorZ13
import Derived.Test.YtkpomjdablopaaaGreatDoorZ12
import Derived.Test.YtkpomjdablopaaaGreatDoorZ11
/- Walks of package rational: Log2Floor. -/
namespace Go.Proofs.YtkpomjdablopaaaGreatDoor
open Go.RowKit
set_option linter.unusedVariables false

theorem ltP_pred {k : Int} {X Y : Nat} (hY : 0 < Y) (h : leP k X Y) : ltP (k - 1) X Y := by
  rw [leP_at (M := k.natAbs + 1) (by omega)] at h
  rw [ltP_at (M := k.natAbs + 1) (by omega)]
  have e : 2 ^ (k + (k.natAbs + 1 : Nat)).toNat = 2 * 2 ^ (k - 1 + (k.natAbs + 1 : Nat)).toNat := by rw [← Nat.pow_succ']; congr 1; omega
  rw [e, Nat.mul_assoc] at h
  have : 0 < 2 ^ (k - 1 + (k.natAbs + 1 : Nat)).toNat * Y := Nat.mul_pos (Nat.pow_pos (by decide)) hY
  omega
theorem leP_of_lt {k : Int} {X Y : Nat} (h : ltP k X Y) : leP k X Y := Nat.le_of_lt h
/-- the floor of the logarithm, no error -/
def GL (z : Rat) (w : World) (e : Ending) (w' : World) : Prop := ∃ k : Int, e = .returned (.tuple #[.int .i64 k, .int .i64 0]) ∧ isL z k ∧ -1000 ≤ k ∧ k ≤ 1000 ∧ Below w.heap.size w w'
/-- the ceiling -/
def GC (z : Rat) (w : World) (e : Ending) (w' : World) : Prop := ∃ k : Int, e = .returned (.tuple #[.int .i64 k, .int .i64 0]) ∧ isC z k ∧ -1001 ≤ k ∧ k ≤ 1001 ∧ Below w.heap.size w w'
theorem num_pos_of {x y : Int} {z : Rat} (hy : 0 < y) (hz : Rat.divInt x y = z) (h : z.num.sign = 1) : 0 < x := by
  have := rq_sign x y
  rw [hz, h, Int.sign_eq_one_of_pos hy, Int.mul_one] at this
  exact Int.sign_eq_one_iff_pos.1 this.symm
theorem gbits {x : Int} {n : Nat} {p : Bool} {A : Option Addr} {c : Nat} {l : List Nat} {W : World} (h : Iv W p A c l x n) (hn : n ≤ 1000) : Calls Tryz.prog 40 #[.agg #[.bool p, .slice A l.length c]] W fun e w' => e = .returned (.int .i64 (bitsOf (Kn.dig x.natAbs) : Nat)) ∧ Below W.heap.size W w' := by
  have := bits_any p A c l W h.sl (by have := h.len; omega)
  rwa [h.val0] at this

set_option maxRecDepth 100000 in
set_option maxHeartbeats 3000000 in
theorem log2floor_neg {x y : Int} {n : Nat} {p : Bool} {A : Option Addr} {c : Nat} {l : List Nat} {q : Bool} {B : Option Addr} {d : Nat} {m : List Nat} {w : World} (h1 : Iv w p A c l x n) (h2 : Iv w q B d m y n) {z : Rat} (hz : z = Rat.divInt x y) (hn : n ≤ 20) (hs : z.num.sign ≤ 0) :
    Calls Tryz.prog 14 #[ratV p A l.length c q B m.length d] w fun e w' => e = .returned (.tuple #[.int .i64 0, .int .i64 3]) ∧ Below w.heap.size w w' := by
  obtain ⟨s, hss⟩ : ∃ s, s = z.num.sign := ⟨_, rfl⟩
  have HS := Lib.hid (fun (W : World) (h1 : Iv W p A c l x n) (h2 : Iv W q B d m y n) => (by have h := grsgn h1 h2 (by omega); rw [← hz, ← hss] at h; exact h : Calls Tryz.prog 38 #[.agg #[.bool p, .slice A l.length c, .bool q, .slice B m.length d]] W fun e w' => e = .returned (.int .i64 s) ∧ Below W.heap.size W w'))
  have e1 : s ≤ 0 := by omega
  have e2 : decide (s ≤ 0) = true := decide_eq_true e1
  clear hz hs hn hss
  unfold ratV
  go_enter Tryz.func14, Tryz.ntmps14
  go_wp2_with fail
  have t1 : Four (w.alloc (.cells #[.bool p, .slice A l.length c, .bool q, .slice B m.length d] 26)) w.heap.size (.bool p) (.slice A l.length c) (.bool q) (.slice B m.length d) := Four.new_ w (.bool p) (.slice A l.length c) (.bool q) (.slice B m.length d) 26
  have bel : Below w.heap.size w (w.alloc (.cells #[.bool p, .slice A l.length c, .bool q, .slice B m.length d] 26)) := (Below.refl _ _).alloc (Nat.le_refl _) _
  generalize (w.alloc (.cells #[.bool p, .slice A l.length c, .bool q, .slice B m.length d] 26)) = wx at t1 bel ⊢
  have X := h1.below bel
  have Y := h2.below bel
  have t1_0 := t1.c0
  have t1_1 := t1.c1
  have t1_2 := t1.c2
  have t1_3 := t1.c3
  go_wp2_with fail
  refine (HS.out _ X Y).mono ?_
  rintro e w2 ⟨rfl, hb⟩
  clear t1_0 t1_1 t1_2 t1_3
  replace t1 := t1.below hb t1.lt
  replace bel := bel.trans (hb.mono bel.size)
  clear hb
  go_wp2_with fail
  go_ret2
  exact ⟨rfl, bel⟩

set_option maxRecDepth 100000 in
set_option maxHeartbeats 3000000 in
theorem log2floor_pos {x y : Int} {n : Nat} {p : Bool} {A : Option Addr} {c : Nat} {l : List Nat} {q : Bool} {B : Option Addr} {d : Nat} {m : List Nat} {w : World} (h1 : Iv w p A c l x n) (h2 : Iv w q B d m y n) {z : Rat} (hz : z = Rat.divInt x y) (hn : n ≤ 20) (hn1 : 1 ≤ n) (hs : z.num.sign = 1) :
    Calls Tryz.prog 14 #[ratV p A l.length c q B m.length d] w (GL z w) := by
  have HS := Lib.hid (fun (W : World) (h1 : Iv W p A c l x n) (h2 : Iv W q B d m y n) => (by have h := grsgn h1 h2 (by omega); rw [← hz, hs] at h; exact h : Calls Tryz.prog 38 #[.agg #[.bool p, .slice A l.length c, .bool q, .slice B m.length d]] W fun e w' => e = .returned (.int .i64 1) ∧ Below W.heap.size W w'))
  have HR := Lib.hid (fun (W : World) (h1 : Iv W p A c l x n) (h2 : Iv W q B d m y n) => (by have h := gratio h1 h2 (by omega) hn1; rw [← hz] at h; exact h : Calls Tryz.prog 39 #[.agg #[.bool p, .slice A l.length c, .bool q, .slice B m.length d]] W (Ra z n W)))
  have HSS := Lib.hid hs
  have HN := Lib.hid hn
  clear hz hs hn hn1
  unfold ratV
  go_enter Tryz.func14, Tryz.ntmps14
  go_wp2_with fail
  have t1 : Four (w.alloc (.cells #[.bool p, .slice A l.length c, .bool q, .slice B m.length d] 26)) w.heap.size (.bool p) (.slice A l.length c) (.bool q) (.slice B m.length d) := Four.new_ w (.bool p) (.slice A l.length c) (.bool q) (.slice B m.length d) 26
  have bel : Below w.heap.size w (w.alloc (.cells #[.bool p, .slice A l.length c, .bool q, .slice B m.length d] 26)) := (Below.refl _ _).alloc (Nat.le_refl _) _
  generalize (w.alloc (.cells #[.bool p, .slice A l.length c, .bool q, .slice B m.length d] 26)) = wx at t1 bel ⊢
  have X := h1.below bel
  have Y := h2.below bel
  have t1_0 := t1.c0
  have t1_1 := t1.c1
  have t1_2 := t1.c2
  have t1_3 := t1.c3
  go_wp2_with fail
  refine (HS.out _ X Y).mono ?_
  rintro e w2 ⟨rfl, hb⟩
  clear t1_0 t1_1 t1_2 t1_3
  replace t1 := t1.below hb t1.lt
  replace bel := bel.trans (hb.mono bel.size)
  clear hb
  replace X := h1.below bel
  replace Y := h2.below bel
  have t1_0 := t1.c0
  have t1_1 := t1.c1
  have t1_2 := t1.c2
  have t1_3 := t1.c3
  go_wp2_with fail
  refine (HR.out _ X Y).mono ?_
  rintro e w3 ⟨p1, A1, c1, l1, q1, B1, d1, m1, x1, y1, rfl, X1, Y1, h0, hz, hb⟩
  clear t1_0 t1_1 t1_2 t1_3
  replace t1 := t1.below hb t1.lt
  replace bel := bel.trans (hb.mono bel.size)
  clear hb
  clear X Y
  have hx0 := num_pos_of h0 hz HSS.out
  obtain ⟨a, ha⟩ : ∃ a, a = bitsOf (Kn.dig x1.natAbs) := ⟨_, rfl⟩
  obtain ⟨b, hb⟩ : ∃ b, b = bitsOf (Kn.dig y1.natAbs) := ⟨_, rfl⟩
  have HB1 := Lib.hid (fun (W : World) (h : Iv W p1 A1 c1 l1 x1 n) => (by have h := gbits h (by have := HN.out; omega); rwa [← ha] at h : Calls Tryz.prog 40 #[.agg #[.bool p1, .slice A1 l1.length c1]] W fun e w' => e = .returned (.int .i64 (a : Int)) ∧ Below W.heap.size W w'))
  have HB2 := Lib.hid (fun (W : World) (h : Iv W q1 B1 d1 m1 y1 n) => (by have h := gbits h (by have := HN.out; omega); rwa [← hb] at h : Calls Tryz.prog 40 #[.agg #[.bool q1, .slice B1 m1.length d1]] W fun e w' => e = .returned (.int .i64 (b : Int)) ∧ Below W.heap.size W w'))
  have LS := log_start (X := x1.natAbs) (Y := y1.natAbs) (by omega) (by omega)
  have ba := bits_le (n := x1.natAbs) (k := n) (by omega) X1.abs
  have bb := bits_le (n := y1.natAbs) (k := n) (by omega) Y1.abs
  rw [← ha, ← hb] at LS
  rw [← ha] at ba
  rw [← hb] at bb
  obtain ⟨k, hk⟩ : ∃ k : Int, k = (a : Int) - (b : Int) := ⟨_, rfl⟩
  rw [← hk] at LS
  have hkb : -640 ≤ k ∧ k ≤ 640 := by have := HN.out; omega
  have kw : IntKind.i64.wrap ((a : Int) - (b : Int)) = k := by rw [← hk]; exact IntWalk.i64_in _ (by omega)
  have HCW := Lib.hid (fun (W : World) (h : Iv W p1 A1 c1 l1 x1 n) (h' : Iv W q1 B1 d1 m1 y1 n) => gcwp (k := k) h h' (by have := HN.out; omega) (by omega))
  have CS := cwp_sign (k := k) h0 hx0
  have HLO := Lib.hid ((isL_of (k := k - 1) h0 hx0 hz).2)
  have HHI := Lib.hid ((isL_of (k := k) h0 hx0 hz).2)
  generalize cwp x1 y1 k = cw at CS HCW
  have HLS := Lib.hid LS
  have HCS := Lib.hid CS
  have HKB := Lib.hid hkb
  clear ha hb hk LS CS h0 hz hx0 ba bb
  go_wp2_with fail
  have hg1 : w.heap.size < w3.heap.size := t1.lt
  have u1 : Two ((w3.alloc (.cells #[.bool p1, .slice A1 l1.length c1] 24)).alloc (.cells #[.bool q1, .slice B1 m1.length d1] 24)) w3.heap.size (.bool p1) (.slice A1 l1.length c1) := (Two.new_ w3 (.bool p1) (.slice A1 l1.length c1) 24).alloc _
  have u2 : Two ((w3.alloc (.cells #[.bool p1, .slice A1 l1.length c1] 24)).alloc (.cells #[.bool q1, .slice B1 m1.length d1] 24)) (w3.heap.size + 1) (.bool q1) (.slice B1 m1.length d1) := by simpa only [World.size_alloc, Nat.add_assoc, Nat.reduceAdd] using Two.new_ (w3.alloc (.cells #[.bool p1, .slice A1 l1.length c1] 24)) (.bool q1) (.slice B1 m1.length d1) 24
  have bn : Below w3.heap.size w3 ((w3.alloc (.cells #[.bool p1, .slice A1 l1.length c1] 24)).alloc (.cells #[.bool q1, .slice B1 m1.length d1] 24)) := ((Below.refl _ _).alloc (Nat.le_refl _) _).alloc (by simp only [World.size_alloc]; omega) _
  replace t1 := t1.below bn t1.lt
  replace bel := bel.trans (bn.mono bel.size)
  replace X1 := X1.below bn
  replace Y1 := Y1.below bn
  clear bn
  generalize ((w3.alloc (.cells #[.bool p1, .slice A1 l1.length c1] 24)).alloc (.cells #[.bool q1, .slice B1 m1.length d1] 24)) = w4 at t1 bel X1 Y1 u1 u2 ⊢
  generalize w3.heap.size = g at t1 bel X1 Y1 u1 u2 hg1 ⊢
  replace t1 := t1.drew
  replace bel := bDrew1 bel
  replace X1 := X1.drew
  replace Y1 := Y1.drew
  replace u1 := u1.drew
  replace u2 := u2.drew
  go_region_held3 (fun w' => w'.cell? ⟨g, 0, none⟩ = some (.bool p1) ∧ w'.cell? ⟨g, 1, none⟩ = some (.slice A1 l1.length c1) ∧ w'.cell? ⟨g + 1, 0, none⟩ = some (.bool q1) ∧ w'.cell? ⟨g + 1, 1, none⟩ = some (.slice B1 m1.length d1))
    (with_reducible exact ⟨u1.c0, u1.c1, u2.c0, u2.c1⟩)
    (first
      | (go_at_call 40; (with_reducible refine (HB1.out _ X1).mono ?_); rintro e wa ⟨rfl, hb⟩; replace t1 := t1.below hb t1.lt; replace bel := bel.trans (hb.mono bel.size); replace X1 := X1.below hb; replace Y1 := Y1.below hb; replace u1 := u1.below hb u1.lt; replace u2 := u2.below hb u2.lt; clear hb)
      | (go_at_call 40; (with_reducible refine (HB2.out _ Y1).mono ?_); rintro e wa ⟨rfl, hb⟩; replace t1 := t1.below hb t1.lt; replace bel := bel.trans (hb.mono bel.size); replace X1 := X1.below hb; replace Y1 := Y1.below hb; replace u1 := u1.below hb u1.lt; replace u2 := u2.below hb u2.lt; clear hb))
  clear kw
  have u1_0 := u1.c0
  have u1_1 := u1.c1
  have u2_0 := u2.c0
  have u2_1 := u2.c1
  go_wp2_with fail
  refine (HCW.out _ X1 Y1).mono ?_
  rintro e w4 ⟨rfl, hb⟩
  clear u1_0 u1_1 u2_0 u2_1
  replace t1 := t1.below hb t1.lt
  replace bel := bel.trans (hb.mono bel.size)
  replace X1 := X1.below hb
  replace Y1 := Y1.below hb
  replace u1 := u1.below hb u1.lt
  replace u2 := u2.below hb u2.lt
  clear hb
  rcases Int.lt_or_le cw 0 with hc | hc
  · have e1 : cw < 0 := hc
    have e2 : decide (cw < 0) = true := decide_eq_true e1
    have HF : Hid (isL z (k - 1)) := Lib.hid (HLO.out ⟨HLS.out.1, by rw [Int.sub_add_cancel]; exact HCS.out.1.1 hc⟩)
    have k1 : -641 ≤ k - 1 ∧ k - 1 ≤ 641 := by omega
    clear hc hkb
    go_wp2_with fail
    go_ret2
    exact ⟨_, rfl, HF.out, by have := HKB.out; omega, by have := HKB.out; omega, bel⟩
  · have e1 : ¬ cw < 0 := by omega
    have e2 : decide (cw < 0) = false := decide_eq_false e1
    have HF : Hid (isL z k) := Lib.hid (HHI.out ⟨Classical.byContradiction fun h => e1 (HCS.out.1.2 h), HLS.out.2⟩)
    clear hc hkb
    go_wp2_with fail
    go_ret2
    exact ⟨_, rfl, HF.out, by have := HKB.out; omega, by have := HKB.out; omega, bel⟩
end Go.Proofs.YtkpomjdablopaaaGreatDoor
/- Walks of package rational: Log2Ceil. -/
namespace Go.Proofs.YtkpomjdablopaaaGreatDoor
open Go.RowKit
set_option linter.unusedVariables false

set_option maxRecDepth 100000 in
set_option maxHeartbeats 3000000 in
theorem log2ceil_pos {x y : Int} {n : Nat} {p : Bool} {A : Option Addr} {c : Nat} {l : List Nat} {q : Bool} {B : Option Addr} {d : Nat} {m : List Nat} {w : World} (h1 : Iv w p A c l x n) (h2 : Iv w q B d m y n) {z : Rat} (hz : z = Rat.divInt x y) (hn : n ≤ 20) (hn1 : 1 ≤ n) (hs : z.num.sign = 1) :
    Calls Tryz.prog 15 #[ratV p A l.length c q B m.length d] w (GC z w) := by
  have HF := Lib.hid (fun (W : World) (h1 : Iv W p A c l x n) (h2 : Iv W q B d m y n) => (log2floor_pos h1 h2 hz hn hn1 hs : Calls Tryz.prog 14 #[.agg #[.bool p, .slice A l.length c, .bool q, .slice B m.length d]] W (GL z W)))
  have HR := Lib.hid (fun (W : World) (h1 : Iv W p A c l x n) (h2 : Iv W q B d m y n) => (by have h := gratio h1 h2 (by omega) hn1; rw [← hz] at h; exact h : Calls Tryz.prog 39 #[.agg #[.bool p, .slice A l.length c, .bool q, .slice B m.length d]] W (Ra z n W)))
  have HSS := Lib.hid hs
  have HN := Lib.hid hn
  clear hz hs hn hn1
  unfold ratV
  go_enter Tryz.func15, Tryz.ntmps15
  go_wp2_with fail
  have t1 : Four (w.alloc (.cells #[.bool p, .slice A l.length c, .bool q, .slice B m.length d] 26)) w.heap.size (.bool p) (.slice A l.length c) (.bool q) (.slice B m.length d) := Four.new_ w (.bool p) (.slice A l.length c) (.bool q) (.slice B m.length d) 26
  have bel : Below w.heap.size w (w.alloc (.cells #[.bool p, .slice A l.length c, .bool q, .slice B m.length d] 26)) := (Below.refl _ _).alloc (Nat.le_refl _) _
  generalize (w.alloc (.cells #[.bool p, .slice A l.length c, .bool q, .slice B m.length d] 26)) = wx at t1 bel ⊢
  have X := h1.below bel
  have Y := h2.below bel
  have t1_0 := t1.c0
  have t1_1 := t1.c1
  have t1_2 := t1.c2
  have t1_3 := t1.c3
  go_wp2_with fail
  refine (HF.out _ X Y).mono ?_
  rintro e w2 ⟨k, rfl, hL, hk0, hk1, hb⟩
  clear t1_0 t1_1 t1_2 t1_3
  replace t1 := t1.below hb t1.lt
  replace bel := bel.trans (hb.mono bel.size)
  clear hb
  have HL := Lib.hid hL
  clear hL
  replace X := h1.below bel
  replace Y := h2.below bel
  have t1_0 := t1.c0
  have t1_1 := t1.c1
  have t1_2 := t1.c2
  have t1_3 := t1.c3
  go_wp2_with fail
  refine (HR.out _ X Y).mono ?_
  rintro e w3 ⟨p1, A1, c1, l1, q1, B1, d1, m1, x1, y1, rfl, X1, Y1, h0, hz, hb⟩
  clear t1_0 t1_1 t1_2 t1_3
  replace t1 := t1.below hb t1.lt
  replace bel := bel.trans (hb.mono bel.size)
  clear hb
  clear X Y
  have hx0 := num_pos_of h0 hz HSS.out
  have HCW := Lib.hid (fun (W : World) (h : Iv W p1 A1 c1 l1 x1 n) (h' : Iv W q1 B1 d1 m1 y1 n) => gcwp (k := k) h h' (by have := HN.out; omega) (by omega))
  have CS := cwp_sign (k := k) h0 hx0
  have hL := (isL_of h0 hx0 hz).1 HL.out
  have HLO := Lib.hid ((isC_of (k := k + 1) h0 hx0 hz).2)
  have HHI := Lib.hid ((isC_of (k := k) h0 hx0 hz).2)
  have LY : Hid (0 < y1.natAbs) := Lib.hid (by omega)
  generalize cwp x1 y1 k = cw at CS HCW
  have HLS := Lib.hid hL
  have HCS := Lib.hid CS
  clear CS h0 hz hx0 hL
  go_upto_region 5 with (fail)
  have hg1 : w.heap.size < w3.heap.size := t1.lt
  have u1 : Two ((w3.alloc (.cells #[.bool p1, .slice A1 l1.length c1] 24)).alloc (.cells #[.bool q1, .slice B1 m1.length d1] 24)) w3.heap.size (.bool p1) (.slice A1 l1.length c1) := (Two.new_ w3 (.bool p1) (.slice A1 l1.length c1) 24).alloc _
  have u2 : Two ((w3.alloc (.cells #[.bool p1, .slice A1 l1.length c1] 24)).alloc (.cells #[.bool q1, .slice B1 m1.length d1] 24)) (w3.heap.size + 1) (.bool q1) (.slice B1 m1.length d1) := by simpa only [World.size_alloc, Nat.add_assoc, Nat.reduceAdd] using Two.new_ (w3.alloc (.cells #[.bool p1, .slice A1 l1.length c1] 24)) (.bool q1) (.slice B1 m1.length d1) 24
  have bn : Below w3.heap.size w3 ((w3.alloc (.cells #[.bool p1, .slice A1 l1.length c1] 24)).alloc (.cells #[.bool q1, .slice B1 m1.length d1] 24)) := ((Below.refl _ _).alloc (Nat.le_refl _) _).alloc (by simp only [World.size_alloc]; omega) _
  replace t1 := t1.below bn t1.lt
  replace bel := bel.trans (bn.mono bel.size)
  replace X1 := X1.below bn
  replace Y1 := Y1.below bn
  clear bn
  generalize ((w3.alloc (.cells #[.bool p1, .slice A1 l1.length c1] 24)).alloc (.cells #[.bool q1, .slice B1 m1.length d1] 24)) = w4 at t1 bel X1 Y1 u1 u2 ⊢
  generalize w3.heap.size = g at t1 bel X1 Y1 u1 u2 hg1 ⊢
  have u1_0 := u1.c0
  have u1_1 := u1.c1
  have u2_0 := u2.c0
  have u2_1 := u2.c1
  go_wp2_with fail
  refine (HCW.out _ X1 Y1).mono ?_
  rintro e w4 ⟨rfl, hb⟩
  clear u1_0 u1_1 u2_0 u2_1
  replace t1 := t1.below hb t1.lt
  replace bel := bel.trans (hb.mono bel.size)
  replace X1 := X1.below hb
  replace Y1 := Y1.below hb
  replace u1 := u1.below hb u1.lt
  replace u2 := u2.below hb u2.lt
  clear hb
  rcases Int.lt_or_le 0 cw with hc | hc
  · have e1 : 0 < cw := hc
    have e2 : decide (0 < cw) = true := decide_eq_true e1
    have HF : Hid (isC z (k + 1)) := Lib.hid (HLO.out ⟨by rw [Int.add_sub_cancel]; exact HCS.out.2.1 hc, fun h => HLS.out.2 (leP_of_lt h)⟩)
    have k1 : -1000 ≤ k + 1 ∧ k + 1 ≤ 1001 := by omega
    clear hc
    go_wp2_with fail
    go_ret2
    exact ⟨_, rfl, HF.out, by omega, by omega, bel⟩
  · have e1 : ¬ 0 < cw := by omega
    have e2 : decide (0 < cw) = false := decide_eq_false e1
    have HF : Hid (isC z k) := Lib.hid (HHI.out ⟨ltP_pred LY.out HLS.out.1, fun h => e1 (HCS.out.2.2 h)⟩)
    have HK0 := Lib.hid hk0
    have HK1 := Lib.hid hk1
    clear hc
    go_wp2_with fail
    go_ret2
    exact ⟨_, rfl, HF.out, by omega, by omega, bel⟩
end Go.Proofs.YtkpomjdablopaaaGreatDoor
/- Walks of package rational: Parse, with a denominator. -/
namespace Go.Proofs.YtkpomjdablopaaaGreatDoor
open Go.RowKit
set_option linter.unusedVariables false

set_option maxRecDepth 100000 in
set_option maxHeartbeats 800000 in
theorem parse_okdp1 {s : ByteArray} (hs : s.size ≤ 100) {a b D B2 : List UInt8} (hcut : Lib.cut (bs s) [47] = (a, b, true)) (hD : Kt.body a = D) (hN : Kt.negB a = false) (hB : (if true = true then b else [49]) = B2) (hV1 : Kt.isNum D = true) (hV2 : Kt.isNum B2 = true) (hy : Kt.valN B2 ≠ 0) (hsD : D.length ≤ 100) (hsB : B2.length ≤ 100) (w : World) (mx : Mx w) :
    Calls Tryz.prog 9 #[.string s] w (GRc (Rat.divInt (((Kt.valN D : Nat) : Int)) ((Kt.valN B2 : Nat) : Int)) 100 w) := by
  have z0 : ¬ (8192 : Int) < (s.size : Int) := by omega
  obtain rfl : b = B2 := by rw [← hB]; rfl
  have g1 := (Kt.isNum_canon hV1).2.1
  have g2 := (Kt.isNum_canon hV2).2.1
  have HCUT := Lib.hid (fun (W : World) (hm : ∃ m, W.cell? ⟨2, 0, none⟩ = some (.int .i64 m)) => (by obtain ⟨m, hm⟩ := hm; refine (Tryz.strings_Cut s ⟨#[47]⟩ m W (by omega) hm).mono ?_; rintro e w' ⟨rfl, n, rfl⟩; exact ⟨by rw [show (⟨#[47]⟩ : ByteArray).data.toList = [47] from rfl, show s.data.toList = bs s from rfl, hcut]; rfl, bDrew (Below.refl _ _) n⟩ : Calls Tryz.prog 24 #[.string s, .string ⟨#[47]⟩] W fun e w' => e = .returned (.tuple #[.string (mkB a), .string (mkB b), .bool true]) ∧ Below W.heap.size W w'))
  have HCP := Lib.hid (fun (W : World) => (by have h := Tryz.strings_CutPrefix (mkB a) ⟨#[45]⟩ W; have e1 := (Kt.cut_body a).1; have e2 := (Kt.cut_body a).2; rw [show (⟨#[45]⟩ : ByteArray).data.toList = [45] from rfl, show (mkB a).data.toList = bs (mkB a) from rfl, bs_mk, e1, e2, hD, hN] at h; exact h.mono fun e w' he => ⟨he.1, by rw [he.2]; exact Below.refl _ _⟩ : Calls Tryz.prog 25 #[.string (mkB a), .string ⟨#[45]⟩] W fun e w' => e = .returned (.tuple #[.string (mkB D), .bool false]) ∧ Below W.heap.size W w'))
  have HI1 := Lib.hid (fun (W : World) => (by have h := isNumberR_any (mkB D) (by rw [mk_size]; omega) W; rw [bs_mk, hV1] at h; exact h : Calls Tryz.prog 26 #[.string (mkB D)] W fun e w' => e = .returned (.bool true) ∧ Below W.heap.size W w'))
  have HI2 := Lib.hid (fun (W : World) => (by have h := isNumberR_any (mkB b) (by rw [mk_size]; omega) W; rw [bs_mk, hV2] at h; exact h : Calls Tryz.prog 26 #[.string (mkB b)] W fun e w' => e = .returned (.bool true) ∧ Below W.heap.size W w'))
  obtain ⟨X, hX⟩ : ∃ X : Int, X = ((Kt.valN D : Nat) : Int) := ⟨_, rfl⟩
  obtain ⟨Y, hY⟩ : ∃ Y : Int, Y = ((Kt.valN b : Nat) : Int) := ⟨_, rfl⟩
  have HN1 := Lib.hid (fun (W : World) => (by have h := number_any (mkB D) (by rw [mk_size]; omega) (by rw [bs_mk]; exact g1) W; rw [bs_mk, mk_size, ← hX] at h; exact h.mono fun _ _ hr => hr.more_ hsD : Calls Tryz.prog 27 #[.string (mkB D)] W (GI X 100 W)))
  have HN2 := Lib.hid (fun (W : World) => (by have h := number_any (mkB b) (by rw [mk_size]; omega) (by rw [bs_mk]; exact g2) W; rw [bs_mk, mk_size, ← hY] at h; exact h.mono fun _ _ hr => hr.more_ hsB : Calls Tryz.prog 27 #[.string (mkB b)] W (GI Y 100 W)))
  obtain ⟨z, hz⟩ : ∃ z, z = Rat.divInt X Y := ⟨_, rfl⟩
  have HNW := Lib.hid (fun (W : World) (p4 : Bool) (A4 : Option Addr) (c4 : Nat) (l4 : List Nat) (p5 : Bool) (A5 : Option Addr) (c5 : Nat) (l5 : List Nat) (h : Cn W p4 A4 c4 l4 X 100) (h' : Cn W p5 A5 c5 l5 Y 100) => (by have h := gnew h.iv h'.iv (by omega) (by decide) (by decide); rw [← hz] at h; exact h : Calls Tryz.prog 29 #[.agg #[.bool p4, .slice A4 l4.length c4], .agg #[.bool p5, .slice A5 l5.length c5]] W (GRc z 100 W)))
  rw [show Rat.divInt (((Kt.valN D : Nat) : Int)) ((Kt.valN b : Nat) : Int) = z by rw [hz, hX, hY]]
  clear hz
  clear hs hcut hD hB hsD hsB hV1 hN hV2 g1 g2 hX hY hy
  go_enter Tryz.func9, Tryz.ntmps9
  go_wp2_with fail
  have t2 : Four (w.alloc (.cells #[.bool false, .slice none 0 0, .bool false, .slice none 0 0] 26)) w.heap.size (.bool false) (.slice none 0 0) (.bool false) (.slice none 0 0) := Four.new_ w (.bool false) (.slice none 0 0) (.bool false) (.slice none 0 0) 26
  have bel : Below w.heap.size w (w.alloc (.cells #[.bool false, .slice none 0 0, .bool false, .slice none 0 0] 26)) := (Below.refl _ _).alloc (Nat.le_refl _) _
  generalize (w.alloc (.cells #[.bool false, .slice none 0 0, .bool false, .slice none 0 0] 26)) = wx at t2 bel ⊢
  have M := mx.below_ bel
  refine (HCUT.out _ M).mono ?_
  rintro e w2 ⟨rfl, hb⟩
  replace t2 := t2.below hb t2.lt
  replace bel := bel.trans (hb.mono bel.size)
  clear hb
  clear M
  go_wp2_with fail
  refine (HCP.out _).mono ?_
  rintro e w3 ⟨rfl, hb⟩
  replace t2 := t2.below hb t2.lt
  replace bel := bel.trans (hb.mono bel.size)
  clear hb
  go_wp2_with fail
  refine (HI1.out _).mono ?_
  rintro e w4 ⟨rfl, hb⟩
  replace t2 := t2.below hb t2.lt
  replace bel := bel.trans (hb.mono bel.size)
  clear hb
  go_wp2_with fail
  refine (HI2.out _).mono ?_
  rintro e w5 ⟨rfl, hb⟩
  replace t2 := t2.below hb t2.lt
  replace bel := bel.trans (hb.mono bel.size)
  clear hb
  go_wp2_with fail
  refine (HN1.out _).mono ?_
  rintro e w6 ⟨p4, A4, c4, l4, rfl, E4, hb⟩
  replace t2 := t2.below hb t2.lt
  replace bel := bel.trans (hb.mono bel.size)
  clear hb
  go_upto_region 10 with (fail)
  have hg8 : w.heap.size < w6.heap.size := t2.lt
  have t8 : Two (w6.alloc (.cells #[.bool p4, .slice A4 l4.length c4] 24)) w6.heap.size (.bool p4) (.slice A4 l4.length c4) := Two.new_ w6 (.bool p4) (.slice A4 l4.length c4) 24
  have bn : Below w6.heap.size w6 (w6.alloc (.cells #[.bool p4, .slice A4 l4.length c4] 24)) := (Below.refl _ _).alloc (Nat.le_refl _) _
  replace t2 := t2.below bn t2.lt
  replace bel := bel.trans (bn.mono bel.size)
  replace E4 := E4.below bn
  clear bn
  generalize (w6.alloc (.cells #[.bool p4, .slice A4 l4.length c4] 24)) = v1 at t2 bel E4 t8 ⊢
  generalize w6.heap.size = g8 at t2 bel E4 t8 hg8 ⊢
  go_upto_region 12 with (fail)
  replace t2 := t2.drew
  replace bel := bDrew1 bel
  replace E4 := E4.drew
  replace t8 := t8.drew
  go_region_held3 (fun w' => w'.cell? ⟨g8, 0, none⟩ = some (.bool p4) ∧ w'.cell? ⟨g8, 1, none⟩ = some (.slice A4 l4.length c4))
    (first | with_reducible exact ⟨t8.c0, t8.c1⟩ | exact ⟨K0.out.c0, K0.out.c1⟩)
    (first
      | (go_at_call 27; (with_reducible refine (HN2.out _).mono ?_); rintro e wa ⟨p7, A7, c7, l7, rfl, E7, hb⟩; replace t2 := t2.below hb t2.lt; replace bel := bel.trans (hb.mono bel.size); replace E4 := E4.below hb; replace t8 := t8.below hb t8.lt; clear hb)
      | (go_at_call 29; (with_reducible refine (HNW.out _ _ _ _ _ _ _ _ _ E4 E7).mono ?_); rintro e wa ⟨A8, c8, l8, A9, c9, l9, rfl, CC, hb⟩; replace t2 := t2.below hb t2.lt; replace bel := bel.trans (hb.mono bel.size); replace t8 := t8.below hb t8.lt; clear hb
         have d0 := t2.c0
         have f0 := t2.fr 0
         have d1 := t2.c1
         have f1 := t2.fr 1
         have d2 := t2.c2
         have f2 := t2.fr 2
         have d3 := t2.c3
         have f3 := t2.fr 3
         have K0 := Lib.hid (t8.far4 (g := w.heap.size) (by omega) (.bool (decide (z.num < 0))) (.slice A8 l8.length c8) (.bool false) (.slice A9 l9.length c9))
         have R := Lib.hid (t2.put (.bool (decide (z.num < 0))) (.slice A8 l8.length c8) (.bool false) (.slice A9 l9.length c9))
         have CR := Lib.hid (CC.put4 t2 (.bool (decide (z.num < 0))) (.slice A8 l8.length c8) (.bool false) (.slice A9 l9.length c9))
         have BL := Lib.hid (below_set4 bel (b := w.heap.size) (by omega) (.bool (decide (z.num < 0))) (.slice A8 l8.length c8) (.bool false) (.slice A9 l9.length c9))))
  go_wp2_with fail
  have r0 := R.out.c0
  have r1 := R.out.c1
  have r2 := R.out.c2
  have r3 := R.out.c3
  unfold set4 at r0 r1 r2 r3
  refine bodyPost_ret (v := .tuple #[.agg #[.bool (decide (z.num < 0)), .slice A8 l8.length c8, .bool false, .slice A9 l9.length c9], .int .i64 0]) (by simp [results, Tryz.results9, go_sem, r0, r1, r2, r3]) rfl ?_
  exact ⟨A8, c8, l8, A9, c9, l9, rfl, CR.out, BL.out⟩

set_option maxRecDepth 100000 in
set_option maxHeartbeats 800000 in
theorem parse_okdm1 {s : ByteArray} (hs : s.size ≤ 100) {a b D B2 : List UInt8} (hcut : Lib.cut (bs s) [47] = (a, b, true)) (hD : Kt.body a = D) (hN : Kt.negB a = true) (hB : (if true = true then b else [49]) = B2) (hV1 : Kt.isNum D = true) (hV2 : Kt.isNum B2 = true) (hZ : (D == [48]) = false) (hy : Kt.valN B2 ≠ 0) (hsD : D.length ≤ 100) (hsB : B2.length ≤ 100) (w : World) (mx : Mx w) :
    Calls Tryz.prog 9 #[.string s] w (GRc (Rat.divInt (-((Kt.valN D : Nat) : Int)) ((Kt.valN B2 : Nat) : Int)) 100 w) := by
  have z0 : ¬ (8192 : Int) < (s.size : Int) := by omega
  obtain rfl : b = B2 := by rw [← hB]; rfl
  have g1 := (Kt.isNum_canon hV1).2.1
  have g2 := (Kt.isNum_canon hV2).2.1
  have HCUT := Lib.hid (fun (W : World) (hm : ∃ m, W.cell? ⟨2, 0, none⟩ = some (.int .i64 m)) => (by obtain ⟨m, hm⟩ := hm; refine (Tryz.strings_Cut s ⟨#[47]⟩ m W (by omega) hm).mono ?_; rintro e w' ⟨rfl, n, rfl⟩; exact ⟨by rw [show (⟨#[47]⟩ : ByteArray).data.toList = [47] from rfl, show s.data.toList = bs s from rfl, hcut]; rfl, bDrew (Below.refl _ _) n⟩ : Calls Tryz.prog 24 #[.string s, .string ⟨#[47]⟩] W fun e w' => e = .returned (.tuple #[.string (mkB a), .string (mkB b), .bool true]) ∧ Below W.heap.size W w'))
  have HCP := Lib.hid (fun (W : World) => (by have h := Tryz.strings_CutPrefix (mkB a) ⟨#[45]⟩ W; have e1 := (Kt.cut_body a).1; have e2 := (Kt.cut_body a).2; rw [show (⟨#[45]⟩ : ByteArray).data.toList = [45] from rfl, show (mkB a).data.toList = bs (mkB a) from rfl, bs_mk, e1, e2, hD, hN] at h; exact h.mono fun e w' he => ⟨he.1, by rw [he.2]; exact Below.refl _ _⟩ : Calls Tryz.prog 25 #[.string (mkB a), .string ⟨#[45]⟩] W fun e w' => e = .returned (.tuple #[.string (mkB D), .bool true]) ∧ Below W.heap.size W w'))
  have HI1 := Lib.hid (fun (W : World) => (by have h := isNumberR_any (mkB D) (by rw [mk_size]; omega) W; rw [bs_mk, hV1] at h; exact h : Calls Tryz.prog 26 #[.string (mkB D)] W fun e w' => e = .returned (.bool true) ∧ Below W.heap.size W w'))
  have HI2 := Lib.hid (fun (W : World) => (by have h := isNumberR_any (mkB b) (by rw [mk_size]; omega) W; rw [bs_mk, hV2] at h; exact h : Calls Tryz.prog 26 #[.string (mkB b)] W fun e w' => e = .returned (.bool true) ∧ Below W.heap.size W w'))
  have q1 : ((mkB D).toList == [48]) = false := by rw [bs_toList, bs_mk]; exact hZ
  obtain ⟨X, hX⟩ : ∃ X : Int, X = ((Kt.valN D : Nat) : Int) := ⟨_, rfl⟩
  obtain ⟨Y, hY⟩ : ∃ Y : Int, Y = ((Kt.valN b : Nat) : Int) := ⟨_, rfl⟩
  have HN1 := Lib.hid (fun (W : World) => (by have h := number_any (mkB D) (by rw [mk_size]; omega) (by rw [bs_mk]; exact g1) W; rw [bs_mk, mk_size, ← hX] at h; exact h.mono fun _ _ hr => hr.more_ hsD : Calls Tryz.prog 27 #[.string (mkB D)] W (GI X 100 W)))
  have HN2 := Lib.hid (fun (W : World) => (by have h := number_any (mkB b) (by rw [mk_size]; omega) (by rw [bs_mk]; exact g2) W; rw [bs_mk, mk_size, ← hY] at h; exact h.mono fun _ _ hr => hr.more_ hsB : Calls Tryz.prog 27 #[.string (mkB b)] W (GI Y 100 W)))
  have HNG := Lib.hid (fun (W : World) (p4 : Bool) (A4 : Option Addr) (c4 : Nat) (l4 : List Nat) (h : Cn W p4 A4 c4 l4 X 100) => gneg h.iv (by decide))
  obtain ⟨z, hz⟩ : ∃ z, z = Rat.divInt (-X) Y := ⟨_, rfl⟩
  have HNW := Lib.hid (fun (W : World) (p4 : Bool) (A4 : Option Addr) (c4 : Nat) (l4 : List Nat) (p5 : Bool) (A5 : Option Addr) (c5 : Nat) (l5 : List Nat) (h : Cn W p4 A4 c4 l4 (-X) 100) (h' : Cn W p5 A5 c5 l5 Y 100) => (by have h := gnew h.iv h'.iv (by omega) (by decide) (by decide); rw [← hz] at h; exact h : Calls Tryz.prog 29 #[.agg #[.bool p4, .slice A4 l4.length c4], .agg #[.bool p5, .slice A5 l5.length c5]] W (GRc z 100 W)))
  rw [show Rat.divInt (-((Kt.valN D : Nat) : Int)) ((Kt.valN b : Nat) : Int) = z by rw [hz, hX, hY]]
  clear hz
  clear hs hcut hD hB hsD hsB hV1 hN hV2 g1 g2 hX hY hy hZ
  go_enter Tryz.func9, Tryz.ntmps9
  go_wp2_with fail
  have t2 : Four (w.alloc (.cells #[.bool false, .slice none 0 0, .bool false, .slice none 0 0] 26)) w.heap.size (.bool false) (.slice none 0 0) (.bool false) (.slice none 0 0) := Four.new_ w (.bool false) (.slice none 0 0) (.bool false) (.slice none 0 0) 26
  have bel : Below w.heap.size w (w.alloc (.cells #[.bool false, .slice none 0 0, .bool false, .slice none 0 0] 26)) := (Below.refl _ _).alloc (Nat.le_refl _) _
  generalize (w.alloc (.cells #[.bool false, .slice none 0 0, .bool false, .slice none 0 0] 26)) = wx at t2 bel ⊢
  have M := mx.below_ bel
  refine (HCUT.out _ M).mono ?_
  rintro e w2 ⟨rfl, hb⟩
  replace t2 := t2.below hb t2.lt
  replace bel := bel.trans (hb.mono bel.size)
  clear hb
  clear M
  go_wp2_with fail
  refine (HCP.out _).mono ?_
  rintro e w3 ⟨rfl, hb⟩
  replace t2 := t2.below hb t2.lt
  replace bel := bel.trans (hb.mono bel.size)
  clear hb
  go_wp2_with fail
  refine (HI1.out _).mono ?_
  rintro e w4 ⟨rfl, hb⟩
  replace t2 := t2.below hb t2.lt
  replace bel := bel.trans (hb.mono bel.size)
  clear hb
  go_wp2_with fail
  refine (HI2.out _).mono ?_
  rintro e w5 ⟨rfl, hb⟩
  replace t2 := t2.below hb t2.lt
  replace bel := bel.trans (hb.mono bel.size)
  clear hb
  go_wp2_with fail
  refine (HN1.out _).mono ?_
  rintro e w6 ⟨p4, A4, c4, l4, rfl, E4, hb⟩
  replace t2 := t2.below hb t2.lt
  replace bel := bel.trans (hb.mono bel.size)
  clear hb
  go_upto_region 10 with (fail)
  have hg8 : w.heap.size < w6.heap.size := t2.lt
  have t8 : Two (w6.alloc (.cells #[.bool p4, .slice A4 l4.length c4] 24)) w6.heap.size (.bool p4) (.slice A4 l4.length c4) := Two.new_ w6 (.bool p4) (.slice A4 l4.length c4) 24
  have bn : Below w6.heap.size w6 (w6.alloc (.cells #[.bool p4, .slice A4 l4.length c4] 24)) := (Below.refl _ _).alloc (Nat.le_refl _) _
  replace t2 := t2.below bn t2.lt
  replace bel := bel.trans (bn.mono bel.size)
  replace E4 := E4.below bn
  clear bn
  generalize (w6.alloc (.cells #[.bool p4, .slice A4 l4.length c4] 24)) = v1 at t2 bel E4 t8 ⊢
  generalize w6.heap.size = g8 at t2 bel E4 t8 hg8 ⊢
  have t8_0 := t8.c0
  have t8_1 := t8.c1
  go_wp2_with fail
  refine (HNG.out _ _ _ _ _ E4).mono ?_
  rintro e w7 ⟨p6, A6, c6, l6, rfl, E6, hb⟩
  clear t8_0 t8_1
  clear E4
  replace t2 := t2.below hb t2.lt
  replace bel := bel.trans (hb.mono bel.size)
  replace t8 := t8.below hb t8.lt
  clear hb
  have t8_0 := t8.c0
  have t8_1 := t8.c1
  have fa := t8.fr 0
  have fb := t8.fr 1
  go_upto_region 12 with (fail)
  clear fa fb
  clear t8_0 t8_1
  replace t2 := t2.far2 (g := g8) (by omega) (.bool p6) (.slice A6 l6.length c6)
  replace bel := below_set2 bel (b := g8) (by omega) (.bool p6) (.slice A6 l6.length c6)
  replace E6 := E6.put2 t8 (.bool p6) (.slice A6 l6.length c6)
  replace t8 := t8.put2 (.bool p6) (.slice A6 l6.length c6)
  dsimp only [set2] at t2 bel t8 E6
  generalize ((w7.setCell ⟨g8, 0, none⟩ (.bool p6)).setCell ⟨g8, 1, none⟩ (.slice A6 l6.length c6)) = v2 at t2 bel t8 E6 ⊢
  replace t2 := t2.drew
  replace bel := bDrew1 bel
  replace t8 := t8.drew
  replace E6 := E6.drew
  go_region_held3 (fun w' => w'.cell? ⟨g8, 0, none⟩ = some (.bool p6) ∧ w'.cell? ⟨g8, 1, none⟩ = some (.slice A6 l6.length c6))
    (first | with_reducible exact ⟨t8.c0, t8.c1⟩ | exact ⟨K0.out.c0, K0.out.c1⟩)
    (first
      | (go_at_call 27; (with_reducible refine (HN2.out _).mono ?_); rintro e wa ⟨p7, A7, c7, l7, rfl, E7, hb⟩; replace t2 := t2.below hb t2.lt; replace bel := bel.trans (hb.mono bel.size); replace t8 := t8.below hb t8.lt; replace E6 := E6.below hb; clear hb)
      | (go_at_call 29; (with_reducible refine (HNW.out _ _ _ _ _ _ _ _ _ E6 E7).mono ?_); rintro e wa ⟨A8, c8, l8, A9, c9, l9, rfl, CC, hb⟩; replace t2 := t2.below hb t2.lt; replace bel := bel.trans (hb.mono bel.size); replace t8 := t8.below hb t8.lt; clear hb
         have d0 := t2.c0
         have f0 := t2.fr 0
         have d1 := t2.c1
         have f1 := t2.fr 1
         have d2 := t2.c2
         have f2 := t2.fr 2
         have d3 := t2.c3
         have f3 := t2.fr 3
         have K0 := Lib.hid (t8.far4 (g := w.heap.size) (by omega) (.bool (decide (z.num < 0))) (.slice A8 l8.length c8) (.bool false) (.slice A9 l9.length c9))
         have R := Lib.hid (t2.put (.bool (decide (z.num < 0))) (.slice A8 l8.length c8) (.bool false) (.slice A9 l9.length c9))
         have CR := Lib.hid (CC.put4 t2 (.bool (decide (z.num < 0))) (.slice A8 l8.length c8) (.bool false) (.slice A9 l9.length c9))
         have BL := Lib.hid (below_set4 bel (b := w.heap.size) (by omega) (.bool (decide (z.num < 0))) (.slice A8 l8.length c8) (.bool false) (.slice A9 l9.length c9))))
  go_wp2_with fail
  have r0 := R.out.c0
  have r1 := R.out.c1
  have r2 := R.out.c2
  have r3 := R.out.c3
  unfold set4 at r0 r1 r2 r3
  refine bodyPost_ret (v := .tuple #[.agg #[.bool (decide (z.num < 0)), .slice A8 l8.length c8, .bool false, .slice A9 l9.length c9], .int .i64 0]) (by simp [results, Tryz.results9, go_sem, r0, r1, r2, r3]) rfl ?_
  exact ⟨A8, c8, l8, A9, c9, l9, rfl, CR.out, BL.out⟩
end Go.Proofs.YtkpomjdablopaaaGreatDoor
/- Walks of package rational: Parse, syntax errors. -/
namespace Go.Proofs.YtkpomjdablopaaaGreatDoor
open Go.RowKit
set_option linter.unusedVariables false

set_option maxRecDepth 100000 in
set_option maxHeartbeats 800000 in
theorem parse_bad1d {s : ByteArray} (hs : s.size ≤ 100) {a b D B2 : List UInt8} {N : Bool} (hcut : Lib.cut (bs s) [47] = (a, b, true)) (hD : Kt.body a = D) (hN : Kt.negB a = N) (hB : (if true = true then b else [49]) = B2) (hV1 : Kt.isNum D = false) (hsD : D.length ≤ 100) (hsB : B2.length ≤ 100) (w : World) (mx : Mx w) :
    Calls Tryz.prog 9 #[.string s] w fun e w' => e = .returned (.tuple #[ratV false none 0 0 false none 0 0, .int .i64 6]) ∧ Below w.heap.size w w' := by
  unfold ratV
  have z0 : ¬ (8192 : Int) < (s.size : Int) := by omega
  obtain rfl : b = B2 := by rw [← hB]; rfl
  have HCUT := Lib.hid (fun (W : World) (hm : ∃ m, W.cell? ⟨2, 0, none⟩ = some (.int .i64 m)) => (by obtain ⟨m, hm⟩ := hm; refine (Tryz.strings_Cut s ⟨#[47]⟩ m W (by omega) hm).mono ?_; rintro e w' ⟨rfl, n, rfl⟩; exact ⟨by rw [show (⟨#[47]⟩ : ByteArray).data.toList = [47] from rfl, show s.data.toList = bs s from rfl, hcut]; rfl, bDrew (Below.refl _ _) n⟩ : Calls Tryz.prog 24 #[.string s, .string ⟨#[47]⟩] W fun e w' => e = .returned (.tuple #[.string (mkB a), .string (mkB b), .bool true]) ∧ Below W.heap.size W w'))
  have HCP := Lib.hid (fun (W : World) => (by have h := Tryz.strings_CutPrefix (mkB a) ⟨#[45]⟩ W; have e1 := (Kt.cut_body a).1; have e2 := (Kt.cut_body a).2; rw [show (⟨#[45]⟩ : ByteArray).data.toList = [45] from rfl, show (mkB a).data.toList = bs (mkB a) from rfl, bs_mk, e1, e2, hD, hN] at h; exact h.mono fun e w' he => ⟨he.1, by rw [he.2]; exact Below.refl _ _⟩ : Calls Tryz.prog 25 #[.string (mkB a), .string ⟨#[45]⟩] W fun e w' => e = .returned (.tuple #[.string (mkB D), .bool N]) ∧ Below W.heap.size W w'))
  have HI1 := Lib.hid (fun (W : World) => (by have h := isNumberR_any (mkB D) (by rw [mk_size]; omega) W; rw [bs_mk, hV1] at h; exact h : Calls Tryz.prog 26 #[.string (mkB D)] W fun e w' => e = .returned (.bool false) ∧ Below W.heap.size W w'))
  clear hs hcut hD hB hsD hsB hV1 hN
  go_enter Tryz.func9, Tryz.ntmps9
  go_wp2_with fail
  have t2 : Four (w.alloc (.cells #[.bool false, .slice none 0 0, .bool false, .slice none 0 0] 26)) w.heap.size (.bool false) (.slice none 0 0) (.bool false) (.slice none 0 0) := Four.new_ w (.bool false) (.slice none 0 0) (.bool false) (.slice none 0 0) 26
  have bel : Below w.heap.size w (w.alloc (.cells #[.bool false, .slice none 0 0, .bool false, .slice none 0 0] 26)) := (Below.refl _ _).alloc (Nat.le_refl _) _
  generalize (w.alloc (.cells #[.bool false, .slice none 0 0, .bool false, .slice none 0 0] 26)) = wx at t2 bel ⊢
  have M := mx.below_ bel
  refine (HCUT.out _ M).mono ?_
  rintro e w2 ⟨rfl, hb⟩
  replace t2 := t2.below hb t2.lt
  replace bel := bel.trans (hb.mono bel.size)
  clear hb
  clear M
  go_wp2_with fail
  refine (HCP.out _).mono ?_
  rintro e w3 ⟨rfl, hb⟩
  replace t2 := t2.below hb t2.lt
  replace bel := bel.trans (hb.mono bel.size)
  clear hb
  go_wp2_with fail
  refine (HI1.out _).mono ?_
  rintro e w4 ⟨rfl, hb⟩
  replace t2 := t2.below hb t2.lt
  replace bel := bel.trans (hb.mono bel.size)
  clear hb
  have d0 := t2.c0
  have d1 := t2.c1
  have d2 := t2.c2
  have d3 := t2.c3
  have f0 := t2.fr 0
  have f1 := t2.fr 1
  have f2 := t2.fr 2
  have f3 := t2.fr 3
  have R := Lib.hid (t2.put (.bool false) (.slice none 0 0) (.bool false) (.slice none 0 0))
  have BL := Lib.hid (below_set4 bel (b := w.heap.size) (by omega) (.bool false) (.slice none 0 0) (.bool false) (.slice none 0 0))
  clear t2 bel
  go_wp2_with fail
  have r0 := R.out.c0
  have r1 := R.out.c1
  have r2 := R.out.c2
  have r3 := R.out.c3
  unfold set4 at r0 r1 r2 r3
  refine bodyPost_ret (v := .tuple #[.agg #[.bool false, .slice none 0 0, .bool false, .slice none 0 0], .int .i64 6]) (by simp [results, Tryz.results9, go_sem, r0, r1, r2, r3]) rfl ?_
  exact ⟨rfl, BL.out⟩

set_option maxRecDepth 100000 in
set_option maxHeartbeats 800000 in
theorem parse_bad2d {s : ByteArray} (hs : s.size ≤ 100) {a b D B2 : List UInt8} {N : Bool} (hcut : Lib.cut (bs s) [47] = (a, b, true)) (hD : Kt.body a = D) (hN : Kt.negB a = N) (hB : (if true = true then b else [49]) = B2) (hV1 : Kt.isNum D = true) (hV2 : Kt.isNum B2 = false) (hsD : D.length ≤ 100) (hsB : B2.length ≤ 100) (w : World) (mx : Mx w) :
    Calls Tryz.prog 9 #[.string s] w fun e w' => e = .returned (.tuple #[ratV false none 0 0 false none 0 0, .int .i64 6]) ∧ Below w.heap.size w w' := by
  unfold ratV
  have z0 : ¬ (8192 : Int) < (s.size : Int) := by omega
  obtain rfl : b = B2 := by rw [← hB]; rfl
  have HCUT := Lib.hid (fun (W : World) (hm : ∃ m, W.cell? ⟨2, 0, none⟩ = some (.int .i64 m)) => (by obtain ⟨m, hm⟩ := hm; refine (Tryz.strings_Cut s ⟨#[47]⟩ m W (by omega) hm).mono ?_; rintro e w' ⟨rfl, n, rfl⟩; exact ⟨by rw [show (⟨#[47]⟩ : ByteArray).data.toList = [47] from rfl, show s.data.toList = bs s from rfl, hcut]; rfl, bDrew (Below.refl _ _) n⟩ : Calls Tryz.prog 24 #[.string s, .string ⟨#[47]⟩] W fun e w' => e = .returned (.tuple #[.string (mkB a), .string (mkB b), .bool true]) ∧ Below W.heap.size W w'))
  have HCP := Lib.hid (fun (W : World) => (by have h := Tryz.strings_CutPrefix (mkB a) ⟨#[45]⟩ W; have e1 := (Kt.cut_body a).1; have e2 := (Kt.cut_body a).2; rw [show (⟨#[45]⟩ : ByteArray).data.toList = [45] from rfl, show (mkB a).data.toList = bs (mkB a) from rfl, bs_mk, e1, e2, hD, hN] at h; exact h.mono fun e w' he => ⟨he.1, by rw [he.2]; exact Below.refl _ _⟩ : Calls Tryz.prog 25 #[.string (mkB a), .string ⟨#[45]⟩] W fun e w' => e = .returned (.tuple #[.string (mkB D), .bool N]) ∧ Below W.heap.size W w'))
  have HI1 := Lib.hid (fun (W : World) => (by have h := isNumberR_any (mkB D) (by rw [mk_size]; omega) W; rw [bs_mk, hV1] at h; exact h : Calls Tryz.prog 26 #[.string (mkB D)] W fun e w' => e = .returned (.bool true) ∧ Below W.heap.size W w'))
  have HI2 := Lib.hid (fun (W : World) => (by have h := isNumberR_any (mkB b) (by rw [mk_size]; omega) W; rw [bs_mk, hV2] at h; exact h : Calls Tryz.prog 26 #[.string (mkB b)] W fun e w' => e = .returned (.bool false) ∧ Below W.heap.size W w'))
  clear hs hcut hD hB hsD hsB hV1 hN hV2
  go_enter Tryz.func9, Tryz.ntmps9
  go_wp2_with fail
  have t2 : Four (w.alloc (.cells #[.bool false, .slice none 0 0, .bool false, .slice none 0 0] 26)) w.heap.size (.bool false) (.slice none 0 0) (.bool false) (.slice none 0 0) := Four.new_ w (.bool false) (.slice none 0 0) (.bool false) (.slice none 0 0) 26
  have bel : Below w.heap.size w (w.alloc (.cells #[.bool false, .slice none 0 0, .bool false, .slice none 0 0] 26)) := (Below.refl _ _).alloc (Nat.le_refl _) _
  generalize (w.alloc (.cells #[.bool false, .slice none 0 0, .bool false, .slice none 0 0] 26)) = wx at t2 bel ⊢
  have M := mx.below_ bel
  refine (HCUT.out _ M).mono ?_
  rintro e w2 ⟨rfl, hb⟩
  replace t2 := t2.below hb t2.lt
  replace bel := bel.trans (hb.mono bel.size)
  clear hb
  clear M
  go_wp2_with fail
  refine (HCP.out _).mono ?_
  rintro e w3 ⟨rfl, hb⟩
  replace t2 := t2.below hb t2.lt
  replace bel := bel.trans (hb.mono bel.size)
  clear hb
  go_wp2_with fail
  refine (HI1.out _).mono ?_
  rintro e w4 ⟨rfl, hb⟩
  replace t2 := t2.below hb t2.lt
  replace bel := bel.trans (hb.mono bel.size)
  clear hb
  go_wp2_with fail
  refine (HI2.out _).mono ?_
  rintro e w5 ⟨rfl, hb⟩
  replace t2 := t2.below hb t2.lt
  replace bel := bel.trans (hb.mono bel.size)
  clear hb
  have d0 := t2.c0
  have d1 := t2.c1
  have d2 := t2.c2
  have d3 := t2.c3
  have f0 := t2.fr 0
  have f1 := t2.fr 1
  have f2 := t2.fr 2
  have f3 := t2.fr 3
  have R := Lib.hid (t2.put (.bool false) (.slice none 0 0) (.bool false) (.slice none 0 0))
  have BL := Lib.hid (below_set4 bel (b := w.heap.size) (by omega) (.bool false) (.slice none 0 0) (.bool false) (.slice none 0 0))
  clear t2 bel
  go_wp2_with fail
  have r0 := R.out.c0
  have r1 := R.out.c1
  have r2 := R.out.c2
  have r3 := R.out.c3
  unfold set4 at r0 r1 r2 r3
  refine bodyPost_ret (v := .tuple #[.agg #[.bool false, .slice none 0 0, .bool false, .slice none 0 0], .int .i64 6]) (by simp [results, Tryz.results9, go_sem, r0, r1, r2, r3]) rfl ?_
  exact ⟨rfl, BL.out⟩

set_option maxRecDepth 100000 in
set_option maxHeartbeats 800000 in
theorem parse_bad3d {s : ByteArray} (hs : s.size ≤ 100) {a b D B2 : List UInt8} (hcut : Lib.cut (bs s) [47] = (a, b, true)) (hD : Kt.body a = D) (hN : Kt.negB a = true) (hB : (if true = true then b else [49]) = B2) (hV1 : Kt.isNum D = true) (hV2 : Kt.isNum B2 = true) (hZ : (D == [48]) = true) (hsD : D.length ≤ 100) (hsB : B2.length ≤ 100) (w : World) (mx : Mx w) :
    Calls Tryz.prog 9 #[.string s] w fun e w' => e = .returned (.tuple #[ratV false none 0 0 false none 0 0, .int .i64 6]) ∧ Below w.heap.size w w' := by
  unfold ratV
  have z0 : ¬ (8192 : Int) < (s.size : Int) := by omega
  obtain rfl : b = B2 := by rw [← hB]; rfl
  have HCUT := Lib.hid (fun (W : World) (hm : ∃ m, W.cell? ⟨2, 0, none⟩ = some (.int .i64 m)) => (by obtain ⟨m, hm⟩ := hm; refine (Tryz.strings_Cut s ⟨#[47]⟩ m W (by omega) hm).mono ?_; rintro e w' ⟨rfl, n, rfl⟩; exact ⟨by rw [show (⟨#[47]⟩ : ByteArray).data.toList = [47] from rfl, show s.data.toList = bs s from rfl, hcut]; rfl, bDrew (Below.refl _ _) n⟩ : Calls Tryz.prog 24 #[.string s, .string ⟨#[47]⟩] W fun e w' => e = .returned (.tuple #[.string (mkB a), .string (mkB b), .bool true]) ∧ Below W.heap.size W w'))
  have HCP := Lib.hid (fun (W : World) => (by have h := Tryz.strings_CutPrefix (mkB a) ⟨#[45]⟩ W; have e1 := (Kt.cut_body a).1; have e2 := (Kt.cut_body a).2; rw [show (⟨#[45]⟩ : ByteArray).data.toList = [45] from rfl, show (mkB a).data.toList = bs (mkB a) from rfl, bs_mk, e1, e2, hD, hN] at h; exact h.mono fun e w' he => ⟨he.1, by rw [he.2]; exact Below.refl _ _⟩ : Calls Tryz.prog 25 #[.string (mkB a), .string ⟨#[45]⟩] W fun e w' => e = .returned (.tuple #[.string (mkB D), .bool true]) ∧ Below W.heap.size W w'))
  have HI1 := Lib.hid (fun (W : World) => (by have h := isNumberR_any (mkB D) (by rw [mk_size]; omega) W; rw [bs_mk, hV1] at h; exact h : Calls Tryz.prog 26 #[.string (mkB D)] W fun e w' => e = .returned (.bool true) ∧ Below W.heap.size W w'))
  have HI2 := Lib.hid (fun (W : World) => (by have h := isNumberR_any (mkB b) (by rw [mk_size]; omega) W; rw [bs_mk, hV2] at h; exact h : Calls Tryz.prog 26 #[.string (mkB b)] W fun e w' => e = .returned (.bool true) ∧ Below W.heap.size W w'))
  have q1 : ((mkB D).toList == [48]) = true := by rw [bs_toList, bs_mk]; exact hZ
  clear hs hcut hD hB hsD hsB hV1 hV2 hN hZ
  go_enter Tryz.func9, Tryz.ntmps9
  go_wp2_with fail
  have t2 : Four (w.alloc (.cells #[.bool false, .slice none 0 0, .bool false, .slice none 0 0] 26)) w.heap.size (.bool false) (.slice none 0 0) (.bool false) (.slice none 0 0) := Four.new_ w (.bool false) (.slice none 0 0) (.bool false) (.slice none 0 0) 26
  have bel : Below w.heap.size w (w.alloc (.cells #[.bool false, .slice none 0 0, .bool false, .slice none 0 0] 26)) := (Below.refl _ _).alloc (Nat.le_refl _) _
  generalize (w.alloc (.cells #[.bool false, .slice none 0 0, .bool false, .slice none 0 0] 26)) = wx at t2 bel ⊢
  have M := mx.below_ bel
  refine (HCUT.out _ M).mono ?_
  rintro e w2 ⟨rfl, hb⟩
  replace t2 := t2.below hb t2.lt
  replace bel := bel.trans (hb.mono bel.size)
  clear hb
  clear M
  go_wp2_with fail
  refine (HCP.out _).mono ?_
  rintro e w3 ⟨rfl, hb⟩
  replace t2 := t2.below hb t2.lt
  replace bel := bel.trans (hb.mono bel.size)
  clear hb
  go_wp2_with fail
  refine (HI1.out _).mono ?_
  rintro e w4 ⟨rfl, hb⟩
  replace t2 := t2.below hb t2.lt
  replace bel := bel.trans (hb.mono bel.size)
  clear hb
  go_wp2_with fail
  refine (HI2.out _).mono ?_
  rintro e w5 ⟨rfl, hb⟩
  replace t2 := t2.below hb t2.lt
  replace bel := bel.trans (hb.mono bel.size)
  clear hb
  have d0 := t2.c0
  have d1 := t2.c1
  have d2 := t2.c2
  have d3 := t2.c3
  have f0 := t2.fr 0
  have f1 := t2.fr 1
  have f2 := t2.fr 2
  have f3 := t2.fr 3
  have R := Lib.hid (t2.put (.bool false) (.slice none 0 0) (.bool false) (.slice none 0 0))
  have BL := Lib.hid (below_set4 bel (b := w.heap.size) (by omega) (.bool false) (.slice none 0 0) (.bool false) (.slice none 0 0))
  clear t2 bel
  go_wp2_with fail
  have r0 := R.out.c0
  have r1 := R.out.c1
  have r2 := R.out.c2
  have r3 := R.out.c3
  unfold set4 at r0 r1 r2 r3
  refine bodyPost_ret (v := .tuple #[.agg #[.bool false, .slice none 0 0, .bool false, .slice none 0 0], .int .i64 6]) (by simp [results, Tryz.results9, go_sem, r0, r1, r2, r3]) rfl ?_
  exact ⟨rfl, BL.out⟩
end Go.Proofs.YtkpomjdablopaaaGreatDoor
/- Walks of package rational: known of the laws. -/
namespace Go.Proofs.YtkpomjdablopaaaGreatDoor
open Go.RowKit
set_option linter.unusedVariables false

theorem kz1 : Rat.divInt (-((Kt.valN [49, 48] : Nat) : Int)) ((Kt.valN [52] : Nat) : Int) = mkRat (-5) 2 := by decide +kernel
theorem kz2 : Rat.divInt 1 2 = mkRat 1 2 := by decide +kernel
theorem kz3 : Rat.divInt (-1) (-3) = mkRat 1 3 := by decide +kernel
theorem kz4 : mkRat 1 2 + mkRat 1 3 = mkRat 5 6 := by decide +kernel
theorem kt1 : (⟨(rtxt (mkRat (-5) 2)).toArray⟩ : ByteArray) = ⟨#[45, 53, 47, 50]⟩ := by
  have e1 : (mkRat (-5) 2).num = -((5 : Nat) : Int) := by decide +kernel
  have e2 : (mkRat (-5) 2).den = 2 := by decide +kernel
  unfold rtxt
  rw [if_neg (by rw [e2]; decide), e1, e2, Lib.itoa_neg 5 (by decide), Lib.itoa_nonneg, Lib.decDigits_one (by decide), Lib.decDigits_one (by decide)]
  rfl
theorem kt2 : (⟨(rtxt (mkRat 5 6)).toArray⟩ : ByteArray) = ⟨#[53, 47, 54]⟩ := by
  have e1 : (mkRat 5 6).num = ((5 : Nat) : Int) := by decide +kernel
  have e2 : (mkRat 5 6).den = 6 := by decide +kernel
  unfold rtxt
  rw [if_neg (by rw [e2]; decide), e1, e2, Lib.itoa_nonneg, Lib.itoa_nonneg, Lib.decDigits_one (by decide), Lib.decDigits_one (by decide)]
  rfl
theorem kc : isC (mkRat 1 2) (-1) := by
  have e1 : (mkRat 1 2).num.natAbs = 1 := by decide +kernel
  have e2 : (mkRat 1 2).den = 2 := by decide +kernel
  unfold isC ltP
  rw [e1, e2]
  decide

set_option maxRecDepth 100000 in
set_option maxHeartbeats 2000000 in
theorem rknown_ok (w : World) (ht : Tabs w) (mx : Mx w) : Calls Tryz.prog 6 #[] w fun e w' => e = .returned (.bool true) ∧ Below w.heap.size w w' := by
  have HP1 := Lib.hid (fun (W : World) (mx : Mx W) => (by have h := parse_okdm1 (s := ⟨#[45, 49, 48, 47, 52]⟩) (by decide) (a := [45, 49, 48]) (b := [52]) (D := [49, 48]) (B2 := [52]) (by decide) (by decide) (by decide) (by decide) (by decide) (by decide) (by decide) (by decide) (by decide) (by decide) W mx; rw [kz1] at h; exact h : Calls Tryz.prog 9 #[.string ⟨#[45, 49, 48, 47, 52]⟩] W (GRc (mkRat (-5) 2) 100 W)))
  have HP2 := Lib.hid (fun (W : World) (mx : Mx W) => (parse_bad2d (s := ⟨#[49, 48, 47, 45, 52]⟩) (by decide) (a := [49, 48]) (b := [45, 52]) (D := [49, 48]) (B2 := [45, 52]) (N := false) (by decide) (by decide) (by decide) (by decide) (by decide) (by decide) (by decide) (by decide) W mx : Calls Tryz.prog 9 #[.string ⟨#[49, 48, 47, 45, 52]⟩] W fun e w' => e = .returned (.tuple #[.agg #[.bool false, .slice none 0 0, .bool false, .slice none 0 0], .int .i64 6]) ∧ Below W.heap.size W w'))
  have HO1 := Lib.hid (fun (W : World) => (by have h := gofr (a := 1) (b := 2) (by decide) (by decide) (by decide) W; rw [kz2] at h; exact h : Calls Tryz.prog 18 #[.int .i64 1, .int .i64 2] W (GRc (mkRat 1 2) 2 W)))
  have HO2 := Lib.hid (fun (W : World) => (by have h := gofr (a := -1) (b := -3) (by decide) (by decide) (by decide) W; rw [kz3] at h; exact h : Calls Tryz.prog 18 #[.int .i64 (-1), .int .i64 (-3)] W (GRc (mkRat 1 3) 2 W)))
  have HLC := Lib.hid (fun (W : World) (A : Option Addr) (c : Nat) (l : List Nat) (B : Option Addr) (d : Nat) (m : List Nat) (h : Cr W A c l B d m (mkRat 1 2) 2) => (log2ceil_pos h.a.iv h.b.iv (rq_self _).symm (by decide) (by decide) (by decide) : Calls Tryz.prog 15 #[.agg #[.bool (decide ((mkRat 1 2 : Rat).num < 0)), .slice A l.length c, .bool false, .slice B m.length d]] W (GC (mkRat 1 2) W)))
  have HRD := Lib.hid (fun (W : World) => (reduce_ok 6 4 (by decide) (by decide) (by decide) W : Calls Tryz.prog 19 #[.int .i64 6, .int .i64 4] W (FrRes 3 2 0 W)))
  have HT1 := Lib.hid (fun (W : World) (A : Option Addr) (c : Nat) (l : List Nat) (B : Option Addr) (d : Nat) (m : List Nat) (ht : Tabs W) (h : Cr W A c l B d m (mkRat (-5) 2) 100) => (by have h := grtext (cn_re (k := 10) h.a (by decide +kernel)).iv (cn_re (k := 10) h.b (by decide +kernel)).iv (by decide) (by decide) ht; rw [rq_self, kt1] at h; exact h : Calls Tryz.prog 8 #[.agg #[.bool (decide ((mkRat (-5) 2 : Rat).num < 0)), .slice A l.length c, .bool false, .slice B m.length d]] W fun e w' => e = .returned (.string ⟨#[45, 53, 47, 50]⟩) ∧ Below W.heap.size W w'))
  have HAD := Lib.hid (fun (W : World) (A : Option Addr) (c : Nat) (l : List Nat) (B : Option Addr) (d : Nat) (m : List Nat) (A' : Option Addr) (c' : Nat) (l' : List Nat) (B' : Option Addr) (d' : Nat) (m' : List Nat) (h : Cr W A c l B d m (mkRat 1 2) 2) (h' : Cr W A' c' l' B' d' m' (mkRat 1 3) 2) => (by have h := graddr h.a.iv h.b.iv h'.a.iv h'.b.iv (by decide) (by decide) (by decide) (by decide); rw [rq_self, rq_self, kz4] at h; exact h : Calls Tryz.prog 20 #[.agg #[.bool (decide ((mkRat 1 2 : Rat).num < 0)), .slice A l.length c, .bool false, .slice B m.length d], .agg #[.bool (decide ((mkRat 1 3 : Rat).num < 0)), .slice A' l'.length c', .bool false, .slice B' m'.length d']] W (GR (mkRat 5 6) 5 W)))
  have HT2 := Lib.hid (fun (W : World) (A : Option Addr) (c : Nat) (l : List Nat) (B : Option Addr) (d : Nat) (m : List Nat) (ht : Tabs W) (h : Cr W A c l B d m (mkRat 5 6) 5) => (by have h := grtext (cn_re (k := 10) h.a (by decide +kernel)).iv (cn_re (k := 10) h.b (by decide +kernel)).iv (by decide) (by decide) ht; rw [rq_self, kt2] at h; exact h : Calls Tryz.prog 8 #[.agg #[.bool (decide ((mkRat 5 6 : Rat).num < 0)), .slice A l.length c, .bool false, .slice B m.length d]] W fun e w' => e = .returned (.string ⟨#[53, 47, 54]⟩) ∧ Below W.heap.size W w'))
  obtain ⟨za, hza⟩ : ∃ z : Rat, z = mkRat (-5) 2 := ⟨_, rfl⟩
  obtain ⟨zb, hzb⟩ : ∃ z : Rat, z = mkRat 1 2 := ⟨_, rfl⟩
  obtain ⟨zc, hzc⟩ : ∃ z : Rat, z = mkRat 1 3 := ⟨_, rfl⟩
  obtain ⟨zd, hzd⟩ : ∃ z : Rat, z = mkRat 5 6 := ⟨_, rfl⟩
  have HCU := Lib.hid (fun (k : Int) (h : isC (mkRat 1 2) k) => isC_uniq h kc)
  rw [← hza] at HP1 HT1
  rw [← hzb] at HO1 HLC HAD HCU
  rw [← hzc] at HO2 HAD
  rw [← hzd] at HAD HT2
  clear hza hzb hzc hzd
  have bel : Below w.heap.size w w := Below.refl _ _
  have M := mx
  go_enter Tryz.func6, Tryz.ntmps6
  go_wp2_with fail
  refine (HP1.out _ M).mono ?_
  rintro e w2 ⟨A1, c1, l1, B1, d1, m1, rfl, C1, hb⟩
  replace bel := bel.trans (hb.mono bel.size)
  clear hb
  go_upto_region 2 with (fail)
  have t1 : Four (w2.alloc (.cells #[.bool (decide (za.num < 0)), .slice A1 l1.length c1, .bool false, .slice B1 m1.length d1] 26)) w2.heap.size (.bool (decide (za.num < 0))) (.slice A1 l1.length c1) (.bool false) (.slice B1 m1.length d1) := Four.new_ w2 (.bool (decide (za.num < 0))) (.slice A1 l1.length c1) (.bool false) (.slice B1 m1.length d1) 26
  have bn : Below w2.heap.size w2 (w2.alloc (.cells #[.bool (decide (za.num < 0)), .slice A1 l1.length c1, .bool false, .slice B1 m1.length d1] 26)) := (Below.refl _ _).alloc (Nat.le_refl _) _
  replace bel := bel.trans (bn.mono bel.size)
  replace C1 := C1.below bn
  clear bn
  generalize (w2.alloc (.cells #[.bool (decide (za.num < 0)), .slice A1 l1.length c1, .bool false, .slice B1 m1.length d1] 26)) = v1 at bel C1 t1 ⊢
  generalize w2.heap.size = g1 at bel C1 t1 ⊢
  replace M := mx.below_ bel
  go_wp2_with fail
  refine (HP2.out _ M).mono ?_
  rintro e w3 ⟨rfl, hb⟩
  replace bel := bel.trans (hb.mono bel.size)
  replace C1 := C1.below hb
  replace t1 := t1.below hb t1.lt
  clear hb
  go_upto_region 3 with (fail)
  have t3 : Four (w3.alloc (.cells #[.bool false, .slice none 0 0, .bool false, .slice none 0 0] 26)) w3.heap.size (.bool false) (.slice none 0 0) (.bool false) (.slice none 0 0) := Four.new_ w3 (.bool false) (.slice none 0 0) (.bool false) (.slice none 0 0) 26
  have bn : Below w3.heap.size w3 (w3.alloc (.cells #[.bool false, .slice none 0 0, .bool false, .slice none 0 0] 26)) := (Below.refl _ _).alloc (Nat.le_refl _) _
  replace bel := bel.trans (bn.mono bel.size)
  replace C1 := C1.below bn
  replace t1 := t1.below bn t1.lt
  clear bn
  generalize (w3.alloc (.cells #[.bool false, .slice none 0 0, .bool false, .slice none 0 0] 26)) = v2 at bel C1 t1 t3 ⊢
  generalize w3.heap.size = g3 at bel C1 t1 t3 ⊢
  clear t3
  go_wp2_with fail
  refine (HO1.out _).mono ?_
  rintro e w4 ⟨A3, c3, l3, B3, d3, m3, rfl, C3, hb⟩
  replace bel := bel.trans (hb.mono bel.size)
  replace C1 := C1.below hb
  replace t1 := t1.below hb t1.lt
  clear hb
  go_upto_region 4 with (fail)
  have t5 : Four (w4.alloc (.cells #[.bool (decide (zb.num < 0)), .slice A3 l3.length c3, .bool false, .slice B3 m3.length d3] 26)) w4.heap.size (.bool (decide (zb.num < 0))) (.slice A3 l3.length c3) (.bool false) (.slice B3 m3.length d3) := Four.new_ w4 (.bool (decide (zb.num < 0))) (.slice A3 l3.length c3) (.bool false) (.slice B3 m3.length d3) 26
  have bn : Below w4.heap.size w4 (w4.alloc (.cells #[.bool (decide (zb.num < 0)), .slice A3 l3.length c3, .bool false, .slice B3 m3.length d3] 26)) := (Below.refl _ _).alloc (Nat.le_refl _) _
  replace bel := bel.trans (bn.mono bel.size)
  replace C1 := C1.below bn
  replace t1 := t1.below bn t1.lt
  replace C3 := C3.below bn
  clear bn
  generalize (w4.alloc (.cells #[.bool (decide (zb.num < 0)), .slice A3 l3.length c3, .bool false, .slice B3 m3.length d3] 26)) = v3 at bel C1 t1 C3 t5 ⊢
  generalize w4.heap.size = g5 at bel C1 t1 C3 t5 ⊢
  go_wp2_with fail
  refine (HO2.out _).mono ?_
  rintro e w5 ⟨A4, c4, l4, B4, d4, m4, rfl, C4, hb⟩
  replace bel := bel.trans (hb.mono bel.size)
  replace C1 := C1.below hb
  replace t1 := t1.below hb t1.lt
  replace C3 := C3.below hb
  replace t5 := t5.below hb t5.lt
  clear hb
  go_upto_region 5 with (fail)
  have t7 : Four (w5.alloc (.cells #[.bool (decide (zc.num < 0)), .slice A4 l4.length c4, .bool false, .slice B4 m4.length d4] 26)) w5.heap.size (.bool (decide (zc.num < 0))) (.slice A4 l4.length c4) (.bool false) (.slice B4 m4.length d4) := Four.new_ w5 (.bool (decide (zc.num < 0))) (.slice A4 l4.length c4) (.bool false) (.slice B4 m4.length d4) 26
  have bn : Below w5.heap.size w5 (w5.alloc (.cells #[.bool (decide (zc.num < 0)), .slice A4 l4.length c4, .bool false, .slice B4 m4.length d4] 26)) := (Below.refl _ _).alloc (Nat.le_refl _) _
  replace bel := bel.trans (bn.mono bel.size)
  replace C1 := C1.below bn
  replace t1 := t1.below bn t1.lt
  replace C3 := C3.below bn
  replace t5 := t5.below bn t5.lt
  replace C4 := C4.below bn
  clear bn
  generalize (w5.alloc (.cells #[.bool (decide (zc.num < 0)), .slice A4 l4.length c4, .bool false, .slice B4 m4.length d4] 26)) = v4 at bel C1 t1 C3 t5 C4 t7 ⊢
  generalize w5.heap.size = g7 at bel C1 t1 C3 t5 C4 t7 ⊢
  have t5_0 := t5.c0
  have t5_1 := t5.c1
  have t5_2 := t5.c2
  have t5_3 := t5.c3
  go_wp2_with fail
  refine (HLC.out _ _ _ _ _ _ _ C3).mono ?_
  rintro e w6 ⟨k, rfl, hC, hk0, hk1, hb⟩
  clear t5_0 t5_1 t5_2 t5_3
  replace bel := bel.trans (hb.mono bel.size)
  replace C1 := C1.below hb
  replace t1 := t1.below hb t1.lt
  replace C3 := C3.below hb
  replace t5 := t5.below hb t5.lt
  replace C4 := C4.below hb
  replace t7 := t7.below hb t7.lt
  clear hb
  obtain rfl : k = -1 := HCU.out k hC
  clear hC hk0 hk1
  go_upto_region 6 with (fail)
  go_wp2_with fail
  refine (HRD.out _).mono ?_
  rintro e w7 ⟨rfl, hb⟩
  replace bel := bel.trans (hb.mono bel.size)
  replace C1 := C1.below hb
  replace t1 := t1.below hb t1.lt
  replace C3 := C3.below hb
  replace t5 := t5.below hb t5.lt
  replace C4 := C4.below hb
  replace t7 := t7.below hb t7.lt
  clear hb
  go_upto_region 7 with (fail)
  have t11 : Two (w7.alloc (.cells #[.int .i64 3, .int .i64 2] 40)) w7.heap.size (.int .i64 3) (.int .i64 2) := Two.new_ w7 (.int .i64 3) (.int .i64 2) 40
  have bn : Below w7.heap.size w7 (w7.alloc (.cells #[.int .i64 3, .int .i64 2] 40)) := (Below.refl _ _).alloc (Nat.le_refl _) _
  replace bel := bel.trans (bn.mono bel.size)
  replace C1 := C1.below bn
  replace t1 := t1.below bn t1.lt
  replace C3 := C3.below bn
  replace t5 := t5.below bn t5.lt
  replace C4 := C4.below bn
  replace t7 := t7.below bn t7.lt
  clear bn
  generalize (w7.alloc (.cells #[.int .i64 3, .int .i64 2] 40)) = v5 at bel C1 t1 C3 t5 C4 t7 t11 ⊢
  generalize w7.heap.size = g11 at bel C1 t1 C3 t5 C4 t7 t11 ⊢
  have t1_0 := t1.c0
  have t1_1 := t1.c1
  have t1_2 := t1.c2
  have t1_3 := t1.c3
  have T := ht.below bel
  go_wp2_with fail
  refine (HT1.out _ _ _ _ _ _ _ T C1).mono ?_
  rintro e w8 ⟨rfl, hb⟩
  clear t1_0 t1_1 t1_2 t1_3
  replace bel := bel.trans (hb.mono bel.size)
  replace C1 := C1.below hb
  replace t1 := t1.below hb t1.lt
  replace C3 := C3.below hb
  replace t5 := t5.below hb t5.lt
  replace C4 := C4.below hb
  replace t7 := t7.below hb t7.lt
  replace t11 := t11.below hb t11.lt
  clear hb
  have t5_0 := t5.c0
  have t5_1 := t5.c1
  have t5_2 := t5.c2
  have t5_3 := t5.c3
  have t7_0 := t7.c0
  have t7_1 := t7.c1
  have t7_2 := t7.c2
  have t7_3 := t7.c3
  go_wp2_with fail
  refine (HAD.out _ _ _ _ _ _ _ _ _ _ _ _ _ C3 C4).mono ?_
  rintro e w9 ⟨A5, c5, l5, B5, d5, m5, rfl, C5, hb⟩
  clear t5_0 t5_1 t5_2 t5_3 t7_0 t7_1 t7_2 t7_3
  replace bel := bel.trans (hb.mono bel.size)
  replace C1 := C1.below hb
  replace t1 := t1.below hb t1.lt
  replace C3 := C3.below hb
  replace t5 := t5.below hb t5.lt
  replace C4 := C4.below hb
  replace t7 := t7.below hb t7.lt
  replace t11 := t11.below hb t11.lt
  clear hb
  replace T := ht.below bel
  go_wp2_with fail
  refine (HT2.out _ _ _ _ _ _ _ T C5).mono ?_
  rintro e w10 ⟨rfl, hb⟩
  replace bel := bel.trans (hb.mono bel.size)
  replace C1 := C1.below hb
  replace t1 := t1.below hb t1.lt
  replace C3 := C3.below hb
  replace t5 := t5.below hb t5.lt
  replace C4 := C4.below hb
  replace t7 := t7.below hb t7.lt
  replace t11 := t11.below hb t11.lt
  replace C5 := C5.below hb
  clear hb
  have t11_0 := t11.c0
  have t11_1 := t11.c1
  go_wp2_with fail
  go_ret
  exact ⟨rfl, bel⟩
end Go.Proofs.YtkpomjdablopaaaGreatDoor
