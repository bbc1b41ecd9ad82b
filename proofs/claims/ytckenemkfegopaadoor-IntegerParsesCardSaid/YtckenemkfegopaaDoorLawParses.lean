/- The law IntegerParses, walked: Parse accepts just the canonical decimal texts. -/
import Derived.Test.YtckenemkfegopaaDoorP5
import Derived.Test.YtckenemkfegopaaDoorT5
import Derived.Test.YtckenemkfegopaaDoorLw
namespace Go.Proofs.YtckenemkfegopaaDoor
open Go.RowKit
set_option linter.unusedVariables false

theorem Kt.val_lt : ∀ (l : List UInt8) (a : Nat), l.foldl (fun n c => n * 10 + (c.toNat - 48)) a < (a + 1) * Kn.pw l.length := by
  intro l
  induction l with
  | nil => intro a; rw [List.length_nil, Kn.pw_zero]; show a < _; omega
  | cons c l ih =>
    intro a
    have h := ih (a * 10 + (c.toNat - 48))
    have hc := c.toNat_lt
    rw [List.length_cons, Kn.pw_succ, ← Nat.mul_assoc]
    refine Nat.lt_of_lt_of_le h (Nat.mul_le_mul_right _ ?_)
    omega
theorem Kt.pZ_lt {t : List UInt8} (h : t.length ≤ 700) : (Kt.pZ t).2.natAbs < Kn.pw 700 := by
  have hb : (Kt.body t).length ≤ 700 := by
    unfold Kt.body
    split
    · rw [List.length_drop]; omega
    · exact h
  have h1 := Kt.val_lt (Kt.body t) 0
  rw [Nat.zero_add, Nat.one_mul] at h1
  have h2 : Kt.valN (Kt.body t) < Kn.pw 700 := Nat.lt_of_lt_of_le h1 (Kn.pw_mono hb)
  have h3 := Kn.pw_pos 700
  unfold Kt.pZ
  split
  · exact h3
  split
  · exact h3
  split
  · exact h3
  · dsimp only
    split <;> omega
/-- a code and an integer of at most 700 words -/
def PG (k z : Int) (W : World) (e : Ending) (W' : World) : Prop := ∃ p A c l, e = .returned (.tuple #[.agg #[.bool p, .slice A l.length c], .int .i64 k]) ∧ Cn W' p A c l z 700 ∧ Below W.heap.size W W'
theorem PG.of {p : Int × Int} {W W' : World} {e : Ending} (h : PRes p W e W') (hz : p.2.natAbs < Kn.pw 700) : PG p.1 p.2 W e W' := by
  obtain ⟨A, c, he, hS, hb⟩ := h
  exact ⟨_, A, c, _, he, ⟨⟨hS, Kn.iv_dig p.2, Kn.dig_len_le hz⟩, rfl, rfl⟩, hb⟩
/-- a kept integer: its box and what it reads as -/
structure KI (W : World) (b : Nat) (p : Bool) (A : Option Addr) (c : Nat) (l : List Nat) (z : Int) : Prop where
  t : Two W b (.bool p) (.slice A l.length c)
  c : Cn W p A c l z 700
theorem KI.below {W W' : World} {b : Nat} {p : Bool} {A : Option Addr} {c : Nat} {l : List Nat} {z : Int} (h : KI W b p A c l z) (hb : Below W.heap.size W W') : KI W' b p A c l z := ⟨h.t.below hb h.t.lt, h.c.below hb⟩
theorem KI.alloc {W : World} {b : Nat} {p : Bool} {A : Option Addr} {c : Nat} {l : List Nat} {z : Int} (h : KI W b p A c l z) (o : Obj) : KI (W.alloc o) b p A c l z := ⟨h.t.alloc o, h.c.alloc o⟩
theorem KI.new_ {W : World} {p : Bool} {A : Option Addr} {c : Nat} {l : List Nat} {z : Int} (h : Cn W p A c l z 700) (T : TypeId) : KI (W.alloc (.cells #[.bool p, .slice A l.length c] T)) W.heap.size p A c l z := ⟨Two.new_ _ _ _ _, h.alloc _⟩
theorem bAlloc2 {w W : World} (h : Below w.heap.size w W) (o : Obj) : Below w.heap.size w (W.alloc o) := h.alloc h.size o

set_option maxRecDepth 100000 in
set_option maxHeartbeats 4000000 in
theorem parses_core (F : Bool) (s : ByteArray) (k z : Int) (w : World) (hs : s.size ≤ 700) (ht : Tabs w) (e1 : (k == 0) = F) (e2 : (k != 0) = !F)
    (k1 : Hid (∀ W, Calls Tryd.prog 45 #[.string s] W (PG k z W)))
    (k2 : Hid (∀ W, Calls Tryd.prog 47 #[.string s] W (PG k z W)))
    (k3 : Hid (F = true → ∀ W p A c l, Cn W p A c l z 700 → Below w.heap.size w W → Calls Tryd.prog 44 #[.agg #[.bool p, .slice A l.length c]] W fun e W' => e = .returned (.string s) ∧ Below W.heap.size W W')) :
    Calls Tryd.prog 11 #[.string s] w fun e w' => e = .returned (.bool true) ∧ Below w.heap.size w w' := by
  have h1' : ¬ (700 : Int) < (s.size : Int) := by omega
  have hk := known_ok w ht
  have HK := Lib.hid hk
  clear hk
  cases F
  all_goals
    simp only [Bool.not_false, Bool.not_true] at e2
    go_enter Tryd.func11, Tryd.ntmps11
    go_wp2_with fail
    refine HK.out.mono ?_
    rintro e v0 ⟨rfl, b0⟩
    go_wp2_with fail
    refine (k1.out v0).mono ?_
    rintro e u1 ⟨p1, A1, c1, l1, rfl, C1, hb⟩
    have b1 := bAlloc2 (b0.trans (hb.mono b0.size)) (.cells #[.bool p1, .slice A1 l1.length c1] 24)
    have P1 := KI.new_ C1 24
    clear b0 hb C1
    go_wp2_with fail
    generalize hg : u1.alloc (.cells #[.bool p1, .slice A1 l1.length c1] 24) = v1 at b1 P1 ⊢
    clear hg
    refine (k2.out v1).mono ?_
    rintro e u2 ⟨p2, A2, c2, l2, rfl, C2, hb⟩
    have b2 := bAlloc2 (b1.trans (hb.mono b1.size)) (.cells #[.bool p2, .slice A2 l2.length c2] 24)
    have j0 := (P1.below hb).t.c0
    have j1 := (P1.below hb).t.c1
    have j2 := (P1.below hb).t.lt
    replace P1 := (P1.below hb).alloc (.cells #[.bool p2, .slice A2 l2.length c2] 24)
    have P2 := KI.new_ C2 24
    clear b1 hb C2
    have y0 := P1.t.c0
    have y1 := P1.t.c1
    have z0 := P2.t.c0
    have z1 := P2.t.c1
    have hbq : (s.toList == s.toList) = true := beq_self_eq_true _
    go_wp2_with (first
      | (go_at_call 16; refine (gsame_t P1.c P2.c (by decide) (by decide) rfl).mono ?_; rintro e w7 ⟨rfl, hb7⟩; replace b2 := b2.trans (hb7.mono b2.size); replace P1 := P1.below hb7; replace P2 := P2.below hb7; clear hb7; replace y0 := P1.t.c0; replace y1 := P1.t.c1; replace z0 := P2.t.c0; replace z1 := P2.t.c1)
      | (go_at_call 44; refine ((by first | exact k3.out trivial | exact k3.out rfl : ∀ W p A c l, Cn W p A c l z 700 → Below w.heap.size w W → Calls Tryd.prog 44 #[.agg #[.bool p, .slice A l.length c]] W fun e W' => e = .returned (.string s) ∧ Below W.heap.size W W') _ _ _ _ _ P1.c b2).mono ?_; rintro e w7 ⟨rfl, hb7⟩; replace b2 := b2.trans (hb7.mono b2.size); clear hb7))
    go_ret
    exact ⟨rfl, b2⟩

set_option maxRecDepth 100000 in
theorem parses_walk (s : ByteArray) (w : World) (ht : Tabs w) : Calls Tryd.prog 11 #[.string s] w fun e w' => e = .returned (.bool true) ∧ Below w.heap.size w w' := by
  by_cases h : 700 < s.size
  · have h1' : (700 : Int) < (s.size : Int) := by omega
    have HK := Lib.hid (known_ok w ht)
    go_enter Tryd.func11, Tryd.ntmps11
    go_wp2_with fail
    refine HK.out.mono ?_
    rintro e v0 ⟨rfl, b0⟩
    go_wp2_with fail
    go_ret
    exact ⟨rfl, b0⟩
  · have hl : (bs s).length ≤ 700 := by rw [bs_length]; omega
    have hz := Kt.pZ_lt hl
    refine parses_core ((Kt.pZ (bs s)).1 == 0) s (Kt.pZ (bs s)).1 (Kt.pZ (bs s)).2 w (by omega) ht rfl rfl
      (Lib.hid fun W => (parse_any s (by omega) W).mono fun _ _ h => PG.of h hz) (Lib.hid fun W => (rparse_any s (by omega) W).mono fun _ _ h => PG.of h hz)
      (Lib.hid fun hF W p A c l hC hb => ?_)
    have h := text_any p A c l W hC.iv.sl (by have := hC.iv.len; omega) (ht.below hb)
    rw [hC.iv.val, Kt.pZ_text (by simpa using hF)] at h
    have e : (⟨(bs s).toArray⟩ : ByteArray) = s := mk_bs s
    rw [e] at h
    exact h
end Go.Proofs.YtckenemkfegopaaDoor
