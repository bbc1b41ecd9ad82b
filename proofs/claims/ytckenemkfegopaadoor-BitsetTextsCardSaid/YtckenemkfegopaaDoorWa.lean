/- Walks: known, the chapter's first example. -/
import Derived.Test.YtckenemkfegopaaDoorW9
namespace Go.Proofs.YtckenemkfegopaaDoor
open Go.RowKit
set_option linter.unusedVariables false

theorem mk9 : Kb.mkWords 8 (memB [3, 0, 3]) = [9] := by decide
theorem ok9 : Kb.Ok 8 [9] := by rw [← mk9]; exact Kb.Ok.mk_ _ _
theorem mk246 : Kb.mkWords 8 (fun j => !Kb.bitAt [9] j) = [246] := by decide
theorem next9a : Kb.nextFrom (Kb.bitAt [9]) 8 1 = 3 := by decide
theorem next9b : Kb.nextFrom (Kb.bitAt [9]) 8 4 = -1 := by decide
theorem members9 : Kb.membersTo (Kb.bitAt [9]) 8 = [0, 3] := by decide
theorem itoa_digit (x : Nat) (h : x < 10) : Lib.itoa (x : Int) = [UInt8.ofNat (48 + x)] := by
  unfold Lib.itoa
  rw [if_neg (by omega), Int.toNat_natCast, Lib.decDigits, dif_pos h]
theorem text9 : textOf 8 (Kb.membersTo (Kb.bitAt [9]) 8) = [123, 48, 44, 32, 51, 125, 47, 56] := by
  rw [members9]
  have h0 : Lib.itoa ((0 : Nat) : Int) = [48] := itoa_digit 0 (by decide)
  have h3 : Lib.itoa ((3 : Nat) : Int) = [51] := itoa_digit 3 (by decide)
  have h8 : Lib.itoa ((8 : Nat) : Int) = [56] := itoa_digit 8 (by decide)
  have hp : pieces [0, 3] 2 = piece 0 0 ++ piece 1 3 := by rw [pieces_succ, pieces_succ]; rfl
  unfold textOf
  rw [h8, show [0, 3].length = 2 from rfl, hp]
  unfold piece
  rw [h0, h3]; rfl

theorem kOf (b c : Nat) (w : World) (hb : b < w.heap.size) (h0 : w.cell? ⟨b, 0, none⟩ = some (.int .i64 3)) (h1 : w.cell? ⟨b, 1, none⟩ = some (.int .i64 0)) (h2 : w.cell? ⟨b, 2, none⟩ = some (.int .i64 3)) :
    Calls Tryd.prog 88 #[.int .i64 8, .slice (some ⟨b, 0, none⟩) 3 c] w (SetRes 8 [9] w) := by
  have h : Ints w w.heap.size (some ⟨b, 0, none⟩) [3, 0, 3] := ⟨⟨fun _ => ⟨b, 0, rfl, hb, fun k u hu => by
    match k, hu with
    | 0, hu => simp at hu; subst hu; exact h0
    | 1, hu => simp at hu; subst hu; exact h1
    | 2, hu => simp at hu; subst hu; exact h2⟩⟩, by decide⟩
  have := of_ok 8 (by decide) _ c [3, 0, 3] w h (by decide) (by decide)
  rw [mk9] at this
  exact this
theorem kCompl (A : Option Addr) (c : Nat) (w : World) (h : Words w w.heap.size A [9]) : Calls Tryd.prog 89 #[.agg #[.int .i64 8, .slice A 1 c]] w (SetRes 8 [246] w) := by
  have := compl_ok 8 A c [9] w h ok9 (by decide)
  rw [mk246] at this
  exact this
theorem kText (A : Option Addr) (c : Nat) (w : World) (h : Words w w.heap.size A [9]) (ht : Tabs w) : Calls Tryd.prog 49 #[.agg #[.int .i64 8, .slice A 1 c]] w fun e w' => e = .returned (.string ⟨#[123, 48, 44, 32, 51, 125, 47, 56]⟩) ∧ Below w.heap.size w w' := by
  have := text_ok 8 A c [9] w h ok9 (by decide) ht
  rw [text9] at this
  exact this
theorem kNext0 (A : Option Addr) (c : Nat) (w : World) (h : Words w w.heap.size A [9]) (ht : Tabs w) : Calls Tryd.prog 90 #[.agg #[.int .i64 8, .slice A 1 c], .int .i64 0] w fun e w' => e = .returned (.int .i64 3) ∧ Below w.heap.size w w' := by
  have := next_ok 8 A c [9] 0 w h ok9 (by decide) (by decide) ht
  rw [show ((0 : Int) + 1).toNat = 1 from rfl, next9a] at this
  exact this
theorem kNext3 (A : Option Addr) (c : Nat) (w : World) (h : Words w w.heap.size A [9]) (ht : Tabs w) : Calls Tryd.prog 90 #[.agg #[.int .i64 8, .slice A 1 c], .int .i64 3] w fun e w' => e = .returned (.int .i64 (-1)) ∧ Below w.heap.size w w' := by
  have := next_ok 8 A c [9] 3 w h ok9 (by decide) (by decide) ht
  rw [show ((3 : Int) + 1).toNat = 4 from rfl, next9b] at this
  exact this

structure KnInv (w wr : World) (b : Nat) (x y : Value) (A : Option Addr) (ws : List Nat) : Prop where
  t : Two wr b x y
  ws : Words wr wr.heap.size A ws
  bel : Below w.heap.size w wr
theorem KnInv.below {w wr wx : World} {b : Nat} {x y : Value} {A : Option Addr} {ws : List Nat} (h : KnInv w wr b x y A ws) (hb : Below wr.heap.size wr wx) : KnInv w wx b x y A ws :=
  ⟨h.t.below hb h.t.lt, (h.ws.below hb).more hb.size, h.bel.trans (hb.mono h.bel.size)⟩
theorem KnInv.alloc {w wr : World} {b : Nat} {x y : Value} {A : Option Addr} {ws : List Nat} (h : KnInv w wr b x y A ws) (o : Obj) : KnInv w (wr.alloc o) b x y A ws :=
  ⟨h.t.alloc o, (h.ws.alloc (Nat.le_refl _) o).more (by simp), h.bel.alloc h.bel.size o⟩

set_option maxRecDepth 100000 in
set_option maxHeartbeats 1000000 in
theorem known_ok (w : World) (ht : Tabs w) :
    Calls Tryd.prog 48 #[] w fun e w' => e = .returned (.bool true) ∧ Below w.heap.size w w' := by
  go_enter Tryd.func48, Tryd.ntmps48
  go_wp2_with fail
  refine (kOf w.heap.size 3 (w.alloc (.cells #[.int .i64 3, .int .i64 0, .int .i64 3] 3)) (by simp) (by simp) (by simp) (by simp)).mono ?_
  rintro e w1 ⟨A, c, rfl, hW1, hb1⟩
  have hB1 : Below w.heap.size w w1 := ((Below.refl _ _).alloc (Nat.le_refl _) _).trans (hb1.mono (by simp))
  clear hb1
  unfold setV
  go_wp2_with fail
  have i1 : KnInv w (w1.alloc (.cells #[.int .i64 8, .slice A 1 c] 46)) w1.heap.size (.int .i64 8) (.slice A 1 c) A [9] := ⟨Two.new_ _ _ _ _, (hW1.alloc (Nat.le_refl _) _).more (by simp), hB1.alloc hB1.size _⟩
  generalize w1.heap.size = bs at *
  revert i1
  generalize w1.alloc (.cells #[.int .i64 8, .slice A 1 c] 46) = wx
  intro i1
  refine (kCompl A c wx i1.ws).mono ?_
  rintro e w2 ⟨A2, c2, rfl, hW2, hb2⟩
  have i2 := i1.below hb2
  have j2 : KnInv w w2 bs (.int .i64 8) (.slice A 1 c) A2 [246] := ⟨i2.t, hW2, i2.bel⟩
  clear i1 hW1 hB1 hW2 hb2
  obtain ⟨b, off, x, rfl, hbb, hcb, hx⟩ := i2.ws.at_ (k := 0) (by decide)
  obtain rfl : x = 9 := hx.out.1
  obtain ⟨b2, off2, x2, rfl, hbb2, hcb2, hx2⟩ := j2.ws.at_ (k := 0) (by decide)
  obtain rfl : x2 = 246 := hx2.out.1
  clear hx hx2
  rw [Nat.add_zero, show ((9 : Nat) : Int) = 9 from rfl] at hcb
  rw [Nat.add_zero, show ((246 : Nat) : Int) = 246 from rfl] at hcb2
  have c10 := i2.t.c0
  have c11 := i2.t.c1
  have hbs := i2.t.lt
  unfold setV
  go_wp2_with fail
  have i3 := i2.alloc (.cells #[.int .i64 8, .slice (some ⟨b2, off2, none⟩) 1 c2] 46)
  have t3 := Two.new_ w2 (.int .i64 8) (.slice (some ⟨b2, off2, none⟩) 1 c2) 46
  have j3 := j2.alloc (.cells #[.int .i64 8, .slice (some ⟨b2, off2, none⟩) 1 c2] 46)
  generalize hw3 : w2.alloc (.cells #[.int .i64 8, .slice (some ⟨b2, off2, none⟩) 1 c2] 46) = w3 at i3 t3 j3 ⊢
  clear hw3
  refine (kText _ c w3 i3.ws (ht.below i3.bel)).mono ?_
  rintro e w4 ⟨rfl, hb4⟩
  have i4 := i3.below hb4
  have t4 := t3.below hb4 t3.lt
  have j4 := j3.below hb4
  clear c10 c11 hcb hcb2 i3 t3 j3 i2 j2 hbb hbb2 hbs
  have c10 := i4.t.c0
  have c11 := i4.t.c1
  have d10 := t4.c0
  have d11 := t4.c1
  obtain ⟨_, _, x, hA, hbb, hcb, hx⟩ := j4.ws.at_ (k := 0) (by decide)
  obtain rfl : x = 246 := hx.out.1
  cases hA
  rw [Nat.add_zero, show ((246 : Nat) : Int) = 246 from rfl] at hcb
  clear hx
  go_wp2_with fail
  refine (kNext0 _ c w4 i4.ws (ht.below i4.bel)).mono ?_
  rintro e w5 ⟨rfl, hb5⟩
  have i5 := i4.below hb5
  clear c10 c11 d10 d11 hcb
  have c10 := i5.t.c0
  have c11 := i5.t.c1
  go_wp2_with fail
  refine (kNext3 _ c w5 i5.ws (ht.below i5.bel)).mono ?_
  rintro e w6 ⟨rfl, hb6⟩
  have i6 := i5.below hb6
  go_wp2_with fail
  go_ret
  exact ⟨rfl, i6.bel⟩
end Go.Proofs.YtckenemkfegopaaDoor
