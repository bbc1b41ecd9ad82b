/- Walks: the text of a set as plain bytes; Text of no set; the reference's digits. -/
import Derived.Test.YtckenemkfegopaaDoorW9
import Derived.Test.YtckenemkfegopaaDoorTc
namespace Go.Proofs.YtckenemkfegopaaDoor
open Go.RowKit
set_option linter.unusedVariables false

theorem Kt.tl_snoc (m : Nat) : ∀ r : List Nat, Kt.tlT (r ++ [m]) = Kt.tlT r ++ 44 :: 32 :: Lib.decDigits m := by
  intro r
  induction r with
  | nil => show 44 :: 32 :: (Lib.decDigits m ++ []) = [] ++ 44 :: 32 :: Lib.decDigits m; simp
  | cons x r ih =>
    show 44 :: 32 :: (Lib.decDigits x ++ Kt.tlT (r ++ [m])) = 44 :: 32 :: (Lib.decDigits x ++ Kt.tlT r) ++ 44 :: 32 :: Lib.decDigits m
    rw [ih]; simp
theorem Kt.pc_snoc (m : Nat) (r : List Nat) : Kt.pcT (r ++ [m]) = Kt.pcT r ++ (if r.length = 0 then [] else [44, 32]) ++ Lib.decDigits m := by
  cases r with
  | nil => show Lib.decDigits m ++ [] = [] ++ [] ++ Lib.decDigits m; simp
  | cons x r =>
    rw [if_neg (by simp)]
    show Lib.decDigits x ++ Kt.tlT (r ++ [m]) = Lib.decDigits x ++ Kt.tlT r ++ [44, 32] ++ Lib.decDigits m
    rw [Kt.tl_snoc]; simp
theorem pieces_pc (l : List Nat) : ∀ k, k ≤ l.length → pieces l k = Kt.pcT (l.take k) := by
  intro k
  induction k with
  | zero => intro _; rfl
  | succ k ih =>
    intro hk
    rw [pieces_succ, ih (by omega), List.take_add_one, List.getElem?_eq_getElem (show k < l.length by omega)]
    show _ = Kt.pcT (l.take k ++ [l[k]])
    rw [Kt.pc_snoc, List.length_take, Nat.min_eq_left (by omega)]
    have e : l.getD k 0 = l[k] := by rw [List.getD_eq_getElem?_getD, List.getElem?_eq_getElem (show k < l.length by omega)]; rfl
    rw [e, List.append_assoc]
    unfold piece
    rw [Lib.itoa_nonneg]
theorem textOf_txt (n : Nat) (ms : List Nat) : textOf n ms = Kt.txt n ms := by
  unfold textOf Kt.txt
  rw [pieces_pc ms ms.length (Nat.le_refl _), List.take_length, Lib.itoa_nonneg]
  simp
set_option maxRecDepth 100000 in
set_option maxHeartbeats 1000000 in
theorem text_bad (size : Int) (A : Option Addr) (c : Nat) (ws : List Nat) (w : World) (h : Words w w.heap.size A ws) (hl : ws.length ≤ 140737488351232) (hv : Kb.validB size ws = false) :
    Calls Tryd.prog 49 #[setV size A ws.length c] w fun e w' => e = .returned (.string ⟨#[]⟩) ∧ Below w.heap.size w w' := by
  have hb := fun W (hW : Words W W.heap.size A ws) => bvalid_any size A c ws W hW hl
  rw [hv] at hb
  have HB := Lib.hid hb
  unfold setV at HB ⊢
  clear hb
  go_enter Tryd.func49, Tryd.ntmps49
  go_wp2_with fail
  have hX := h.alloc (Nat.le_refl _) (.cells #[.int .i64 size, .slice A ws.length c] 46)
  refine (HB.out _ (hX.more (by simp))).mono ?_
  rintro e w1 ⟨rfl, hb⟩
  have hB : Below w.heap.size w w1 := ((Below.refl _ _).alloc (Nat.le_refl _) _).trans (hb.mono (by simp))
  go_wp2_with fail
  go_ret
  exact ⟨rfl, hB⟩
theorem quiet_of_drew {P : Program} {f : FuncId} {args : Array Value} {w : World} {n : Nat} {v : Value}
    (h : Calls P f args (w.drewN n) fun e w' => e = .returned v ∧ ∃ q, w' = (w.drewN n).drewN q) : Calls P f args (w.drewN n) fun e w'' => e = .returned v ∧ ∃ m, w'' = w.drewN m :=
  h.mono fun _ _ ⟨he, q, hm⟩ => ⟨he, n + q, by rw [hm, World.drewN_drewN]⟩
theorem dig_piece : ∀ n : Fin 10, (⟨#[48, 49, 50, 51, 52, 53, 54, 55, 56, 57]⟩ : ByteArray).extract n.1 (n.1 + 1) = ⟨#[UInt8.ofNat (48 + n.1)]⟩ := by decide
set_option maxRecDepth 100000 in
set_option maxHeartbeats 200000 in
theorem digits_any : ∀ (n : Nat) (hn : n ≤ 4096) (w : World), Calls Tryd.prog 95 #[.int .i64 (n : Int)] w fun e w' => e = .returned (.string ⟨(Lib.decDigits n).toArray⟩) ∧ ∃ q, w' = w.drewN q := by
  intro n
  induction n using Nat.strongRecOn with
  | ind n ih =>
    intro hn w
    by_cases h : n < 10
    · have hI : (n : Int) < 10 := by omega
      have hp := dig_piece ⟨n, h⟩
      dsimp only at hp
      have hd := Kt.dec_small h
      go_enter Tryd.func95, Tryd.ntmps95
      go_wp2_with fail
      go_ret
      exact ⟨by rw [hd, UInt8.ofNat_add]; rfl, 0, rfl⟩
    · have hI : ¬ (n : Int) < 10 := by omega
      have hi := ih (n / 10) (by omega) (by omega)
      have hd := Kt.dec_big h
      have hlen := itoa_len ((n / 10 : Nat) : Int) (by omega) (by omega)
      rw [Lib.itoa_nonneg] at hlen
      have hp := dig_piece ⟨n % 10, by omega⟩
      dsimp only at hp
      have HD := Lib.hid hd
      have hq1 : (n : Int).tdiv 10 = ((n / 10 : Nat) : Int) := (Int.ofNat_tdiv n 10).symm
      have hq2 : (n : Int).tmod 10 = ((n % 10 : Nat) : Int) := (Int.ofNat_tmod n 10).symm
      have HI := Lib.hid hi
      have hm : n % 10 < 10 := by omega
      have ha : n / 10 ≤ 4096 := by omega
      clear hd hi ih
      revert HI HD hlen hq1 hq2 hp hm ha
      generalize n / 10 = a
      generalize n % 10 = b
      intro hlen hp HD hq1 hq2 HI hm ha
      go_enter Tryd.func95, Tryd.ntmps95
      go_wp2_with fail
      go_quiet ((go_at_call 95; exact quiet_of_drew (HI.out _)))
      go_wp2_with fail
      go_ret
      refine ⟨?_, nq, rfl⟩
      rw [HD.out, UInt8.ofNat_add]
      have e : ((⟨(Lib.decDigits a).toArray⟩ : ByteArray) ++ ⟨#[48 + UInt8.ofNat b]⟩) = ⟨(Lib.decDigits a ++ [UInt8.ofNat 48 + UInt8.ofNat b]).toArray⟩ := ByteArray.ext (by rw [ByteArray.data_append]; simp)
      rw [e]
      rfl
end Go.Proofs.YtckenemkfegopaaDoor
