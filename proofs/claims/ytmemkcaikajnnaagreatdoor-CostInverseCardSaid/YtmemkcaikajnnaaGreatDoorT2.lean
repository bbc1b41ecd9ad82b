/- Walk: divide of package cost; what the laws of texts read. -/
import Derived.Test.YtmemkcaikajnnaaGreatDoorT1
import Derived.Test.YtmemkcaikajnnaaGreatDoorShelf
import Derived.Test.YtmemkcaikajnnaaGreatDoorKn
namespace Go.Proofs.YtmemkcaikajnnaaGreatDoor
open Go.RowKit Go.Sort
set_option linter.unusedVariables false

/-- the names of the entries -/
def nmK (i : Nat) : ByteArray := mkB (Kp.names.getD i [])
theorem gPowK : Tryz.prog.globalNamed "internal/strconv.uint64pow10" = some 1 := by kernel_rfl
/-- what the laws of texts read of the variables -/
structure Tk (B : Nat) (w : World) : Prop where
  tb : Tb B w
  nm : ∀ i : Nat, i < 13 → w.cell? ⟨0, i, none⟩ = some (.string (nmK i))
  pw : Lib.TabIs Tryz.prog w "internal/strconv.uint64pow10" .u64 Lib.pow10Tab
  mx : ∃ m, w.cell? ⟨2, 0, none⟩ = some (.int .i64 m)
  er : ∃ ev, w.cell? ⟨6, 0, none⟩ = some ev ∧ (ev = .nilIface ∨ ∃ te pe, ev = .iface te pe)
  ln : 0 < B
  lp : 1 < B
  lm : 2 < B
  le : 6 < B
theorem Tk.at {w w' : World} (h : Tk w.heap.size w) (hb : Below w.heap.size w w') : Tk w'.heap.size w' where
  tb := h.tb.at hb
  nm := fun i hi => (hb.cell (p := ⟨0, i, none⟩) h.ln).trans (h.nm i hi)
  pw := var?_below hb gPowK h.lp h.pw
  mx := by obtain ⟨m, hm⟩ := h.mx; exact ⟨m, (hb.cell (p := ⟨2, 0, none⟩) h.lm).trans hm⟩
  er := by obtain ⟨ev, hm, h2⟩ := h.er; exact ⟨ev, (hb.cell (p := ⟨6, 0, none⟩) h.le).trans hm, h2⟩
  ln := Nat.lt_of_lt_of_le h.ln hb.size
  lp := Nat.lt_of_lt_of_le h.lp hb.size
  lm := Nat.lt_of_lt_of_le h.lm hb.size
  le := Nat.lt_of_lt_of_le h.le hb.size
theorem cut_le (p : List UInt8) : (Kp.word p).length ≤ p.length ∧ (Kp.num p).length ≤ p.length := by
  unfold Kp.word Kp.num
  rcases Kp.cut32 p with ⟨x, y, rfl, _, hc⟩ | ⟨_, hc⟩
  · rw [hc]
    have := Kp.dw_len (· == 32) y
    rw [List.length_append, List.length_cons]
    exact ⟨by show x.length ≤ _; omega, by show (y.dropWhile (· == 32)).length ≤ _; omega⟩
  · rw [hc]; exact ⟨Nat.le_refl _, Nat.zero_le _⟩
theorem cutK (s : ByteArray) (hs : s.size ≤ 1000000) (W : World) (hm : ∃ m, W.cell? ⟨2, 0, none⟩ = some (.int .i64 m)) :
    Calls Tryz.prog 66 #[.string s, .string ⟨#[32]⟩] W fun e w' => e = .returned (.tuple #[.string (mkB (Kp.word (bs s))), .string (mkB (Lib.cut (bs s) [32]).2.1), .bool (Lib.cut (bs s) [32]).2.2]) ∧ Below W.heap.size W w' := by
  obtain ⟨m, hm⟩ := hm
  refine (Tryz.strings_Cut s ⟨#[32]⟩ m W (by omega) hm).mono ?_
  rintro e w' ⟨rfl, n, rfl⟩
  exact ⟨rfl, bDrew (Below.refl _ _) n⟩
theorem trimLK (s : ByteArray) (W : World) : Calls Tryz.prog 67 #[.string s, .string ⟨#[32]⟩] W fun e w' => e = .returned (.string (mkB (Lib.trimLeftB (bs s) 32))) ∧ Below W.heap.size W w' :=
  (Tryz.strings_TrimLeft_one s 32 (by decide) W).mono fun e w' he => ⟨he.1, by rw [he.2]; exact Below.refl _ _⟩
theorem trimK (s : ByteArray) (hs : s.size ≤ 1000000) (W : World) : Calls Tryz.prog 23 #[.string s, .string ⟨#[32]⟩] W fun e w' => e = .returned (.string (mkB (Lib.trimB (bs s) 32))) ∧ Below W.heap.size W w' :=
  (Tryz.strings_Trim_one s 32 (by decide) W (by omega)).mono fun e w' he => ⟨he.1, by rcases he.2 with h | h <;> rw [h]; exact Below.refl _ _; exact (Below.refl _ _).drew⟩
set_option maxRecDepth 100000 in
set_option maxHeartbeats 1000000 in
theorem divide_any (s : ByteArray) (hs : s.size ≤ 100000) (w : World) (hm : ∃ m, w.cell? ⟨2, 0, none⟩ = some (.int .i64 m)) :
    Calls Tryz.prog 50 #[.string s] w fun r w' => r = .returned (.tuple #[.string (mkB (Kp.word (bs s))), .string (mkB (Kp.num (bs s))), .bool (Kp.pOk (bs s))]) ∧ Below w.heap.size w w' := by
  obtain ⟨hl1, hl2⟩ := cut_le (bs s)
  rw [bs_length] at hl1 hl2
  obtain ⟨W1, h1⟩ : ∃ x, Hid (Kp.word (bs s) = x) := ⟨_, Lib.hid rfl⟩
  obtain ⟨R1, h2⟩ : ∃ x, Hid ((Lib.cut (bs s) [32]).2.1 = x) := ⟨_, Lib.hid rfl⟩
  obtain ⟨V, h3⟩ : ∃ x, Hid ((Lib.cut (bs s) [32]).2.2 = x) := ⟨_, Lib.hid rfl⟩
  obtain ⟨N1, h4⟩ : ∃ x, Hid (Kp.num (bs s) = x) := ⟨_, Lib.hid rfl⟩
  obtain ⟨F1, h5⟩ : ∃ x, Hid (Kp.ofR Kp.low W1 = x) := ⟨_, Lib.hid rfl⟩
  obtain ⟨F2, h6⟩ : ∃ x, Hid (Kp.isNum N1 = x) := ⟨_, Lib.hid rfl⟩
  have HOK : Hid (Kp.pOk (bs s) = (V && F1 && F2)) := Lib.hid (by unfold Kp.pOk; rw [h1.out, h3.out, h4.out, h5.out, h6.out])
  have HN : Hid (Lib.trimLeftB R1 32 = N1) := Lib.hid (by rw [← h2.out, ← h4.out]; rfl)
  have HC := Lib.hid (fun (W : World) (hm : ∃ m, W.cell? ⟨2, 0, none⟩ = some (.int .i64 m)) => (by have h := cutK s (by omega) W hm; rw [h1.out, h2.out, h3.out] at h; exact h : Calls Tryz.prog 66 #[.string s, .string ⟨#[32]⟩] W fun e w' => e = .returned (.tuple #[.string (mkB W1), .string (mkB R1), .bool V]) ∧ Below W.heap.size W w'))
  have HT := Lib.hid (fun (W : World) => (by have h := trimLK (mkB R1) W; rw [bs_mk, HN.out] at h; exact h : Calls Tryz.prog 67 #[.string (mkB R1), .string ⟨#[32]⟩] W fun e w' => e = .returned (.string (mkB N1)) ∧ Below W.heap.size W w'))
  rw [h1.out] at hl1 ⊢
  rw [h4.out] at hl2 ⊢
  have HL := Lib.hid (fun (W : World) => (by have h := consists_any (mkB W1) 97 122 Kp.low low_f (by rw [mk_size]; omega) W; rw [bs_mk, h5.out] at h; exact h : Calls Tryz.prog 68 #[.string (mkB W1), .int .u8 97, .int .u8 122] W fun e w' => e = .returned (.bool F1) ∧ Below W.heap.size W w'))
  have HD := Lib.hid (fun (W : World) => (by have h := isNumK_any (mkB N1) (by rw [mk_size]; omega) W; rw [bs_mk, h6.out] at h; exact h : Calls Tryz.prog 69 #[.string (mkB N1)] W fun e w' => e = .returned (.bool F2) ∧ Below W.heap.size W w'))
  rw [HOK.out]
  clear HOK HN h1 h2 h3 h4 h5 h6 hl1 hl2 hs
  have bel : Below w.heap.size w w := Below.refl _ _
  go_enter Tryz.func50, Tryz.ntmps50
  go_wp2_with fail
  refine (HC.out _ hm).mono ?_
  rintro r w2 ⟨rfl, hb⟩
  replace bel := bel.trans (hb.mono bel.size)
  clear hb
  go_wp2_with fail
  refine (HT.out _).mono ?_
  rintro r w3 ⟨rfl, hb⟩
  replace bel := bel.trans (hb.mono bel.size)
  clear hb
  cases V with
  | false =>
    go_wp2_with fail
    go_ret3
    exact ⟨rfl, bel⟩
  | true =>
    go_wp2_with fail
    refine (HL.out _).mono ?_
    rintro r w4 ⟨rfl, hb⟩
    replace bel := bel.trans (hb.mono bel.size)
    clear hb
    cases F1 with
    | false =>
      go_wp2_with fail
      go_ret3
      exact ⟨rfl, bel⟩
    | true =>
      go_wp2_with fail
      refine (HD.out _).mono ?_
      rintro r w5 ⟨rfl, hb⟩
      replace bel := bel.trans (hb.mono bel.size)
      clear hb
      cases F2 with
      | false =>
        go_wp2_with fail
        go_ret3
        exact ⟨rfl, bel⟩
      | true =>
        go_wp2_with fail
        go_ret3
        exact ⟨rfl, bel⟩
end Go.Proofs.YtmemkcaikajnnaaGreatDoor
