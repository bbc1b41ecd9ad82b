/- Walks: number. -/
import Derived.Test.YtcckocaaoklibaaN1
import Derived.Maps.OwnSet
import Derived.Maps.OwnOps
import Derived.StringKeys
namespace Go.Proofs.Ytcckocaaoklibaa
open Go.RowKit Go.Maps
set_option linter.unusedVariables false

/-- texts in memory -/
structure Strs (w : World) (B : Nat) (A : Option Addr) (ns : List ByteArray) : Prop where
  row : Row w B A (ns.map Value.string)
theorem Strs.below {w w' : World} {B : Nat} {A : Option Addr} {ns : List ByteArray} (h : Strs w B A ns) (hb : Below B w w') : Strs w' B A ns := ⟨h.row.below hb⟩
theorem Strs.more {w : World} {B B' : Nat} {A : Option Addr} {ns : List ByteArray} (h : Strs w B A ns) (hB : B ≤ B') : Strs w B' A ns := ⟨h.row.more hB⟩
theorem Strs.at {w w' : World} {A : Option Addr} {ns : List ByteArray} (h : Strs w w.heap.size A ns) (hb : Below w.heap.size w w') : Strs w' w'.heap.size A ns := (h.below hb).more hb.size
/-- the k-th text -/
def nmAt (ns : List ByteArray) (k : Nat) : ByteArray := ns.getD k ByteArray.empty
theorem Strs.at_ {w : World} {B : Nat} {A : Option Addr} {ns : List ByteArray} (h : Strs w B A ns) {k : Nat} (hk : k < ns.length) :
    ∃ b off s, A = some ⟨b, off, none⟩ ∧ b < B ∧ w.cell? ⟨b, off + k, none⟩ = some (.string s) ∧ Hid (s = nmAt ns k) := by
  obtain ⟨b, off, e, hb, hc⟩ := h.row.cells (by simp; omega)
  refine ⟨b, off, nmAt ns k, e, hb, hc k _ ?_, Lib.hid rfl⟩
  unfold nmAt
  rw [List.getElem?_map, List.getElem?_eq_getElem hk, List.getD_eq_getElem?_getD, List.getElem?_eq_getElem hk]; rfl

namespace Kl
/-- is the k-th text one of those before it? -/
def dupB (f : Nat → ByteArray) (k : Nat) : Bool := (List.range k).any fun j => decide (f j = f k)
/-- the code of the first k texts -/
def nmC (f : Nat → ByteArray) : Nat → Int
  | 0 => 0
  | k + 1 => if nmC f k = 0 then (if nameB (f k) then (if dupB f k then 8 else 0) else 7) else nmC f k
theorem nmC_name {f : Nat → ByteArray} {k : Nat} (h : nmC f k = 0) (hn : nameB (f k) = false) : nmC f (k + 1) = 7 := by
  show (if nmC f k = 0 then _ else _) = _
  rw [if_pos h, hn]; rfl
theorem nmC_dup {f : Nat → ByteArray} {k : Nat} (h : nmC f k = 0) (hn : nameB (f k) = true) (hd : dupB f k = true) : nmC f (k + 1) = 8 := by
  show (if nmC f k = 0 then _ else _) = _
  rw [if_pos h, hn, hd]; rfl
theorem nmC_ok {f : Nat → ByteArray} {k : Nat} (h : nmC f k = 0) (hn : nameB (f k) = true) (hd : dupB f k = false) : nmC f (k + 1) = 0 := by
  show (if nmC f k = 0 then _ else _) = _
  rw [if_pos h, hn, hd]; rfl
theorem nmC_stay {f : Nat → ByteArray} {k n : Nat} (hk : k ≤ n) (h : nmC f k ≠ 0) : nmC f n = nmC f k := by
  induction n with
  | zero => obtain rfl : k = 0 := by omega
            rfl
  | succ n ih =>
    by_cases e : k = n + 1
    · rw [e]
    · have h1 := ih (by omega)
      show (if nmC f n = 0 then _ else _) = _
      rw [if_neg (by rw [h1]; exact h), h1]
theorem nmC_pre {f : Nat → ByteArray} {k n : Nat} (hk : k ≤ n) (h : nmC f n = 0) : nmC f k = 0 := by
  apply Classical.byContradiction
  intro hn
  rw [nmC_stay hk hn] at h
  exact hn h
/-- the literal of a text -/
def sl (s : ByteArray) : List UInt8 := s.data.toList
theorem sl_inj {s t : ByteArray} (h : sl s = sl t) : s = t := by
  cases s; cases t
  unfold sl at h
  simp at h
  rw [h]
theorem keyLit (l : List UInt8) : WideAt.IsKeyLit (.string l) := by trivial
/-- the map behind k texts -/
def Dn (f : Nat → ByteArray) : Nat → DataW Unit
  | 0 => .map []
  | k + 1 => (Dn f k).put (.string (sl (f k))) (.lit (.int .i64 (k : Int)))
theorem Dn_tidy (f : Nat → ByteArray) (k : Nat) : Tidy (Dn f k) := by
  induction k with
  | zero => exact tidy_empty
  | succ k ih => exact ih.put (keyLit _) _
theorem Dn_has (f : Nat → ByteArray) (k : Nat) (s : ByteArray) : Maps.has (Dn f k) (.string (sl s)) = (List.range k).any fun j => decide (f j = s) := by
  induction k with
  | zero => rfl
  | succ k ih =>
    rw [List.range_succ, List.any_append]
    show Maps.has ((Dn f k).put _ _) _ = _
    by_cases e : s = f k
    · subst e
      rw [has_put_same (Dn_tidy f k).isMap (keyLit _)]; simp
    · rw [has_put_other (by intro h; injection h with h; exact e (sl_inj h)), ih]
      have : decide (f k = s) = false := decide_eq_false fun h => e h.symm
      simp [this]
theorem Dn_at {f : Nat → ByteArray} {k : Nat} (hd : nmC f k = 0) (z : DataW Unit) : ∀ j, j < k → (Dn f k).atKey (.string (sl (f j))) z = .lit (.int .i64 (j : Int)) := by
  induction k with
  | zero => intro j hj; exact absurd hj (Nat.not_lt_zero _)
  | succ k ih =>
    intro j hj
    have h0 := nmC_pre (Nat.le_succ k) hd
    show ((Dn f k).put _ _).atKey _ _ = _
    by_cases e : j = k
    · subst e
      rw [atKey_put_same (Dn_tidy f j).isMap (keyLit _)]
    · rw [atKey_put_other, ih h0 j (by omega)]
      intro h
      injection h with h
      have hjk := sl_inj h
      have hdup : dupB f k = true := by
        unfold dupB
        exact List.any_eq_true.2 ⟨j, List.mem_range.2 (by omega), decide_eq_true hjk⟩
      have : nmC f (k + 1) ≠ 0 := by
        show (if nmC f k = 0 then _ else _) ≠ _
        rw [if_pos h0, hdup]
        cases nameB (f k) <;> decide
      exact this hd
end Kl

theorem lawStr : Maps.Keyed Try.prog 9 := Maps.string_keyed Try.underlying9
theorem zeroInt (w : World) : (zeroValue 3).run Try.prog w = .ok (.int .i64 0) w := by kernel_rfl
theorem wf_int {x : Int} (h : -9223372036854775808 ≤ x ∧ x ≤ 9223372036854775807) : (Lit.int .i64 x).wf = true := by
  simpa [Lit.wf, IntKind.min, IntKind.max, IntKind.signed, IntKind.bits] using h
theorem nameB_size {s : ByteArray} (h : nameB s = true) : s.size ≤ 12 := by
  unfold nameB at h
  simp only [Bool.and_eq_true, decide_eq_true_eq] at h
  exact h.1.1.2

/-- number's world in the loop -/
structure NuInv (w wr : World) (f : Nat → ByteArray) (k : Nat) : Prop where
  map : wr.ownsMap Try.prog 9 (plainElem Try.prog 3) w.heap.size k (Kl.Dn f k)
  bel : Below w.heap.size w wr

set_option maxRecDepth 100000 in
set_option maxHeartbeats 2000000 in
theorem number_any (A : Option Addr) (c : Nat) (ns : List ByteArray) (w : World) (h : Strs w w.heap.size A ns) (hl : ns.length ≤ 1000) :
    Calls Try.prog 17 #[.slice A ns.length c] w fun e w' => Below w.heap.size w w' ∧ (∃ code, code ≠ 0 ∧ Kl.nmC (nmAt ns) ns.length = code ∧ e = .returned (.tuple #[.map none, .int .i64 code]) ∨
      Kl.nmC (nmAt ns) ns.length = 0 ∧ e = .returned (.tuple #[.map (some w.heap.size), .int .i64 0]) ∧ w'.ownsMap Try.prog 9 (plainElem Try.prog 3) w.heap.size ns.length (Kl.Dn (nmAt ns) ns.length)) := by
  have hmm := @run_makeMap Try.prog
  go_enter Try.func17, Try.ntmps17
  go_wp2_with fail
  clear hmm
  go_loopw [12] (fun iv wr => ∃ k : Nat, k ≤ ns.length ∧ iv = .int .i64 k ∧ Hid (Kl.nmC (nmAt ns) k = 0) ∧ NuInv w wr (nmAt ns) k) (fun iv _ => ns.length - (intOf iv).toNat)
  case atStart =>
    refine ⟨0, Nat.zero_le _, rfl, Lib.hid rfl, ?_, (Below.refl _ _).alloc (Nat.le_refl _) _⟩
    have := World.ownsMap_made (H := Unit) w Try.prog 9 (plainElem Try.prog 3)
    rw [show Kl.Dn (nmAt ns) 0 = .map [] from rfl]
    simpa using this
  case round =>
    obtain ⟨k, hk, rfl, hz, I⟩ := hrel
    by_cases hlt : k < ns.length
    · obtain ⟨b, off, s, rfl, hbb, hc, hs⟩ := (h.below I.bel).at_ hlt
      cases hn : nameB s with
      | false =>
        have hR := Lib.hid ((Kl.nmC_stay (n := ns.length) (Nat.succ_le_of_lt hlt) (by rw [Kl.nmC_name hz.out (by rw [← hs.out]; exact hn)]; decide)).trans (Kl.nmC_name hz.out (by rw [← hs.out]; exact hn)))
        have HN := Lib.hid hn
        clear hn
        go_wp2_with fail
        refine (isName_any s _).mono ?_
        rintro e w' ⟨rfl, rfl⟩
        rw [HN.out]
        go_wp2_with fail
        go_ret2
        exact ⟨I.bel, 7, Or.inl ⟨by decide, hR.out, rfl⟩⟩
      | true =>
        have hsz := nameB_size hn
        have hkey : keyOf Try.prog 9 (.string s) = some (.string (Kl.sl s)) := WideMaps.keyOf_string_mk Try.underlying9 (by unfold maxLen; omega)
        have hhas : Hid (Maps.has (Kl.Dn (nmAt ns) k) (.string (Kl.sl s)) = Kl.dupB (nmAt ns) k) := Lib.hid (by rw [Kl.Dn_has, hs.out]; rfl)
        cases hd : Kl.dupB (nmAt ns) k with
        | true =>
          have hR := Lib.hid ((Kl.nmC_stay (n := ns.length) (Nat.succ_le_of_lt hlt) (by rw [Kl.nmC_dup hz.out (by rw [← hs.out]; exact hn) hd]; decide)).trans (Kl.nmC_dup hz.out (by rw [← hs.out]; exact hn) hd))
          have hh : Maps.has (Kl.Dn (nmAt ns) k) (.string (Kl.sl s)) = true := by rw [hhas.out, hd]
          have HN := Lib.hid hn
          clear hn hd
          go_wp2_with fail
          refine (isName_any s _).mono ?_
          rintro e w' ⟨rfl, rfl⟩
          rw [HN.out]
          go_wp2_with (at_lookup; refine wpList_lookup_own_ok_int _ rfl _ _ 48 rfl 9 3 .i64 lawStr Try.underlying48 Try.underlying3 (zeroInt _) w.heap.size k _ rfl I.map _ _ rfl hkey ?_; intro c0 hat hwc)
          go_ret2
          exact ⟨I.bel, 8, Or.inl ⟨by decide, hR.out, rfl⟩⟩
        | false =>
          have hR := Lib.hid (Kl.nmC_ok hz.out (by rw [← hs.out]; exact hn) hd)
          have hh : Maps.has (Kl.Dn (nmAt ns) k) (.string (Kl.sl s)) = false := by rw [hhas.out, hd]
          have hwr : (Lit.int .i64 (k : Int)).wf = true := wf_int ⟨by omega, by omega⟩
          have HN := Lib.hid hn
          clear hn hd
          go_wp2_with fail
          refine (isName_any s _).mono ?_
          rintro e w' ⟨rfl, rfl⟩
          rw [HN.out]
          go_wp2_with (first
            | (at_lookup; refine wpList_lookup_own_ok_int _ rfl _ _ 48 rfl 9 3 .i64 lawStr Try.underlying48 Try.underlying3 (zeroInt _) w.heap.size k _ rfl I.map _ _ rfl hkey ?_; intro c0 hat hwc)
            | (at_mapUpdate; refine wpList_mapUpdate_own _ rfl _ _ _ 48 rfl 9 3 lawStr Try.underlying48 _ w.heap.size k _ rfl I.map (by unfold maxLen; omega) _ _ _ rfl rfl hkey _ [] (plainElem_int Try.underlying3 hwr) ?_; intro w1 hown1 hgrow1))
          go_roundw
          case rel =>
            refine ⟨k + 1, by omega, by go_num, hR, ?_, I.bel.grown hgrow1 I.bel.size (fun j hj => by cases hj; omega)⟩
            show w1.ownsMap _ _ _ _ _ ((Kl.Dn (nmAt ns) k).put _ _)
            rw [← hs.out]; exact hown1
          case measure => simp [intOf]; omega
    · obtain rfl : k = ns.length := by omega
      go_wp2_with fail
      go_ret2
      exact ⟨I.bel, 0, Or.inr ⟨hz.out, rfl, I.map⟩⟩
end Go.Proofs.Ytcckocaaoklibaa
