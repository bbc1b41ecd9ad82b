/- Walks: Name and Find. -/
import Derived.Test.YtcicejmahlobhaaNe
namespace Go.Proofs.Ytcicejmahlobhaa
open Go.RowKit Go.Maps
set_option linter.unusedVariables false

section
variable {lb : Nat} {ns : List ByteArray} {L : Nat → Nat → Bool}
set_option maxRecDepth 100000 in
theorem name_in (k : Nat) (hk : k < ns.length) (w : World) (hP : PLat w lb ns L) : Calls Try.prog 15 #[.pointer (some ⟨lb, 0, none⟩), .int .i64 (k : Int)] w fun e w' => e = .returned (.tuple #[.string (nmAt ns k), .int .i64 0]) ∧ w = w' := by
  obtain ⟨An, cn, M, Aa, ca, Ab, cb, h1, h2, h3⟩ := hP
  have c0 := h1.four.c0
  obtain ⟨b, off, s, rfl, hb, hc, hs⟩ := h2.at_ hk
  have hl : Hid (lvB (k : Int) ns.length = true) := Lib.hid (by simp [lvB]; omega)
  have hkI : (k : Int) < (ns.length : Int) := by omega
  go_enter Try.func15, Try.ntmps15
  go_wp2_with fail
  refine (level_any _ _ _).mono ?_
  rintro e w' ⟨rfl, rfl⟩
  rw [hl.out]
  go_wp2_with fail
  go_ret2
  exact ⟨by rw [← hs.out]; rfl, rfl⟩
set_option maxRecDepth 100000 in
theorem name_out (a : Int) (ha : lvB a ns.length = false) (w : World) (hP : PLat w lb ns L) : Calls Try.prog 15 #[.pointer (some ⟨lb, 0, none⟩), .int .i64 a] w fun e w' => e = .returned (.tuple #[.string ⟨#[]⟩, .int .i64 3]) ∧ w = w' := by
  obtain ⟨An, cn, M, Aa, ca, Ab, cb, h1, h2, h3⟩ := hP
  have c0 := h1.four.c0
  have hl := Lib.hid ha
  clear ha
  go_enter Try.func15, Try.ntmps15
  go_wp2_with fail
  refine (level_any _ _ _).mono ?_
  rintro e w' ⟨rfl, rfl⟩
  rw [hl.out]
  go_wp2_with fail
  go_ret2
  exact ⟨rfl, rfl⟩
set_option maxRecDepth 100000 in
set_option maxHeartbeats 1000000 in
theorem find_in (k : Nat) (hk : k < ns.length) (hz : Kl.nmC (nmAt ns) ns.length = 0) (hsz : (nmAt ns k).size ≤ 20) (w : World) (hP : PLat w lb ns L) : Calls Try.prog 16 #[.pointer (some ⟨lb, 0, none⟩), .string (nmAt ns k)] w fun e w' => e = .returned (.tuple #[.int .i64 (k : Int), .bool true]) ∧ w = w' := by
  obtain ⟨An, cn, M, Aa, ca, Ab, cb, h1, h2, h3⟩ := hP
  have c1 := h1.four.c1
  have hat := Lib.hid (Kl.Dn_at hz (.lit (.int .i64 0)) k hk)
  have hh : Maps.has (Kl.Dn (nmAt ns) ns.length) (.string (Kl.sl (nmAt ns k))) = true := by
    rw [Kl.Dn_has]
    exact List.any_eq_true.2 ⟨k, List.mem_range.2 hk, decide_eq_true rfl⟩
  have hkey : keyOf Try.prog 9 (.string (nmAt ns k)) = some (.string (Kl.sl (nmAt ns k))) := WideMaps.keyOf_string_mk Try.underlying9 (by unfold maxLen; omega)
  clear hz hsz
  revert hat hh hkey
  generalize nmAt ns k = s
  intro hat hh hkey
  go_enter Try.func16, Try.ntmps16
  go_wp2_with (at_lookup; refine wpList_lookup_own_ok_int _ rfl _ _ 61 rfl 9 3 .i64 lawStr Try.underlying61 Try.underlying3 (zeroInt _) M ns.length _ rfl h3 _ _ rfl hkey ?_; intro c0 hat2 hwc)
  go_ret2
  have := hat.out.symm.trans hat2
  injection this with this
  injection this with _ this
  subst this
  exact ⟨rfl, rfl⟩
set_option maxRecDepth 100000 in
set_option maxHeartbeats 1000000 in
theorem find_out (s : ByteArray) (hno : ∀ j, j < ns.length → nmAt ns j ≠ s) (hsz : s.size ≤ 20) (w : World) (hP : PLat w lb ns L) : Calls Try.prog 16 #[.pointer (some ⟨lb, 0, none⟩), .string s] w fun e w' => e = .returned (.tuple #[.int .i64 0, .bool false]) ∧ w = w' := by
  obtain ⟨An, cn, M, Aa, ca, Ab, cb, h1, h2, h3⟩ := hP
  have c1 := h1.four.c1
  have hh : Maps.has (Kl.Dn (nmAt ns) ns.length) (.string (Kl.sl s)) = false := by
    rw [Kl.Dn_has, List.any_eq_false]
    intro j hj
    simpa using hno j (List.mem_range.1 hj)
  have hat := Lib.hid (Maps.atKey_of_not_has hh (.lit (.int .i64 0)))
  have hkey : keyOf Try.prog 9 (.string s) = some (.string (Kl.sl s)) := WideMaps.keyOf_string_mk Try.underlying9 (by unfold maxLen; omega)
  clear hno hsz
  go_enter Try.func16, Try.ntmps16
  go_wp2_with (at_lookup; refine wpList_lookup_own_ok_int _ rfl _ _ 61 rfl 9 3 .i64 lawStr Try.underlying61 Try.underlying3 (zeroInt _) M ns.length _ rfl h3 _ _ rfl hkey ?_; intro c0 hat2 hwc)
  go_ret2
  have := hat.out.symm.trans hat2
  injection this with this
  injection this with _ this
  subst this
  exact ⟨rfl, rfl⟩
end
theorem nm_inj {ns : List ByteArray} (hz : Kl.nmC (nmAt ns) ns.length = 0) {j k : Nat} (hj : j < ns.length) (hk : k < ns.length) (e : nmAt ns j = nmAt ns k) : j = k := by
  have h1 := Kl.Dn_at hz (.lit (.int .i64 0)) j hj
  rw [e, Kl.Dn_at hz (.lit (.int .i64 0)) k hk] at h1
  injection h1 with h1
  injection h1 with _ h1
  omega

/-- a law's world: the reference's lattice in its box, both lattices -/
structure LawV (w wx : World) (b8 lb : Nat) (An : Option Addr) (cn : Nat) (Al : Option Addr) (cl : Nat) (ns : List ByteArray) (L : Nat → Nat → Bool) : Prop where
  R : Two wx b8 (.slice An ns.length cn) (.slice Al ns.length cl)
  B : Both wx lb An cn Al cl ns L
  bel : Below w.heap.size w wx
section
variable {w wx wy : World} {b8 lb : Nat} {An : Option Addr} {cn : Nat} {Al : Option Addr} {cl : Nat} {ns : List ByteArray} {L : Nat → Nat → Bool}
theorem LawV.below (h : LawV w wx b8 lb An cn Al cl ns L) (hb : Below wx.heap.size wx wy) : LawV w wy b8 lb An cn Al cl ns L :=
  ⟨h.R.below hb h.R.lt, h.B.below hb, h.bel.trans (hb.mono h.bel.size)⟩
theorem LawV.new_ (h : Below w.heap.size w wx) (B : Both wx lb An cn Al cl ns L) (Ty : TypeId) : LawV w (wx.alloc (.cells #[.slice An ns.length cn, .slice Al ns.length cl] Ty)) wx.heap.size lb An cn Al cl ns L :=
  ⟨Two.new_ _ _ _ _, B.below (al1 wx _), bTrans h (al1 wx _)⟩
end
end Go.Proofs.Ytcicejmahlobhaa
