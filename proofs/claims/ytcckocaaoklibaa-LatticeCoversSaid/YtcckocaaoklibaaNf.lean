/- Walks: Name and Find. -/
import Derived.Test.YtcckocaaoklibaaNe
namespace Go.Proofs.Ytcckocaaoklibaa
open Go.RowKit Go.Maps
set_option linter.unusedVariables false

section
variable {lb : Nat} {ns : List ByteArray} {L : Nat → Nat → Bool}
end
theorem nm_inj {ns : List ByteArray} (hz : Kl.nmC (nmAt ns) ns.length = 0) {j k : Nat} (hj : j < ns.length) (hk : k < ns.length) (e : nmAt ns j = nmAt ns k) : j = k := by
  have h1 := Kl.Dn_at hz (.lit (.int .i64 0)) j hj
  rw [e, Kl.Dn_at hz (.lit (.int .i64 0)) k hk] at h1
  injection h1 with h1
  injection h1 with _ h1
  omega

/-- a law's world: the reference's lattice in its box, both lattices -/
structure LawV (w wx : World) (b8 lb : Nat) (An : Option Addr) (cn : Nat) (Al : Option Addr) (cl : Nat) (ns : List ByteArray) (L : Nat → Nat → Bool) : Prop where
  R : Two wx b8 (.slice An ns.length cn) (.slice Al ns.length cl)
  B : Both wx lb An cn Al cl ns L
  bel : Below w.heap.size w wx
section
variable {w wx wy : World} {b8 lb : Nat} {An : Option Addr} {cn : Nat} {Al : Option Addr} {cl : Nat} {ns : List ByteArray} {L : Nat → Nat → Bool}
theorem LawV.below (h : LawV w wx b8 lb An cn Al cl ns L) (hb : Below wx.heap.size wx wy) : LawV w wy b8 lb An cn Al cl ns L :=
  ⟨h.R.below hb h.R.lt, h.B.below hb, h.bel.trans (hb.mono h.bel.size)⟩
theorem LawV.new_ (h : Below w.heap.size w wx) (B : Both wx lb An cn Al cl ns L) (Ty : TypeId) : LawV w (wx.alloc (.cells #[.slice An ns.length cn, .slice Al ns.length cl] Ty)) wx.heap.size lb An cn Al cl ns L :=
  ⟨Two.new_ _ _ _ _, B.below (al1 wx _), bTrans h (al1 wx _)⟩
end
end Go.Proofs.Ytcckocaaoklibaa
