/- Walks: strconv.Atoi at every text, strings.Cut and strings.TrimPrefix, as the package's Parse calls them. -/
import Derived.Test.YtckenemkfegopaaDoorT3
import Derived.Test.YtckenemkfegopaaDoorShelf
import Derived.Lib.SmallJoins
namespace Go.Proofs.YtckenemkfegopaaDoor
open Go.RowKit
set_option linter.unusedVariables false

/-- what the walks read of the library's variables -/
structure BtT (w : World) : Prop where
  tabs : Tabs w
  mx : ∃ m, w.cell? ⟨4, 0, none⟩ = some (.int .i64 m)
  es : ∃ te pe, w.cell? ⟨5, 0, none⟩ = some (.iface te pe)
  er : ∃ te pe, w.cell? ⟨6, 0, none⟩ = some (.iface te pe)
theorem BtT.below {w w' : World} (h : BtT w) (hb : Below w.heap.size w w') : BtT w' :=
  ⟨h.tabs.below hb,
   by obtain ⟨m, h1⟩ := h.mx; exact ⟨m, (hb.cell (p := ⟨4, 0, none⟩) (World.block_lt_of_cell? w _ h1)).trans h1⟩,
   by obtain ⟨te, pe, h1⟩ := h.es; exact ⟨te, pe, (hb.cell (p := ⟨5, 0, none⟩) (World.block_lt_of_cell? w _ h1)).trans h1⟩,
   by obtain ⟨te, pe, h1⟩ := h.er; exact ⟨te, pe, (hb.cell (p := ⟨6, 0, none⟩) (World.block_lt_of_cell? w _ h1)).trans h1⟩⟩
/-- what Atoi hands back -/
def AtoiAns (l : List UInt8) (w : World) (e : Ending) (w' : World) : Prop :=
  Below w.heap.size w w' ∧ ((∃ v, Lib.atoiAll l = .ok v ∧ e = .returned (.tuple #[.int .i64 v, .nilIface])) ∨
    ((∀ v, Lib.atoiAll l ≠ .ok v) ∧ ∃ v N, e = .returned (.tuple #[.int .i64 v, .iface 152 (.pointer (some ⟨N, 0, none⟩))])))
theorem atoi_ans (s : ByteArray) (hs : s.size ≤ 1000000) (w : World) (hT : BtT w) : Calls Tryd.prog 99 #[.string s] w (AtoiAns (bs s) w) := by
  cases h : Lib.atoiAll s.data.toList with
  | ok v =>
    refine (Tryd.strconv_Atoi_ok s (by omega) _ h w).mono ?_
    rintro e w' ⟨rfl, rfl | ⟨t, rfl⟩⟩
    · exact ⟨Below.refl _ _, .inl ⟨v, h, rfl⟩⟩
    · exact ⟨Joins.below_bytesWorld _ _ _ _ (Nat.le_refl _), .inl ⟨v, h, rfl⟩⟩
  | «syntax» =>
    obtain ⟨te, pe, hes⟩ := hT.es
    refine (Tryd.strconv_Atoi_syntax s (by omega) h (.iface te pe) w hes (.inr ⟨te, pe, rfl⟩)).mono ?_
    rintro e w' ⟨N, rfl, _, _, hbel⟩
    exact ⟨hbel, .inr ⟨fun v e => (by have e2 := h.symm.trans e; cases e2), _, N, rfl⟩⟩
  | range =>
    obtain ⟨te, pe, her⟩ := hT.er
    refine (Tryd.strconv_Atoi_range s (by omega) h (.iface te pe) w her (.inr ⟨te, pe, rfl⟩)).mono ?_
    rintro e w' ⟨N, rfl, _, _, hbel⟩
    exact ⟨hbel, .inr ⟨fun v e => (by have e2 := h.symm.trans e; cases e2), _, N, rfl⟩⟩
theorem cut_any (s sep : ByteArray) (hs : s.size ≤ 1000000) (w : World) (hT : BtT w) :
    Calls Tryd.prog 96 #[.string s, .string sep] w fun e w' => e = .returned (.tuple #[.string (mkB (Lib.cut (bs s) (bs sep)).1), .string (mkB (Lib.cut (bs s) (bs sep)).2.1), .bool (Lib.cut (bs s) (bs sep)).2.2]) ∧ ∃ n, w' = w.drewN n := by
  obtain ⟨m, hm⟩ := hT.mx
  exact Tryd.strings_Cut s sep m w (by omega) hm
theorem trim_any (s p : ByteArray) (w : World) :
    Calls Tryd.prog 97 #[.string s, .string p] w fun e w' => e = .returned (.string (mkB (Lib.trimPrefix (bs s) (bs p)))) ∧ w' = w :=
  Tryd.strings_TrimPrefix s p w
end Go.Proofs.YtckenemkfegopaaDoor
