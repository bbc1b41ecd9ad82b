/- The law BitsetBuilds, walked: New, All, Of and Valid answer as the reference does, for every size and all members. -/
import Derived.Test.YtckenemkfegopaaDoorWp
import Derived.Test.YtckenemkfegopaaDoorLawChanges
namespace Go.Proofs.YtckenemkfegopaaDoor
open Go.RowKit Go.Sort
set_option linter.unusedVariables false

theorem wAt' {w W : World} {A : Option Addr} {zs : List Int} (h : Ints w w.heap.size A zs) (hb : Below w.heap.size w W) : Ints W W.heap.size A zs := (h.below hb).more hb.size
theorem Ints.nil (w : World) (B : Nat) (A : Option Addr) : Ints w B A [] := ⟨Row.nil w B A, fun _ h => by cases h⟩

theorem new_out (n : Nat) (hn : n ≤ 4096) (w : World) : Calls Tryd.prog 124 #[.int .i64 (n : Int)] w (OutRes n (Kb.mkWords n (memB [])) 0 w) := by
  refine (new_ok n hn w).mono ?_
  rintro e w' ⟨g, hg, rfl, hblk, hb⟩
  rw [zeros_mk n (memB []) (fun _ => rfl)]
  exact ⟨some ⟨g, 0, none⟩, Kb.nw n, by rw [List.length_replicate], hblk.words hblk.lt (zeros_ok n).lt, hb⟩

end Go.Proofs.YtckenemkfegopaaDoor
