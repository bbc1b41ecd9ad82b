/- Walks: slices.Clone of declarations. -/
import Derived.Test.YtlpnbcdnlbghdaaGreatDoorXp
import Derived.Test.YtlpnbcdnlbghdaaGreatDoorLn
namespace Go.Proofs.YtlpnbcdnlbghdaaGreatDoor
open Go.RowKit Go.Sort
set_option linter.unusedVariables false

theorem infoDc : (Tryz.prog.info? 45).map (fun i => (i.zero, i.size, i.bytes)) = some (some (.agg #[.int .i64 0, .string ⟨#[]⟩, .int .i64 0, .int .i64 0, .int .i64 0, .int .i64 0, .string ⟨#[]⟩, .slice none 0 0, .slice none 0 0, .int .i64 0, .int .i64 0, .int .i64 0, .string ⟨#[]⟩, .slice none 0 0, .slice none 0 0, .slice none 0 0, .slice none 0 0]), 17, 256) := by kernel_rfl
/-- a call hands back a row of declarations of its own -/
def NewDs (l : List Dc) (w : World) (r : Ending) (w' : World) : Prop := ∃ A c, r = .returned (.slice A l.length c) ∧ w'.ownsRow w.heap.size 45 17 (.slice A l.length c) l.length (l.flatMap Dc.cells) ∧ Below w.heap.size w w'
theorem dc_one {l : List Dc} {u : Value} (h : u ∈ l.flatMap Dc.cells) : u.oneCell' = true := by
  obtain ⟨d, _, hu⟩ := List.mem_flatMap.1 h
  unfold Dc.cells at hu
  simp only [List.mem_cons, List.not_mem_nil, or_false] at hu
  rcases hu with rfl | rfl | rfl | rfl | rfl | rfl | rfl | rfl | rfl | rfl | rfl | rfl | rfl | rfl | rfl | rfl | rfl <;> rfl
set_option maxRecDepth 100000 in
set_option maxHeartbeats 2000000 in
theorem dclone_any (l : List Dc) (A : Option Addr) (c : Nat) (w : World) (hl : Dc.L w w.heap.size A l) (h8 : l.length ≤ 1000) :
    Calls Tryz.prog 19 #[.slice A l.length c] w (NewDs l w) := by
  have hnil := fun (W : World) (a : Option Addr) (l c : Nat) => Lib.run_eql_slice_nil (P := Tryz.prog) W 32 45 a l c 0 0 Tryz.underlying32
  have hr := hl.row
  have hfl := flatLen Dc.cells 17 (fun _ => rfl) l
  cases A with
  | none =>
    have h0 : l.length = 0 := by
      apply Classical.byContradiction
      intro hn
      obtain ⟨b, off, h, _⟩ := hr.cells (by rw [hfl]; omega)
      cases h
    obtain rfl := List.eq_nil_of_length_eq_zero h0
    go_enter Tryz.func19, Tryz.ntmps19
    go_wp2_with fail
    go_ret
    exact ⟨none, 0, rfl, ⟨rfl, .inl ⟨rfl, rfl⟩⟩, Below.refl _ _⟩
  | some a =>
    have hcells : ∀ j u, (l.flatMap Dc.cells)[j]? = some u → w.cell? (a.add j) = some u := fun j u hu => by
      obtain ⟨b, off, h, hb, hc⟩ := hr.cells (Nat.lt_of_le_of_lt (Nat.zero_le _) (List.getElem?_eq_some_iff.1 hu).1)
      cases h
      rw [Go.WideShapes.add_plain]; exact hc j u hu
    have hblk : ∀ j u, (l.flatMap Dc.cells)[j]? = some u → a.block < w.heap.size := fun j u hu => by
      obtain ⟨b, off, h, hb, hc⟩ := hr.cells (Nat.lt_of_le_of_lt (Nat.zero_le _) (List.getElem?_eq_some_iff.1 hu).1)
      cases h; exact hb
    have HC := Lib.hid hcells
    have HB := Lib.hid hblk
    obtain ⟨i0, hi, hz0, hz1, hz2⟩ := info_parts infoDc
    have hown : (w.alloc (.cells #[] 45)).ownsRow w.heap.size 45 17 (.slice (some ⟨w.heap.size, 0, none⟩) 0 0) 0 [] := World.ownsRow_made (e := 45) (size := 17) (base := w.heap.size) w #[] 0 (Nat.le_refl _) (by unfold maxLen; omega) rfl
    have hlm := Lib.hid hfl
    have hone := Lib.hid (fun u (h : u ∈ l.flatMap Dc.cells) => dc_one h)
    obtain ⟨xs, hxs⟩ : ∃ xs, Hid (l.flatMap Dc.cells = xs) := ⟨_, Lib.hid rfl⟩
    rw [hxs.out] at HC HB hlm hone
    unfold NewDs
    rw [hxs.out]
    clear hcells hblk hr hfl hl hxs
    go_enter Tryz.func19, Tryz.ntmps19
    go_wp2_with (at_builtin; refine wpList_append_own _ rfl _ _ 32 rfl w.heap.size 45 i0 (.agg #[.int .i64 0, .string ⟨#[]⟩, .int .i64 0, .int .i64 0, .int .i64 0, .int .i64 0, .string ⟨#[]⟩, .slice none 0 0, .slice none 0 0, .int .i64 0, .int .i64 0, .int .i64 0, .string ⟨#[]⟩, .slice none 0 0, .slice none 0 0, .slice none 0 0, .slice none 0 0]) 17 256 Tryz.underlying32 hi hz0 hz1 hz2 rfl (by decide) _ _ _ rfl hown a l.length c xs rfl hlm.out ?c1 ?c2 ?c3 ?c4 ?c5 ?_)
    case c1 =>
      intro j u hu
      have hb := HB.out j u hu
      have e : (a.add j).block = a.block := by unfold Addr.add; split <;> rfl
      rw [World.cell?_alloc_lt _ _ _ (by rw [e]; exact hb)]
      exact HC.out j u hu
    case c2 =>
      intro u hu
      exact hone.out u hu
    case c3 => unfold maxLen; omega
    case c4 => omega
    case c5 => simp
    intro v' w3 hown' hgrow _
    have b3 : Below w.heap.size w w3 := (al1 w (.cells #[] 45)).grown hgrow (by simp) (fun k e => by simp [Value.ownBlock] at e; omega)
    replace hown' : w3.ownsRow w.heap.size 45 17 v' l.length xs := by simpa using hown'
    obtain ⟨An, cn, rfl⟩ := own_slice_ hown'
    have HO := Lib.hid hown'
    clear hown' hgrow hown
    go_wp2_with fail
    go_ret
    exact ⟨An, cn, rfl, HO.out, b3⟩
end Go.Proofs.YtlpnbcdnlbghdaaGreatDoor
