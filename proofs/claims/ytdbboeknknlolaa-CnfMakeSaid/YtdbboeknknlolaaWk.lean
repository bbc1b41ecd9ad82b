/- The laws' own functions: assignment (of six variables). -/
import Derived.Test.YtdbboeknknlolaaWj
namespace Go.Proofs.Ytdbboeknknlolaa
open Go.RowKit Go.Sort
set_option linter.unusedVariables false

theorem infoBool : (Try.prog.info? 4).map (fun i => (i.zero, i.size, i.bytes)) = some (some (.bool false), 1, 1) := by kernel_rfl
def bvals (bs : List Bool) : List Value := bs.map fun x => Value.bool x
set_option maxRecDepth 100000 in
set_option maxHeartbeats 2000000 in
theorem assign_any (k : Nat) (hk : k < 64) (w : World) : Calls Try.prog 19 #[.int .i64 6, .int .i64 (k : Int)] w fun e w' => ∃ b c bs, e = .returned (.slice (some ⟨b, 0, none⟩) 6 c) ∧ Bs w' b 0 bs ∧ Below w.heap.size w w' := by
  obtain ⟨i0, hi0, hz0, hz1, hz2⟩ := info_parts infoBool
  have X : (w.alloc (.cells #[] 4)).ownsRow w.heap.size 4 1 (.slice (some ⟨w.heap.size, 0, none⟩) 0 0) 0 (bvals []) := World.ownsRow_made (e := 4) (size := 1) (base := w.heap.size) w #[] 0 (Nat.le_refl _) (by unfold maxLen; omega) rfl
  have B := al1 w (.cells #[] 4)
  go_enter Try.func19, Try.ntmps19
  go_upto_region 2 with (fail)
  go_wp2_with fail
  go_loopw [5, 6] (fun lv iv wr => ∃ (j : Nat) (t : Int) (bs : List Bool), j ≤ 6 ∧ iv = .int .i64 t ∧ t + (j : Int) = 5 ∧ bs.length = j ∧ wr.ownsRow w.heap.size 4 1 lv j (bvals bs) ∧ Below w.heap.size w wr) (fun _ iv _ => (intOf iv + 1).toNat)
  case atStart => exact ⟨0, 5, [], by omega, rfl, by omega, rfl, X, B⟩
  case round =>
    clear X B
    obtain ⟨j, t, bs, hj, rfl, ht, hl, X, B⟩ := hrel
    obtain ⟨A5, c5, rfl⟩ := own_slice_ X
    by_cases hlt : j < 6
    · obtain ⟨m, rfl⟩ : ∃ m : Nat, t = (m : Int) := ⟨t.toNat, by omega⟩
      have hm : m < 6 := by omega
      have h0 : ¬ (m : Int) < 0 := by omega
      have e1 : IntKind.i64.wrap ((m : Int) - 1) = (m : Int) - 1 := IntWalk.i64_in _ (by omega)
      have hbz := B.size
      go_wp2_with (at_builtin; refine wpList_append_lies _ rfl _ _ 39 rfl w.heap.size 4 i0 (.bool false) 1 1 Try.underlying39 hi0 hz0 hz1 hz2 rfl (by decide) (.slice A5 j c5) j (bvals bs) rfl (X.alloc _) ⟨wr.heap.size, 0, none⟩ 1 1 [.bool (bits BinOp.and IntKind.i64 ((k : Int) / 2 ^ m) 1 == 1)] rfl rfl (cell_one_new _ _ _) (by intro u hu; simp at hu; subst hu; rfl) (by decide) (by unfold maxLen; omega) (by omega) (by rw [World.size_alloc]; omega) _ rfl ?_; intro g cap w8 hown8 hgrow hat hlt8)
      have hX8 : w8.ownsRow w.heap.size 4 1 (.slice (some ⟨g, 0, none⟩) (j + 1) cap) (j + 1) (bvals (bs ++ [bits BinOp.and IntKind.i64 ((k : Int) / 2 ^ m) 1 == 1])) := by
        have : bvals (bs ++ [bits BinOp.and IntKind.i64 ((k : Int) / 2 ^ m) 1 == 1]) = bvals bs ++ [.bool (bits BinOp.and IntKind.i64 ((k : Int) / 2 ^ m) 1 == 1)] := by simp [bvals]
        rw [this]; exact hown8
      have hB8 := (B.alloc B.size (.cells #[.bool (bits BinOp.and IntKind.i64 ((k : Int) / 2 ^ m) 1 == 1)] 4)).grown hgrow (by rw [World.size_alloc]; omega) (fun k e => (X.lt k e).1)
      clear hown8 hgrow hat X B
      revert hX8
      generalize (bits BinOp.and IntKind.i64 ((k : Int) / 2 ^ m) 1 == 1) = u
      intro hX8
      have HX8 := Lib.hid hX8
      have HB8 := Lib.hid hB8
      clear hX8 hB8
      go_wp2_with fail
      go_roundw
      case rel => exact ⟨j + 1, (m : Int) - 1, bs ++ [u], by omega, rfl, by omega, by rw [List.length_append, hl]; rfl, HX8.out, HB8.out⟩
      case measure => simp [intOf]
    · obtain rfl : j = 6 := by omega
      obtain rfl : t = -1 := by omega
      obtain ⟨g, cap, hv, -, -⟩ := X.form (by omega)
      rw [hv] at X ⊢
      have HX := Lib.hid X
      have HB : Hid (∃ b c bs, Ending.returned (.slice (some ⟨g, 0, none⟩) 6 cap) = .returned (.slice (some ⟨b, 0, none⟩) 6 c) ∧ Bs wr b 0 bs) := Lib.hid ⟨g, cap, bs, rfl, hl, fun k u hu => by
        have h2 := X.cells (g := g) rfl k (.bool u) (by unfold bvals; rw [List.getElem?_map, hu]; rfl)
        have e : (⟨g, 0, none⟩ : Addr).add k = ⟨g, 0 + k, none⟩ := by unfold Addr.add; split <;> simp_all
        rwa [e] at h2⟩
      clear X hl
      go_wp2_with fail
      go_ret
      obtain ⟨b, c, bs2, h1, h2⟩ := HB.out
      exact ⟨b, c, bs2, h1, h2, B⟩
end Go.Proofs.Ytdbboeknknlolaa
