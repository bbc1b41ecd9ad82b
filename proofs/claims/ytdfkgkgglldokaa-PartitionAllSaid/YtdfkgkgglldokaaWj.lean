/- Walks: slices.Equal of lists of other lengths; the law's table. -/
import Derived.Test.YtdfkgkgglldokaaWi
import Derived.Test.YtdfkgkgglldokaaWg
namespace Go.Proofs.Ytdfkgkgglldokaa
open Go.RowKit Go.Maps
set_option linter.unusedVariables false

namespace Kp
theorem lt_cmp {a b : List Nat} (h : ltN a b = true) : cmpL (zN a) (zN b) = -1 := by
  induction a generalizing b with
  | nil => cases b <;> simp [ltN] at h
  | cons x r ih => cases b with
    | nil => simp [ltN] at h
    | cons y s =>
      unfold ltN at h
      rw [Bool.or_eq_true, Bool.and_eq_true, Nat.blt_eq] at h
      show (if Int.ofNat x < Int.ofNat y then -1 else if Int.ofNat y < Int.ofNat x then 1 else cmpL (zN r) (zN s)) = -1
      have ex : Int.ofNat x = (x : Int) := rfl
      have ey : Int.ofNat y = (y : Int) := rfl
      rw [ex, ey]
      rcases h with h | ⟨h1, h2⟩
      · rw [if_pos (by omega)]
      · have := Nat.eq_of_beq_eq_true h1
        rw [if_neg (by omega), if_neg (by omega)]
        exact ih h2
end Kp

set_option maxRecDepth 100000 in
set_option maxHeartbeats 400000 in
theorem seqi_len (A B : Option Addr) (ca cb na nb : Nat) (w : World) (h : na ≠ nb) :
    Calls Try.prog 12 #[.slice A na ca, .slice B nb cb] w fun e w' => e = .returned (.bool false) ∧ w = w' := by
  have hl1 : ((na : Int) != (nb : Int)) = true := by simp; omega
  clear h
  go_enter Try.func12, Try.ntmps12
  go_wp2_with fail
  go_ret
  exact ⟨rfl, rfl⟩
/-- slices.Equal, of a list that may be long and a short one -/
theorem seqi_short (A B : Option Addr) (ca cb : Nat) (wa wb : List Int) (w : World) (ha : Ints w w.heap.size A wa) (hb : Ints w w.heap.size B wb) (hlb : wb.length ≤ 8) :
    Calls Try.prog 12 #[.slice A wa.length ca, .slice B wb.length cb] w fun e w' => e = .returned (.bool (wa == wb)) ∧ ∃ q, w' = w.drewN q := by
  by_cases hl : wa.length = wb.length
  · exact seqi_any A B ca cb wa wb w ha hb (by omega)
  · refine (seqi_len A B ca cb wa.length wb.length w hl).mono ?_
    rintro e w' ⟨rfl, rfl⟩
    rw [zlist_ne_len hl]
    exact ⟨rfl, 0, rfl⟩

theorem table_cell (n : Nat) (hn : n ≤ 8) (W : World) : (W.alloc (.cells #[.int .i64 1, .int .i64 1, .int .i64 2, .int .i64 5, .int .i64 15, .int .i64 52, .int .i64 203, .int .i64 877, .int .i64 4140] 3)).cell? ⟨W.heap.size, n, none⟩ = some (.int .i64 (Kp.bell n : Nat)) := by
  rw [cell_of_row _ _ n _ _ _ (heap_alloc_new W _)]
  obtain rfl | rfl | rfl | rfl | rfl | rfl | rfl | rfl | rfl : n = 0 ∨ n = 1 ∨ n = 2 ∨ n = 3 ∨ n = 4 ∨ n = 5 ∨ n = 6 ∨ n = 7 ∨ n = 8 := by omega
  all_goals rfl
end Go.Proofs.Ytdfkgkgglldokaa
