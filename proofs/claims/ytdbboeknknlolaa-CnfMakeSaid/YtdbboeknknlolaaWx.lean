/- Walks: Make of the package. -/
import Derived.Test.YtdbboeknknlolaaWv
import Derived.Test.YtdbboeknknlolaaWo
import Derived.Test.YtdbboeknknlolaaWq
namespace Go.Proofs.Ytdbboeknknlolaa
open Go.RowKit Go.Sort
set_option linter.unusedVariables false

/-- the code of Make with few clauses -/
def mkC (v k : Int) (L : List (List Int)) : Int := if v < 0 ∨ k < 0 ∨ v < k then 1 else if 20000 < v then 4 else if wiL v L = false then 3 else 0
theorem mkC_val (v k : Int) (L : List (List Int)) : mkC v k L = 0 ∨ mkC v k L = 1 ∨ mkC v k L = 3 ∨ mkC v k L = 4 := by
  unfold mkC
  split
  · simp
  · split
    · simp
    · split <;> simp
/-- what Make hands back -/
def MkR (v k R : Int) (L : List (List Int)) (r : Ending) (w' : World) : Prop :=
  (R ≠ 0 ∧ r = .returned (.tuple #[.agg #[.int .i64 0, .int .i64 0, .slice none 0 0], .int .i64 R])) ∨
  (R = 0 ∧ ∃ A c ds, r = .returned (.tuple #[.agg #[.int .i64 v, .int .i64 k, .slice A ds.length c], .int .i64 0]) ∧ ct ds = canL L ∧ LL w' w'.heap.size A ds)
theorem canL_len_ (L : List (List Int)) : (canL L).length ≤ L.length := by
  unfold canL
  exact Nat.le_trans (srt_len _) (Nat.le_trans (List.length_filter_le _ _) (by rw [List.length_map]; exact Nat.le_refl _))
set_option maxRecDepth 100000 in
set_option maxHeartbeats 4000000 in
theorem make_any (cs : List Cl) (A : Option Addr) (ca : Nat) (v k : Int) (w : World) (hx : LL w w.heap.size A cs) (hlx : cs.length ≤ 60000) (hcx : ∀ c ∈ cs, c.zs.length ≤ 1000000) :
    Calls Try.prog 16 #[.int .i64 v, .int .i64 k, .slice A cs.length ca] w fun e w' => MkR v k (mkC v k (ct cs)) (ct cs) e w' ∧ Below w.heap.size w w' := by
  have B := Blk.new_ w #[.int .i64 0, .int .i64 0, .slice none 0 0] 24
  have g1 := Gro.al w (.cells #[.int .i64 0, .int .i64 0, .slice none 0 0] 24)
  obtain ⟨n, hn⟩ : ∃ n, Hid (cs.length = n) := ⟨_, Lib.hid rfl⟩
  have HI := Lib.hid (fun W (h : Gro w W) (hv : 0 ≤ v ∧ v ≤ 20000) => within_any cs A ca W (hx.at h.bel) (by omega) hcx v hv)
  have HC := Lib.hid (fun W (h : Gro w W) => canonical_new cs A ca W (hx.at h.bel) (by omega) hcx)
  obtain ⟨R, hR⟩ : ∃ R, Hid (mkC v k (ct cs) = R) := ⟨_, Lib.hid rfl⟩
  obtain ⟨u, hu⟩ : ∃ u, Hid (wiL v (ct cs) = u) := ⟨_, Lib.hid rfl⟩
  have HR : Hid (R = if v < 0 ∨ k < 0 ∨ v < k then 1 else if 20000 < v then 4 else if u = false then 3 else 0) := Lib.hid (by rw [← hR.out, ← hu.out]; rfl)
  have HLn := Lib.hid (canL_len_ (ct cs))
  rw [hR.out]
  rw [hn.out] at HI HC hlx ⊢
  rw [hu.out] at HI
  unfold NLN at HC
  clear hx hcx hR hu
  go_enter Try.func16, Try.ntmps16
  go_upto_region 1 with (fail)
  revert B
  revert g1
  generalize hw1 : w.alloc (.cells #[.int .i64 0, .int .i64 0, .slice none 0 0] 24) = w1
  intro g1 B
  have hs1 : w1.heap.size = w.heap.size + 1 := by rw [← hw1, World.size_alloc]
  clear hw1
  have f0 := B.fr 0
  have f1 := B.fr 1
  have f2 := B.fr 2
  have c0 := B.c 0 rfl
  have c1 := B.c 1 rfl
  have c2 := B.c 2 rfl
  have P := ((B.put 0 (.int .i64 0)).put 1 (.int .i64 0)).put 2 (.slice none 0 0)
  have r0 := P.c 0 rfl
  have r1 := P.c 1 rfl
  have r2 := P.c 2 rfl
  have bE := Lib.hid (((g1.bel.setCell (p := ⟨w.heap.size, 0, none⟩) (Nat.le_refl _) (.int .i64 0)).setCell (p := ⟨w.heap.size, 1, none⟩) (Nat.le_refl _) (.int .i64 0)).setCell (p := ⟨w.heap.size, 2, none⟩) (Nat.le_refl _) (.slice none 0 0))
  clear P
  by_cases h1 : v < 0
  · have hr : R = 1 := by rw [HR.out, if_pos (.inl h1)]
    subst hr
    clear HR HI HC B
    go_wp2_with fail
    refine bodyPost_ret (v := .tuple #[.agg #[.int .i64 0, .int .i64 0, .slice none 0 0], .int .i64 1]) (by simp [results, Try.results16, go_sem, r0, r1, r2]) rfl ?_
    exact ⟨.inl ⟨by decide, rfl⟩, bE.out⟩
  by_cases h2 : k < 0
  · have hr : R = 1 := by rw [HR.out, if_pos (.inr (.inl h2))]
    subst hr
    clear HR HI HC B
    go_wp2_with fail
    refine bodyPost_ret (v := .tuple #[.agg #[.int .i64 0, .int .i64 0, .slice none 0 0], .int .i64 1]) (by simp [results, Try.results16, go_sem, r0, r1, r2]) rfl ?_
    exact ⟨.inl ⟨by decide, rfl⟩, bE.out⟩
  by_cases h3 : v < k
  · have hr : R = 1 := by rw [HR.out, if_pos (.inr (.inr h3))]
    subst hr
    clear HR HI HC B
    go_wp2_with fail
    refine bodyPost_ret (v := .tuple #[.agg #[.int .i64 0, .int .i64 0, .slice none 0 0], .int .i64 1]) (by simp [results, Try.results16, go_sem, r0, r1, r2]) rfl ?_
    exact ⟨.inl ⟨by decide, rfl⟩, bE.out⟩
  by_cases h4 : 20000 < v
  · have hr : R = 4 := by rw [HR.out, if_neg (by omega), if_pos h4]
    subst hr
    clear HR HI HC B
    go_wp2_with fail
    refine bodyPost_ret (v := .tuple #[.agg #[.int .i64 0, .int .i64 0, .slice none 0 0], .int .i64 4]) (by simp [results, Try.results16, go_sem, r0, r1, r2]) rfl ?_
    exact ⟨.inl ⟨by decide, rfl⟩, bE.out⟩
  have HR2 : Hid (R = if u = false then 3 else 0) := Lib.hid (by rw [HR.out, if_neg (by omega), if_neg h4])
  have HI2 := Lib.hid (HI.out _ g1 (by omega))
  clear HR HI
  go_wp2_with fail
  refine HI2.out.mono ?_
  rintro r w2 ⟨rfl, rfl⟩
  clear HI2
  cases u with
  | false =>
    have hr : R = 3 := by rw [HR2.out]; rfl
    subst hr
    clear HR2 HC B
    go_wp2_with fail
    refine bodyPost_ret (v := .tuple #[.agg #[.int .i64 0, .int .i64 0, .slice none 0 0], .int .i64 3]) (by simp [results, Try.results16, go_sem, r0, r1, r2]) rfl ?_
    exact ⟨.inl ⟨by decide, rfl⟩, bE.out⟩
  | true =>
    have hr : R = 0 := by rw [HR2.out]; rfl
    subst hr
    have HC2 := Lib.hid (HC.out _ g1)
    clear HC HR2 r0 r1 r2 f0 f1 f2 c0 c1 c2 bE
    go_wp2_with fail
    refine HC2.out.mono ?_
    rintro r w3 ⟨A2, c2, ds, rfl, q1, q0, q2, q3⟩
    have B3 := B.below q3 B.lt
    have f0 := B3.fr 0
    have f1 := B3.fr 1
    have f2 := B3.fr 2
    have c0 := B3.c 0 rfl
    have c1 := B3.c 1 rfl
    have c3 := B3.c 2 rfl
    have P := ((B3.put 0 (.int .i64 v)).put 1 (.int .i64 k)).put 2 (.slice A2 ds.length c2)
    have r0 := P.c 0 rfl
    have r1 := P.c 1 rfl
    have r2 := P.c 2 rfl
    have hdl : ds.length ≤ 60000 := by
      have e1 := congrArg List.length q1
      rw [List.length_map] at e1
      have := HLn.out
      rw [List.length_map, hn.out] at this
      omega
    have h60 : ¬ (60000 : Int) < (ds.length : Int) := by omega
    have HL5 := Lib.hid (q2.new_ (W' := ((w3.setCell ⟨w.heap.size, 0, none⟩ (.int .i64 v)).setCell ⟨w.heap.size, 1, none⟩ (.int .i64 k)).setCell ⟨w.heap.size, 2, none⟩ (.slice A2 ds.length c2)) q0 (show w.heap.size < w1.heap.size by omega) (fun q hq => by
      rw [World.cell?_of_block (Below.heap_setCell _ _ _ _ (by exact hq)), World.cell?_of_block (Below.heap_setCell _ _ _ _ (by exact hq)), World.cell?_of_block (Below.heap_setCell _ _ _ _ (by exact hq))]) (by simp [World.setCell]))
    have HB5 := Lib.hid ((((g1.bel.trans (q3.mono (show w.heap.size ≤ w1.heap.size by omega))).setCell (p := ⟨w.heap.size, 0, none⟩) (Nat.le_refl _) (.int .i64 v)).setCell (p := ⟨w.heap.size, 1, none⟩) (Nat.le_refl _) (.int .i64 k)).setCell (p := ⟨w.heap.size, 2, none⟩) (Nat.le_refl _) (.slice A2 ds.length c2))
    have H1 := Lib.hid q1
    clear q0 q1 q2 q3 P HC2 B B3 hdl
    go_wp2_with fail
    refine bodyPost_ret (v := .tuple #[.agg #[.int .i64 v, .int .i64 k, .slice A2 ds.length c2], .int .i64 0]) (by simp [results, Try.results16, go_sem, r0, r1, r2]) rfl ?_
    exact ⟨.inr ⟨rfl, A2, c2, ds, rfl, H1.out, HL5.out⟩, HB5.out⟩
end Go.Proofs.Ytdbboeknknlolaa
