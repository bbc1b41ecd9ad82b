/- Walks: the reference's Of, Space. -/
import Derived.Test.YtkcnaedffcmodaaW6
namespace Go.Proofs.Ytkcnaedffcmodaa
open Go.RowKit Go.Maps
set_option linter.unusedVariables false

/-- a row of variables that the call makes -/
structure VsOwn (w wr : World) (v : Value) (vs : List Kd.V) : Prop where
  own : wr.ownsRow w.heap.size 51 5 v vs.length (vflat vs)
  bel : Below w.heap.size w wr
theorem VsOwn.vrs {w wr : World} {A : Option Addr} {c : Nat} {vs : List Kd.V} (h : VsOwn w wr (.slice A vs.length c) vs) (hb : ∀ v ∈ vs, inI v.kd ∧ inI v.lo ∧ inI v.hi ∧ inI v.ini) : Vrs wr wr.heap.size A vs := ⟨Row.of_ownN h.own, hb⟩
theorem VsOwn.snoc {w wr w3 : World} {v v' : Value} {vs : List Kd.V} {o : Obj} {x : Kd.V} (h : VsOwn w wr v vs)
    (ho : w3.ownsRow w.heap.size 51 5 v' (vs.length + 1) (vflat vs ++ vcells x))
    (hgr : (wr.alloc o).grownBy w3 v.ownBlock) : VsOwn w w3 v' (vs ++ [x]) where
  own := by
    rw [vflat_append, List.length_append]; exact ho
  bel := (bAlloc h.bel o).grown hgr (by have := h.bel.size; rw [World.size_alloc]; omega) (fun k hk => (h.own.lt k hk).1)

theorem cells_new (w : World) (xs : Array Value) (T : TypeId) : ∀ j u, xs.toList[j]? = some u → (w.alloc (.cells xs T)).cell? ((⟨w.heap.size, 0, none⟩ : Addr).add j) = some u := by
  intro j u hu
  have e : (⟨w.heap.size, 0, none⟩ : Addr).add j = ⟨w.heap.size, j, none⟩ := by unfold Addr.add; split <;> simp_all
  rw [e, cell_of_row _ _ j _ _ _ (heap_alloc_new w _)]; simpa using hu
/-- what Of hands back -/
def VsRes (vs : List Kd.V) (w : World) (e : Ending) (w' : World) : Prop :=
  ∃ A c, e = .returned (.slice A vs.length c) ∧ Vrs w' w'.heap.size A vs ∧ Below w.heap.size w w'

set_option maxRecDepth 100000 in
set_option maxHeartbeats 2000000 in
theorem of_any (A : Option Addr) (c : Nat) (vs : List Kd.V) (k : Int) (w : World) (h : Vrs w w.heap.size A vs) (hl : vs.length * 48 ≤ 140737488351232) :
    Calls Try.prog 25 #[.slice A vs.length c, .int .i64 k] w (VsRes (Kd.sel k vs) w) := by
  obtain ⟨i0, hi, hz0, hz1, hz2⟩ := info_parts infoVar
  go_enter Try.func25, Try.ntmps25
  go_wp2_with fail
  have I0 : VsOwn w (w.alloc (.cells #[] 51)) (.slice (some ⟨w.heap.size, 0, none⟩) 0 0) [] := ⟨World.ownsRow_made (e := 51) (size := 5) (base := w.heap.size) w #[] 0 (Nat.le_refl _) (by unfold maxLen; omega) rfl, newB1 _ _⟩
  go_loopw [5, 6] (fun v iv wr => ∃ i : Nat, i ≤ vs.length ∧ iv = .int .i64 i ∧ VsOwn w wr v (Kd.sel k (vs.take i))) (fun _ iv _ => vs.length - (intOf iv).toNat)
  case atStart => exact ⟨0, Nat.zero_le _, rfl, I0⟩
  case round =>
    clear I0
    obtain ⟨i, hi1, rfl, I⟩ := hrel
    by_cases hlt : i < vs.length
    · obtain ⟨b, off, nm, kd, lo, hi2, ini, rfl, hbb, c0, c1, c2, c3, c4, hv, hbd⟩ := (h.below I.bel).at_ hlt
      have hltI : (i : Int) < (vs.length : Int) := by omega
      have hT := Lib.hid hv.take
      by_cases hkd : kd = k
      · subst hkd
        have hsl : (Kd.sel kd (vs.take i)).length ≤ i := Nat.le_trans (List.length_filter_le _ _) (by rw [List.length_take]; omega)
        have HN : Hid (Kd.sel kd (vs.take (i + 1)) = Kd.sel kd (vs.take i) ++ [⟨nm, kd, lo, hi2, ini⟩]) := Lib.hid (by rw [hT.out, Kd.sel_snoc, if_pos rfl])
        revert I hsl HN
        generalize Kd.sel kd (vs.take i) = l
        intro I hsl HN
        obtain ⟨A', c', rfl⟩ := own_sliceN I.own
        have ho := I.own
        go_wp2_with (at_builtin; refine wpList_append_own _ rfl _ _ 22 rfl w.heap.size 51 i0 (.agg #[.string ⟨#[]⟩, .int .i64 0, .int .i64 0, .int .i64 0, .int .i64 0]) 5 48 Try.underlying22 hi hz0 hz1 hz2 rfl (by decide) _ _ _ rfl (ho.alloc _) ⟨_, 0, none⟩ 1 1 [.string nm, .int .i64 kd, .int .i64 lo, .int .i64 hi2, .int .i64 ini] rfl rfl ?c1 ?c2 ?c3 ?c4 ?c5 ?_)
        case c1 => exact cells_new _ _ _
        case c2 => intro u hu; simp at hu; rcases hu with rfl | rfl | rfl | rfl | rfl <;> rfl
        case c3 => unfold maxLen; omega
        case c4 => omega
        case c5 => have := I.bel.size; first | omega | (simp; omega)
        intro v' w3 hown' hgrow _
        have I3 := I.snoc (x := ⟨nm, kd, lo, hi2, ini⟩) hown' hgrow
        clear hown' hgrow ho I
        go_wp2_with fail
        go_roundw
        case rel => exact ⟨i + 1, by omega, by go_num, by rw [HN.out]; exact I3⟩
        case measure => simp [intOf]; omega
      · have hne : (kd == k) = false := by simpa using hkd
        have HN : Hid (Kd.sel k (vs.take (i + 1)) = Kd.sel k (vs.take i)) := Lib.hid (by rw [hT.out, Kd.sel_snoc, if_neg hkd, List.append_nil])
        clear hkd
        go_wp2_with fail
        go_roundw
        case rel => exact ⟨i + 1, by omega, by go_num, by rw [HN.out]; exact I⟩
        case measure => simp [intOf]; omega
    · obtain rfl : i = vs.length := by omega
      rw [List.take_length] at I
      obtain ⟨A', c', rfl⟩ := own_sliceN I.own
      have hV := I.vrs fun v hv => h.bd v (List.mem_filter.1 hv).1
      go_wp2_with fail
      go_ret
      exact ⟨A', c', rfl, hV, I.bel⟩
end Go.Proofs.Ytkcnaedffcmodaa
