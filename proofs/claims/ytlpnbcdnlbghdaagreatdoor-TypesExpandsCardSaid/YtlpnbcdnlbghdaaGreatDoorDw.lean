/- Walks: slices.ContainsFunc over declarations at its two conditions; fewDecls. -/
import Derived.Test.YtlpnbcdnlbghdaaGreatDoorRe
import Derived.Test.YtlpnbcdnlbghdaaGreatDoorDl
namespace Go.Proofs.YtlpnbcdnlbghdaaGreatDoor
open Go.RowKit Go.Sort
set_option linter.unusedVariables false

/-- the name that no program bears -/
abbrev unB : ByteArray := ⟨#[117, 110, 117, 115, 101, 100, 110, 97, 109, 101]⟩
def fewD (d : Dc) : Bool := !fewB d.t
def isUn (d : Dc) : Bool := decide (d.nm = unB)
theorem dbx {w : World} {b : Nat} {d : Dc} (h : Blk w b d.box) : w.cell? ⟨b, 1, none⟩ = some (.string d.nm) ∧ w.cell? ⟨b, 2, none⟩ = some (.int .i64 d.t.kd) ∧ w.cell? ⟨b, 3, none⟩ = some (.int .i64 d.t.lo) ∧ w.cell? ⟨b, 4, none⟩ = some (.int .i64 d.t.hi) ∧ w.cell? ⟨b, 5, none⟩ = some (.int .i64 d.t.sz) ∧ w.cell? ⟨b, 6, none⟩ = some (.string d.t.nm) ∧ w.cell? ⟨b, 7, none⟩ = some (.slice d.t.na d.t.ns.length d.t.nc) ∧ w.cell? ⟨b, 8, none⟩ = some (.slice d.t.ad d.t.ks.length d.t.cap) :=
  ⟨h.c 1 rfl, h.c 2 rfl, h.c 3 rfl, h.c 4 rfl, h.c 5 rfl, h.c 6 rfl, h.c 7 rfl, h.c 8 rfl⟩
set_option maxRecDepth 100000 in
set_option maxHeartbeats 1000000 in
theorem fewD_any (d : Dc) (w : World) (hin : Dc.In w w.heap.size d) : Calls Tryz.prog 46 #[d.val] w fun r w' => r = .returned (.bool (fewD d)) ∧ Below w.heap.size w w' := by
  obtain ⟨c1, c2, c3, c4, c5, c6, c7, c8⟩ := dbx (Blk.new_ w d.box 45)
  have HR : Hid ((!fewB d.t) = fewD d) := Lib.hid rfl
  have hb := al1 w (.cells d.box 45)
  have HF := Lib.hid (few_any d.t _ (hin.t.at hb))
  clear hin
  go_enter Tryz.func46, Tryz.ntmps46
  go_wp2_with fail
  refine HF.out.mono ?_
  rintro r w1 ⟨rfl, b1⟩
  have b2 := bTrans hb b1
  go_wp2_with fail
  go_ret
  exact ⟨ret_bool HR.out, b2⟩
set_option maxRecDepth 100000 in
set_option maxHeartbeats 1000000 in
theorem isUn_any (d : Dc) (w : World) (hin : Dc.In w w.heap.size d) : Calls Tryz.prog 21 #[d.val] w fun r w' => r = .returned (.bool (isUn d)) ∧ Below w.heap.size w w' := by
  obtain ⟨c1, c2, c3, c4, c5, c6, c7, c8⟩ := dbx (Blk.new_ w d.box 45)
  have HR : Hid ((d.nm.toList == [117, 110, 117, 115, 101, 100, 110, 97, 109, 101]) = isUn d) := Lib.hid (by have h := str_eq (s := d.nm) (t := unB); rw [show unB.toList = [117, 110, 117, 115, 101, 100, 110, 97, 109, 101] by rw [bs_toList]; rfl] at h; exact h)
  have hb := al1 w (.cells d.box 45)
  clear hin
  go_enter Tryz.func21, Tryz.ntmps21
  go_wp2_with fail
  go_ret
  exact ⟨ret_bool HR.out, hb⟩
theorem few_hit {l : List Dc} {k : Nat} {d : Dc} (h : Dc.Is l k d) (hp : fewD d = true) : l.any fewD = true := by
  obtain ⟨hk, rfl⟩ := h.eq
  rw [List.any_eq_true]
  exact ⟨_, List.getElem_mem hk, hp⟩
theorem few_none {l : List Dc} (h : ∀ k, k < l.length → ∀ d, Dc.Is l k d → fewD d = false) : l.any fewD = false := by
  rw [List.any_eq_false]
  intro x hx
  obtain ⟨j, hj, rfl⟩ := List.mem_iff_getElem.1 hx
  rw [h j hj _ ⟨hj, rfl⟩]; decide
theorem few_next {l : List Dc} {i : Nat} {d : Dc} (h : ∀ k, k < i → ∀ d, Dc.Is l k d → fewD d = false) (hi : Dc.Is l i d) (hp : fewD d = false) : ∀ k, k < i + 1 → ∀ d, Dc.Is l k d → fewD d = false := fun k hk d' hd' => by
  by_cases hki : k = i
  · subst hki
    obtain ⟨_, rfl⟩ := hi.eq
    obtain ⟨_, rfl⟩ := hd'.eq
    exact hp
  · exact h k (by omega) d' hd'
set_option maxRecDepth 100000 in
set_option maxHeartbeats 1000000 in
theorem fewindex_any (l : List Dc) (A : Option Addr) (c : Nat) (w : World) (hl : Dc.L w w.heap.size A l) :
    Calls Tryz.prog 51 #[.slice A l.length c, .func (.func 46) #[] #[]] w fun r w' => ∃ z : Int, r = .returned (.int .i64 z) ∧ decide (0 ≤ z) = l.any fewD ∧ Below w.heap.size w w' := by
  have hlen := hl.len
  have X : Below w.heap.size w w := Below.refl _ _
  go_enter Tryz.func51, Tryz.ntmps51
  go_wp2_with fail
  go_loopw [8] (fun iv wr => ∃ i : Nat, i ≤ l.length ∧ iv = .int .i64 i ∧ Hid (∀ k, k < i → ∀ d, Dc.Is l k d → fewD d = false) ∧ Below w.heap.size w wr) (fun iv _ => l.length - (intOf iv).toNat)
  case atStart => exact ⟨0, Nat.zero_le _, rfl, Lib.hid (fun k hk => absurd hk (Nat.not_lt_zero _)), X⟩
  case round =>
    clear X
    obtain ⟨i, hi, rfl, hg, Y⟩ := hrel
    by_cases hlt : i < l.length
    · obtain ⟨ab, off, d, rfl, hab, ⟨d0, d1, d2, d3, d4, d5, d6, d7, d8, d9, d10, d11, d12, d13, d14, d15, d16⟩, his, hkin⟩ := (hl.below Y).at_ hlt
      have HC := Lib.hid (fewD_any d wr (hkin.more Y.size))
      cases hq : fewD d with
      | true =>
        have HR := Lib.hid (few_hit his hq)
        rw [hq] at HC
        clear hq hg hkin
        go_wp2_with fail
        refine HC.out.mono ?_
        rintro r w2 ⟨rfl, b2⟩
        have Y2 := bTrans Y b2
        go_wp2_with fail
        go_ret
        exact ⟨_, rfl, by rw [HR.out, decide_eq_true (by omega)], Y2⟩
      | false =>
        have HG := Lib.hid (few_next hg.out his hq)
        rw [hq] at HC
        clear hq hg hkin
        go_wp2_with fail
        refine HC.out.mono ?_
        rintro r w2 ⟨rfl, b2⟩
        have Y2 := bTrans Y b2
        go_wp2_with fail
        go_roundw
        case rel => exact ⟨i + 1, by omega, by go_num, HG, Y2⟩
        case measure => simp [intOf]; omega
    · obtain rfl : i = l.length := by omega
      have HR := Lib.hid (few_none hg.out)
      go_wp2_with fail
      go_ret
      exact ⟨_, rfl, by rw [HR.out]; decide, Y⟩
set_option maxRecDepth 100000 in
theorem fewcontains_any (l : List Dc) (A : Option Addr) (c : Nat) (w : World) (hl : Dc.L w w.heap.size A l) :
    Calls Tryz.prog 20 #[.slice A l.length c, .func (.func 46) #[] #[]] w fun r w' => r = .returned (.bool (l.any fewD)) ∧ Below w.heap.size w w' := by
  go_enter Tryz.func20, Tryz.ntmps20
  go_wp2_with fail
  refine (fewindex_any l A c w hl).mono ?_
  rintro r w1 ⟨z, rfl, hz, b⟩
  have HZ := Lib.hid hz
  clear hz
  go_wp2_with fail
  go_ret
  exact ⟨ret_bool HZ.out, b⟩
theorem un_hit {l : List Dc} {k : Nat} {d : Dc} (h : Dc.Is l k d) (hp : isUn d = true) : l.any isUn = true := by
  obtain ⟨hk, rfl⟩ := h.eq
  rw [List.any_eq_true]
  exact ⟨_, List.getElem_mem hk, hp⟩
theorem un_none {l : List Dc} (h : ∀ k, k < l.length → ∀ d, Dc.Is l k d → isUn d = false) : l.any isUn = false := by
  rw [List.any_eq_false]
  intro x hx
  obtain ⟨j, hj, rfl⟩ := List.mem_iff_getElem.1 hx
  rw [h j hj _ ⟨hj, rfl⟩]; decide
theorem un_next {l : List Dc} {i : Nat} {d : Dc} (h : ∀ k, k < i → ∀ d, Dc.Is l k d → isUn d = false) (hi : Dc.Is l i d) (hp : isUn d = false) : ∀ k, k < i + 1 → ∀ d, Dc.Is l k d → isUn d = false := fun k hk d' hd' => by
  by_cases hki : k = i
  · subst hki
    obtain ⟨_, rfl⟩ := hi.eq
    obtain ⟨_, rfl⟩ := hd'.eq
    exact hp
  · exact h k (by omega) d' hd'
set_option maxRecDepth 100000 in
set_option maxHeartbeats 1000000 in
theorem unindex_any (l : List Dc) (A : Option Addr) (c : Nat) (w : World) (hl : Dc.L w w.heap.size A l) :
    Calls Tryz.prog 51 #[.slice A l.length c, .func (.func 21) #[] #[]] w fun r w' => ∃ z : Int, r = .returned (.int .i64 z) ∧ decide (0 ≤ z) = l.any isUn ∧ Below w.heap.size w w' := by
  have hlen := hl.len
  have X : Below w.heap.size w w := Below.refl _ _
  go_enter Tryz.func51, Tryz.ntmps51
  go_wp2_with fail
  go_loopw [8] (fun iv wr => ∃ i : Nat, i ≤ l.length ∧ iv = .int .i64 i ∧ Hid (∀ k, k < i → ∀ d, Dc.Is l k d → isUn d = false) ∧ Below w.heap.size w wr) (fun iv _ => l.length - (intOf iv).toNat)
  case atStart => exact ⟨0, Nat.zero_le _, rfl, Lib.hid (fun k hk => absurd hk (Nat.not_lt_zero _)), X⟩
  case round =>
    clear X
    obtain ⟨i, hi, rfl, hg, Y⟩ := hrel
    by_cases hlt : i < l.length
    · obtain ⟨ab, off, d, rfl, hab, ⟨d0, d1, d2, d3, d4, d5, d6, d7, d8, d9, d10, d11, d12, d13, d14, d15, d16⟩, his, hkin⟩ := (hl.below Y).at_ hlt
      have HC := Lib.hid (isUn_any d wr (hkin.more Y.size))
      cases hq : isUn d with
      | true =>
        have HR := Lib.hid (un_hit his hq)
        rw [hq] at HC
        clear hq hg hkin
        go_wp2_with fail
        refine HC.out.mono ?_
        rintro r w2 ⟨rfl, b2⟩
        have Y2 := bTrans Y b2
        go_wp2_with fail
        go_ret
        exact ⟨_, rfl, by rw [HR.out, decide_eq_true (by omega)], Y2⟩
      | false =>
        have HG := Lib.hid (un_next hg.out his hq)
        rw [hq] at HC
        clear hq hg hkin
        go_wp2_with fail
        refine HC.out.mono ?_
        rintro r w2 ⟨rfl, b2⟩
        have Y2 := bTrans Y b2
        go_wp2_with fail
        go_roundw
        case rel => exact ⟨i + 1, by omega, by go_num, HG, Y2⟩
        case measure => simp [intOf]; omega
    · obtain rfl : i = l.length := by omega
      have HR := Lib.hid (un_none hg.out)
      go_wp2_with fail
      go_ret
      exact ⟨_, rfl, by rw [HR.out]; decide, Y⟩
set_option maxRecDepth 100000 in
theorem uncontains_any (l : List Dc) (A : Option Addr) (c : Nat) (w : World) (hl : Dc.L w w.heap.size A l) :
    Calls Tryz.prog 20 #[.slice A l.length c, .func (.func 21) #[] #[]] w fun r w' => r = .returned (.bool (l.any isUn)) ∧ Below w.heap.size w w' := by
  go_enter Tryz.func20, Tryz.ntmps20
  go_wp2_with fail
  refine (unindex_any l A c w hl).mono ?_
  rintro r w1 ⟨z, rfl, hz, b⟩
  have HZ := Lib.hid hz
  clear hz
  go_wp2_with fail
  go_ret
  exact ⟨ret_bool HZ.out, b⟩
/-- few declarations of few nodes -/
def fewDs (l : List Dc) : Bool := decide (l.length ≤ 8) && !l.any fewD
set_option maxRecDepth 100000 in
theorem fewDecls_any (l : List Dc) (A : Option Addr) (c : Nat) (w : World) (hl : Dc.L w w.heap.size A l) :
    Calls Tryz.prog 16 #[.slice A l.length c] w fun r w' => r = .returned (.bool (fewDs l)) ∧ Below w.heap.size w w' := by
  have HC := Lib.hid (fewcontains_any l A c w hl)
  have hlen := hl.len
  clear hl
  by_cases h8 : l.length ≤ 8
  · have HR : Hid ((!l.any fewD) = fewDs l) := Lib.hid (by unfold fewDs; rw [decide_eq_true h8]; rfl)
    have h8' : ((l.length : Nat) : Int) ≤ 8 := by omega
    clear h8
    go_enter Tryz.func16, Tryz.ntmps16
    go_wp2_with fail
    refine HC.out.mono ?_
    rintro r w1 ⟨rfl, b⟩
    go_wp2_with fail
    go_ret
    exact ⟨ret_bool HR.out, b⟩
  · have HR : Hid (false = fewDs l) := Lib.hid (by unfold fewDs; rw [decide_eq_false h8]; rfl)
    have h8' : ¬ ((l.length : Nat) : Int) ≤ 8 := by omega
    have b := Below.refl w.heap.size w
    clear h8
    go_enter Tryz.func16, Tryz.ntmps16
    go_wp2_with fail
    go_ret
    exact ⟨ret_bool HR.out, b⟩
end Go.Proofs.YtlpnbcdnlbghdaaGreatDoor
