/- Walk: size of package types. -/
import Derived.Test.YtlifnabeilnblaaGreatDoorDe
import Derived.Deep.RegionHeld3
namespace Go.Proofs.YtlifnabeilnblaaGreatDoor
open Go.RowKit Go.Sort
set_option linter.unusedVariables false

namespace G
/-- an array without a component, or with a size out of its range -/
def badA (e : G) : Bool := e.kd == 2 && (e.ks.isEmpty || !(decide (0 ≤ e.sz) && decide (e.sz ≤ 1048576)))
theorem cnt_eq (e : G) : e.cnt = min (if e.kd = 2 then e.sz * cnt.cntH e.ks else if e.kd = 3 then cnt.cntL e.ks else 1) 33 := by cases e; rw [cnt]; rfl
theorem cntH_at {l : List G} (h : 0 < l.length) : cnt.cntH l = (l[0]).cnt := by
  cases l with
  | nil => exact absurd h (by simp)
  | cons a l => simp [cnt.cntH]
theorem cntL_snoc (l : List G) (e : G) : cnt.cntL (l ++ [e]) = cnt.cntL l + e.cnt := by
  induction l with
  | nil => simp [cnt.cntL]
  | cons a l ih => simp only [List.cons_append, cnt.cntL, ih]; omega
theorem cnt_bd (e : G) : e.any badA = false → 0 ≤ e.cnt ∧ e.cnt ≤ 33 := by
  induction e using G.ind with
  | h e ih =>
    intro h
    rw [any_eq, Bool.or_eq_false_iff, anyL_false] at h
    have hk : ∀ k ∈ e.ks, 0 ≤ k.cnt ∧ k.cnt ≤ 33 := fun k hk => ih k hk (h.2 k hk)
    rw [cnt_eq]
    have key : 0 ≤ (if e.kd = 2 then e.sz * cnt.cntH e.ks else if e.kd = 3 then cnt.cntL e.ks else 1) := by
      split
      · rename_i h2
        have hb := h.1
        unfold badA at hb
        rw [h2] at hb
        simp at hb
        have hH : 0 ≤ cnt.cntH e.ks := by
          cases hks : e.ks with
          | nil => simp [cnt.cntH]
          | cons a l => have := hk a (by rw [hks]; exact List.mem_cons_self); simp only [cnt.cntH]; exact this.1
        exact Int.mul_nonneg hb.2.1 hH
      · split
        · have : ∀ l : List G, (∀ k ∈ l, 0 ≤ k.cnt ∧ k.cnt ≤ 33) → 0 ≤ cnt.cntL l := by
            intro l
            induction l with
            | nil => intro _; simp [cnt.cntL]
            | cons a l ihl =>
              intro hl
              have h1 := hl a List.mem_cons_self
              have h2 := ihl fun k hk => hl k (List.mem_cons_of_mem _ hk)
              simp only [cnt.cntL]; omega
          exact this e.ks hk
        · decide
    omega
end G
/-- the contract of the number of scalars -/
def SzE (e : G) : Prop := ∀ w : World, G.In w w.heap.size e → e.any G.badA = false → e.nodes ≤ 1000000 → Calls Tryz.prog 23 #[e.val] w fun r w' => r = .returned (.int .i64 e.cnt) ∧ Below w.heap.size w w'
theorem nodes_kid {e k : G} {i : Nat} (h : G.Is e.ks i k) : k.nodes ≤ e.nodes := by have := G.nodesL_mem h.mem; rw [G.nodes_eq e]; omega
theorem ks_len (l : List G) : l.length ≤ G.nodesL l := by
  induction l with
  | nil => simp [G.nodesL]
  | cons a l ih => have := G.nodes_pos a; simp only [G.nodesL, List.length_cons]; omega
set_option maxRecDepth 100000 in
set_option maxHeartbeats 1000000 in
theorem size_any (e : G) : SzE e := by
  induction e using G.ind with
  | h e ih =>
  intro w hin hbad hnd
  have IH := Lib.hid ih
  have hl := hin.l
  have hlen := hin.nd.len
  have hkl := ks_len e.ks
  have hne := G.nodes_eq e
  have HB := Lib.hid (show (G.badA e = false) ∧ ∀ k ∈ e.ks, k.any G.badA = false by
    rw [G.any_eq, Bool.or_eq_false_iff, G.anyL_false] at hbad; exact hbad)
  have HC := Lib.hid (G.cnt_eq e)
  have X := Eb.start w e 26
  have d0 := X.be.c 0 (show e.box[0]? = some (.int .i64 e.kd) from rfl)
  obtain ⟨A, hA⟩ : ∃ A, Hid (e.ad = A) := ⟨_, Lib.hid rfl⟩
  rw [hA.out] at hl
  clear ih hbad
  by_cases h2 : e.kd = 2
  · have hb := HB.out.1
    unfold G.badA at hb
    rw [h2] at hb
    simp at hb
    have hlt : 0 < e.ks.length := List.length_pos_iff.2 hb.1
    have hs := hb.2
    obtain ⟨s, hse⟩ : ∃ s, Hid (e.sz = s) := ⟨_, Lib.hid rfl⟩
    rw [hse.out] at hs
    have hcl := hl.below X.bel
    obtain ⟨ab, off, k, rfl, hab, ⟨d0', d1, d2, d3, d4, d5, d6⟩, his, hkin⟩ := hcl.at_ hlt
    rw [Nat.zero_mul, Nat.add_zero] at d0' d1 d2 d3 d4 d5 d6
    have HI := Lib.hid (IH.out k his.mem)
    have hk2 := X.kid hkin
    have hkbad := HB.out.2 k his.mem
    have hkb := G.cnt_bd k hkbad
    have hkn := nodes_kid his
    obtain ⟨q, hq⟩ : ∃ q, Hid (k.cnt = q) := ⟨_, Lib.hid rfl⟩
    rw [hq.out] at hkb
    have hmul : 0 ≤ s * q ∧ s * q ≤ 34603008 := ⟨Int.mul_nonneg hs.1 hkb.1, by
      have := Int.mul_le_mul hs.2 hkb.2 hkb.1 (by decide : (0 : Int) ≤ 1048576)
      omega⟩
    obtain ⟨z, hz⟩ : ∃ z, Hid (s * q = z) := ⟨_, Lib.hid rfl⟩
    have HR : Hid (min z 33 = e.cnt) := Lib.hid (by
      rw [HC.out, if_pos h2, hse.out]
      have : G.cnt.cntH e.ks = q := by
        obtain ⟨h0, hk0⟩ := his.eq
        rw [← hq.out, ← hk0]
        exact G.cntH_at h0
      rw [this, hz.out])
    rw [hz.out] at hmul
    have e1 : IntKind.i64.wrap (s * q) = z := by rw [hz.out]; exact IntWalk.i64_in _ (by omega)
    rw [h2] at d0
    have c3 := X.be.c 3 (show e.box[3]? = some (.int .i64 e.sz) from rfl)
    rw [hse.out] at c3
    have c6 := X.c6
    rw [hA.out] at c6
    have hkk : Hid (e.kd = 2) := Lib.hid h2
    clear h2 hb hs HC hcl hkin HB IH hkb
    go_enter Tryz.func23, Tryz.ntmps23
    go_wp2_with fail
    have b0 : Below (w.alloc (.cells e.box 26)).heap.size (w.alloc (.cells e.box 26)) (w.alloc (.cells e.box 26)).drew := (Below.refl _ _).drew
    go_region_held3 (fun w' => w'.cell? ⟨w.heap.size, 3, none⟩ = some (.int .i64 s) ∧ w'.cell? ⟨w.heap.size, 6, none⟩ = some (.slice (some ⟨ab, off, none⟩) e.ks.length e.cap)
        ∧ w'.cell? ⟨ab, off, none⟩ = some (.int .i64 k.kd) ∧ w'.cell? ⟨ab, off + 1, none⟩ = some (.int .i64 k.lo) ∧ w'.cell? ⟨ab, off + 2, none⟩ = some (.int .i64 k.hi) ∧ w'.cell? ⟨ab, off + 3, none⟩ = some (.int .i64 k.sz)
        ∧ w'.cell? ⟨ab, off + 4, none⟩ = some (.string k.nm) ∧ w'.cell? ⟨ab, off + 5, none⟩ = some (.slice k.na k.ns.length k.nc) ∧ w'.cell? ⟨ab, off + 6, none⟩ = some (.slice k.ad k.ks.length k.cap))
      (first | exact ⟨c3, c6, d0', d1, d2, d3, d4, d5, d6⟩ | exact kg)
      ((go_at_call 23; refine (HI.out _ (hk2.at b0) hkbad (by omega)).mono ?_; rintro r w2 ⟨rfl, b2⟩; rw [hq.out]; have b4 := bTrans b0 b2; have Y2 := X.below b4; have hf := fun (j : Nat) (v : Value) (h : (w.alloc (.cells e.box 26)).cell? ⟨ab, j, none⟩ = some v) => (b4.cell (p := ⟨ab, j, none⟩) (show ab < (w.alloc (.cells e.box 26)).heap.size from Nat.lt_of_lt_of_le hab X.bel.size)).trans h; have kg := And.intro ((b4.cell (p := ⟨w.heap.size, 3, none⟩) X.be.lt).trans c3) (And.intro ((b4.cell (p := ⟨w.heap.size, 6, none⟩) X.be.lt).trans c6) (And.intro (hf _ _ d0') (And.intro (hf _ _ d1) (And.intro (hf _ _ d2) (And.intro (hf _ _ d3) (And.intro (hf _ _ d4) (And.intro (hf _ _ d5) (hf _ _ d6)))))))))) 
    have b5 := Y2.bel
    by_cases hz3 : z ≤ 33
    · have HR2 : Hid (z = e.cnt) := Lib.hid (by rw [← HR.out]; omega)
      clear HR
      go_wp2_with fail
      go_ret
      exact ⟨ret_int HR2.out, b5⟩
    · have HR2 : Hid (33 = e.cnt) := Lib.hid (by rw [← HR.out]; omega)
      clear HR
      go_wp2_with fail
      go_ret
      exact ⟨ret_int HR2.out, b5⟩
  by_cases h3 : e.kd = 3
  · have HC3 : Hid (e.cnt = min (G.cnt.cntL e.ks) 33) := Lib.hid (by rw [HC.out, if_neg h2, if_pos h3])
    rw [h3] at d0
    have hkk : Hid (e.kd = 3) := Lib.hid h3
    have c6 := X.c6
    rw [hA.out] at c6
    clear h2 h3 HC
    go_enter Tryz.func23, Tryz.ntmps23
    go_wp2_with fail
    clear c6 d0
    go_loopw [3, 23] (fun nv iv wr => ∃ (i : Nat) (z : Int), i ≤ e.ks.length ∧ iv = .int .i64 i ∧ nv = .int .i64 z ∧ Hid (z = G.cnt.cntL (e.ks.take i)) ∧ 0 ≤ z ∧ z ≤ 33 * i ∧ Eb w wr e) (fun _ iv _ => e.ks.length - (intOf iv).toNat)
    case atStart => exact ⟨0, 0, Nat.zero_le _, rfl, rfl, Lib.hid (by simp [G.cnt.cntL]), by omega, by omega, X⟩
    case round =>
      clear X
      obtain ⟨i, z, hi, rfl, rfl, hz, hz0, hz1, Y⟩ := hrel
      by_cases hlt : i < e.ks.length
      · obtain ⟨ab, off, k, rfl, hab, ⟨d0, d1, d2, d3, d4, d5, d6⟩, his, hkin⟩ := (hl.below Y.bel).at_ hlt
        have HI := Lib.hid (IH.out k his.mem)
        have hk2 := (Y.kid hkin).at (al1 wr (.cells k.box 26))
        have hkbad := HB.out.2 k his.mem
        have hkb := G.cnt_bd k hkbad
        have hkn := nodes_kid his
        obtain ⟨q, hq⟩ : ∃ q, Hid (k.cnt = q) := ⟨_, Lib.hid rfl⟩
        rw [hq.out] at hkb
        have HM : Hid (z + q = G.cnt.cntL (e.ks.take (i + 1))) := Lib.hid (by rw [his.take, G.cntL_snoc, hz.out, hq.out])
        have Y1 := Y.below (al1 wr (.cells k.box 26))
        have e1 : IntKind.i64.wrap (z + q) = z + q := IntWalk.i64_in _ (by omega)
        clear hkin
        go_wp2_with fail
        refine (HI.out _ hk2 hkbad (by omega)).mono ?_
        rintro r w2 ⟨rfl, b2⟩
        rw [hq.out]
        have Y2 := Y1.below b2
        clear hkbad hkn
        go_wp2_with fail
        go_roundw
        case rel => exact ⟨i + 1, z + q, by omega, by go_num, rfl, HM, by omega, by omega, Y2⟩
        case measure => simp [intOf]; omega
      · obtain rfl : i = e.ks.length := by omega
        have HR : Hid (min z 33 = e.cnt) := Lib.hid (by rw [HC3.out, hz.out, List.take_length])
        have b2 := Y.bel
        by_cases hz3 : z ≤ 33
        · have HR2 : Hid (z = e.cnt) := Lib.hid (by rw [← HR.out]; omega)
          clear HR
          go_wp2_with fail
          go_ret
          exact ⟨ret_int HR2.out, b2⟩
        · have HR2 : Hid (33 = e.cnt) := Lib.hid (by rw [← HR.out]; omega)
          clear HR
          go_wp2_with fail
          go_ret
          exact ⟨ret_int HR2.out, b2⟩
  · have HR : Hid (min 1 33 = e.cnt) := Lib.hid (by rw [HC.out, if_neg h2, if_neg h3])
    have b2 := X.bel
    go_enter Tryz.func23, Tryz.ntmps23
    go_wp2_with fail
    go_ret
    exact ⟨ret_int HR.out, b2⟩
end Go.Proofs.YtlifnabeilnblaaGreatDoor
