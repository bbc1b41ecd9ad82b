/- Walks: the collector of Scalars of package types. -/
import Derived.Test.YtbgaagopckbihaaGreatDoorSc
import Derived.Deep.RegionHeld3
namespace Go.Proofs.YtbgaagopckbihaaGreatDoor
open Go.RowKit Go.Sort
set_option linter.unusedVariables false

/-- what the collector asks of a type -/
structure Vl (e : G) : Prop where
  mal : e.any G.mal = false
  mis : e.any (G.mis nmB) = false
  out : e.any G.out = false
  nam : e.any G.isName = false
theorem Vl.kid {e k : G} (h : Vl e) (hk : k ∈ e.ks) : Vl k := ⟨G.any_kid h.mal hk, G.any_kid h.mis hk, G.any_kid h.out hk, G.any_kid h.nam hk⟩
theorem nmB_size {s : ByteArray} (h : nmB s = true) : s.size ≤ 12 := by
  unfold nmB Kx.nameB at h
  have hl := bs_length s
  cases hb : bs s with
  | nil => rw [hb] at hl; simp at hl; omega
  | cons c r =>
    rw [hb] at h hl
    simp only [Bool.and_eq_true, decide_eq_true_eq] at h
    omega
theorem jn_size (p n : ByteArray) : (jn p n).size = p.size + 1 + n.size := by unfold jn; rw [mk_size]; simp [bs_length]; omega
theorem num_size (i : Nat) : (num i).size ≤ 2 := by unfold num; split <;> (rw [mk_size]; simp)
theorem G.comp_ok {e : G} (h : Vl e) {c : ByteArray × G} (hc : c ∈ G.comps e) : c.2 ∈ e.ks ∧ c.1.size ≤ 12 := by
  unfold G.comps at hc
  split at hc
  · unfold G.comps2 at hc
    cases hk : e.ks with
    | nil => rw [hk] at hc; cases hc
    | cons k l =>
      rw [hk] at hc
      obtain ⟨i, _, rfl⟩ := List.mem_map.1 hc
      exact ⟨by simp, by have := num_size i; show (num i).size ≤ 12; omega⟩
  · split at hc
    · rename_i h3
      have := List.of_mem_zip hc
      refine ⟨this.2, nmB_size ?_⟩
      have hm := G.any_self h.mis
      unfold G.mis G.named at hm
      rw [h3] at hm
      simp at hm
      exact hm c.1 this.1
    · cases hc
/-- a component's cells in memory -/
theorem comp_at {w : World} {S : Nat → Prop} {A : Option Addr} {l : List (ByteArray × G)} (h : RowS w S A (flatC l)) {i : Nat} (hi : i < l.length) :
    ∃ b off c, A = some ⟨b, off, none⟩ ∧ S b ∧ b < w.heap.size ∧ l[i]? = some c ∧ (w.cell? ⟨b, off + i * 8, none⟩ = some (.string c.1) ∧ w.cell? ⟨b, off + i * 8 + 1, none⟩ = some (.int .i64 c.2.kd) ∧ w.cell? ⟨b, off + i * 8 + 2, none⟩ = some (.int .i64 c.2.lo) ∧ w.cell? ⟨b, off + i * 8 + 3, none⟩ = some (.int .i64 c.2.hi) ∧ w.cell? ⟨b, off + i * 8 + 4, none⟩ = some (.int .i64 c.2.sz) ∧ w.cell? ⟨b, off + i * 8 + 5, none⟩ = some (.string c.2.nm) ∧ w.cell? ⟨b, off + i * 8 + 6, none⟩ = some (.slice c.2.na c.2.ns.length c.2.nc) ∧ w.cell? ⟨b, off + i * 8 + 7, none⟩ = some (.slice c.2.ad c.2.ks.length c.2.cap)) := by
  obtain ⟨b, off, e, hb, hl, hc⟩ := h.cells (by unfold flatC; rw [flatLen cCells 8 (fun _ => rfl)]; omega)
  have hf : ∀ j, j < 8 → (flatC l)[i * 8 + j]? = (cCells l[i])[j]? := fun j hj => flatAt cCells 8 (fun _ => rfl) l hi hj
  exact ⟨b, off, l[i], e, hb, hl, List.getElem?_eq_getElem hi, hc _ _ (hf 0 (by omega)), hc _ _ (hf 1 (by omega)), hc _ _ (hf 2 (by omega)), hc _ _ (hf 3 (by omega)), hc _ _ (hf 4 (by omega)), hc _ _ (hf 5 (by omega)), hc _ _ (hf 6 (by omega)), hc _ _ (hf 7 (by omega))⟩
theorem SI.mid {B lb fb n T : Nat} {w w3 w8 : World} {v : Value} {l : List Sl} {ob : Obj} (h : SI B lb fb w v l n) (hb : Below w.heap.size w w3) (hg : (w3.alloc ob).grownBy w8 v.ownBlock) : One w8 lb v := by
  have b3 := (h.bl.below hb h.bl.lt).alloc ob
  have hlt := b3.lt
  obtain ⟨T', hT⟩ := b3.blk
  exact ⟨T', (hg.block lb hlt (fun e => by have := (h.own.lt _ e.symm).1; have := h.hl; omega)).trans hT⟩
theorem FrS.rowS {lb : Nat} {w w' : World} {v v' : Value} {S : Nat → Prop} {A : Option Addr} {xs : List Value} (h : FrS lb w v w' v') (hr : RowS w S A xs) (hS : ∀ b, S b → b ≠ lb ∧ some b ≠ v.ownBlock) : RowS w' S A xs :=
  hr.keep (fun p hp hlt => World.cell?_of_block (w := w) (h.block _ hlt (hS _ hp).1 (hS _ hp).2)) (fun b hb _ => hb) h.size
/-- the contract of the collector -/
def ClE (e : G) : Prop := ∀ (B lb fb L n : Nat) (p : ByteArray) (w : World) (v : Value) (l : List Sl), SI B lb fb w v l n → G.In w L e → L ≤ lb → L ≤ fb → p.size + 13 * e.dep ≤ 1000 → Vl e → n + (G.scal e p).length ≤ 100000 →
    Calls Tryz.prog 52 #[e.val, .string p, .pointer (some ⟨lb, 0, none⟩), .pointer (some ⟨fb, 0, none⟩)] w (ColP B lb fb v (l ++ G.scal e p) w)
set_option maxRecDepth 100000 in
set_option maxHeartbeats 4000000 in
theorem collect_leaf (e : G) (hk : e.kd = 0 ∨ e.kd = 1) : ClE e := by
  intro B lb fb L n p w v l hS hin hL hL2 hp hV hn
  obtain ⟨i0, hi0, hz0, hz1, hz2⟩ := info_parts infoScal
  have HC := Lib.hid (G.comps_leaf e hk)
  have HSc := Lib.hid (show G.scal e p = [leafS e p] from G.scal_leaf e p hk)
  have X := Eb.start w e 26
  have hin2 := hin.below (show Below L w (w.alloc (.cells e.box 26)) from X.bel.mono (by have := hS.hl; have := hS.hz; omega))
  have HX := Lib.hid (fun W (i : Eb w W e) => components_any e W ((hin.below (i.bel.mono (by have := hS.hl; have := hS.hz; omega))).more (by have := i.bel.size; have := hS.hl; have := hS.hz; omega)) (G.any_self hV.mal) (G.any_self hV.out))
  rw [HC.out] at HX
  rw [HSc.out] at hn ⊢
  have hn2 : n + 1 ≤ 100000 := by simpa using hn
  obtain ⟨s, hs⟩ : ∃ s, Hid (leafS e p = s) := ⟨_, Lib.hid rfl⟩
  have HSV := Lib.hid (fun W => by have := scalar_any e p W; rw [hs.out] at this; exact this)
  rw [hs.out]
  obtain ⟨A', c', rfl⟩ := own_slice_ hS.own
  have hlen := hS.len
  clear hin hL hL2 hp hV hn hin2 hk HC HSc
  go_enter Tryz.func52, Tryz.ntmps52
  go_upto_region 1 with (fail)
  revert X
  generalize w.alloc (.cells #[.int .i64 e.kd, .int .i64 e.lo, .int .i64 e.hi, .int .i64 e.sz, .string e.nm, .slice e.na e.ns.length e.nc, .slice e.ad e.ks.length e.cap] 26) = w1
  intro X
  obtain ⟨k0, k1, k2, k3, k4, k5, k6⟩ := box_cells X.be
  go_wp2_with fail
  refine (HX.out _ X).mono ?_
  rintro r w2 ⟨A2, c2, rfl, hr, b2⟩
  have X2 := X.below b2
  clear k0 k1 k2 k3 k4 k5 k6 HX hr
  have S2 := hS.below X2.bel
  have F2 : FrS lb w (.slice A' n c') w2.drew (.slice A' n c') := FrS.below (show Below w.heap.size w w2.drew from X2.bel.drew)
  have Sd := S2.below (show Below w2.heap.size w2 w2.drew from (Below.refl _ _).drew)
  obtain ⟨k0, k1, k2, k3, k4, k5, k6⟩ := box_cells X2.be.drew
  have y6 : w2.drew.cell? ⟨lb, 0, none⟩ = some (.slice A' n c') := Sd.bl.c
  have hz2 : B ≤ w2.heap.size := S2.hz
  clear X b2
  go_wp2_with fail
  go_region_law (first
    | (refine step_append_lies _ (by rfl) _ _ 49 (by rfl) B 56 i0 (.agg #[.string ⟨#[]⟩, .bool false, .int .i64 0, .int .i64 0]) 4 40 Tryz.underlying49 hi0 hz0 hz1 (by assumption) (by decide) (by decide) _ _ _ (by rfl) (S3.own.alloc _) ⟨w3.heap.size, 0, none⟩ 1 1 (sCells s) (by rfl) (by rfl) (scal_cells w3 s 56) (scal_one s) (by decide) (by unfold maxLen; omega) (by omega) (by rw [World.size_alloc]; omega) _ rfl ?_; intro g cap w8 hown8 hgrow hat hlt8; have o8 := Sd.mid (T := 0) b3 hgrow; have f8 := o8.fr 0; have c8 := o8.c; have J := Sd.step b3 hown8 hgrow (hat.imp_right (by intro h; rw [h, World.size_alloc])))
    | (go_simp; go_at_call 54; refine (HSV.out _).mono ?_; rintro r w3 ⟨rfl, b3⟩; have S3 := Sd.below b3; have x6 := S3.bl.c; have x7 := fun o => (S3.bl.alloc o).c; have h3 : w2.heap.size ≤ w3.heap.size := b3.size))
  all_goals
    clear hown8 hgrow hat o8 f8 c8 b3 S3 x6 x7 h3 y6 k0 k1 k2 k3 k4 k5 k6 hlt8
    obtain ⟨J1, J2⟩ := J
    have F3 : FrS lb w (.slice A' n c') _ _ := F2.trans J2
    go_wp2_with fail
    go_loopw [22] (fun iv wr => iv = .int .i64 ((0 : Nat) : Int) ∧ wr = w8.setCell ⟨lb, 0, none⟩ (.slice (some ⟨g, 0, none⟩) (n + 1) cap)) (fun iv _ => 0)
    case atStart => exact ⟨rfl, rfl⟩
    case round =>
      obtain ⟨rfl, rfl⟩ := hrel
      go_wp2_with fail
      go_end0
      exact ⟨_, rfl, by rw [show (l ++ [s]).length = n + 1 by rw [List.length_append, hlen]; rfl]; exact J1, F3⟩
end Go.Proofs.YtbgaagopckbihaaGreatDoor
