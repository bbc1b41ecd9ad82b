/- Walks: scalar and the collector of Scalars of package types. -/
import Derived.Test.YtlifnabeilnblaaGreatDoorCp
import Derived.Deep.RegionHeld3
import Derived.Test.YtlifnabeilnblaaGreatDoorCe
namespace Go.Proofs.YtlifnabeilnblaaGreatDoor
open Go.RowKit Go.Sort
set_option linter.unusedVariables false

/-- the cells of a scalar -/
abbrev sCells (s : Sl) : List Value := [.string s.path, .bool s.bool, .int .i64 s.lo, .int .i64 s.hi]
abbrev sBox (s : Sl) : Array Value := #[.string s.path, .bool s.bool, .int .i64 s.lo, .int .i64 s.hi]
abbrev sVal (s : Sl) : Value := .agg #[.string s.path, .bool s.bool, .int .i64 s.lo, .int .i64 s.hi]
def flatS (l : List Sl) : List Value := l.flatMap sCells
theorem flatS_snoc (l : List Sl) (s : Sl) : flatS (l ++ [s]) = flatS l ++ sCells s := by unfold flatS; rw [List.flatMap_append]; simp
theorem infoScal : (Tryz.prog.info? 39).map (fun i => (i.zero, i.size, i.bytes)) = some (some (.agg #[.string ⟨#[]⟩, .bool false, .int .i64 0, .int .i64 0]), 4, 40) := by kernel_rfl
/-- the scalar of a leaf -/
def leafS (e : G) (p : ByteArray) : Sl := if e.kd = 0 then ⟨p, true, 0, 1⟩ else ⟨p, false, e.lo, e.hi⟩
theorem four_put {w : World} {b : Nat} {a0 a1 a2 a3 : Value} (h : Blk w b #[a0, a1, a2, a3]) (u0 u1 u2 u3 : Value) :
    Blk ((((w.setCell ⟨b, 0, none⟩ u0).setCell ⟨b, 1, none⟩ u1).setCell ⟨b, 2, none⟩ u2).setCell ⟨b, 3, none⟩ u3) b #[u0, u1, u2, u3] := by
  have h0 : Blk (w.setCell ⟨b, 0, none⟩ u0) b #[u0, a1, a2, a3] := h.put 0 u0
  have h1 : Blk _ b #[u0, u1, a2, a3] := h0.put 1 u1
  have h2 : Blk _ b #[u0, u1, u2, a3] := h1.put 2 u2
  exact h2.put 3 u3
theorem box4 {w : World} {b : Nat} {a0 a1 a2 a3 : Value} (h : Blk w b #[a0, a1, a2, a3]) : w.cell? ⟨b, 0, none⟩ = some a0 ∧ w.cell? ⟨b, 1, none⟩ = some a1 ∧ w.cell? ⟨b, 2, none⟩ = some a2 ∧ w.cell? ⟨b, 3, none⟩ = some a3 := ⟨h.c 0 rfl, h.c 1 rfl, h.c 2 rfl, h.c 3 rfl⟩
set_option maxRecDepth 100000 in
set_option maxHeartbeats 1000000 in
theorem scalar_any (e : G) (p : ByteArray) (w : World) : Calls Tryz.prog 27 #[e.val, .string p] w fun r w' => r = .returned (sVal (leafS e p)) ∧ Below w.heap.size w w' := by
  have XB : Blk ((w.alloc (.cells e.box 26)).alloc (.cells #[.string ⟨#[]⟩, .bool false, .int .i64 0, .int .i64 0] 39)) (w.heap.size + 1) #[.string ⟨#[]⟩, .bool false, .int .i64 0, .int .i64 0] := by
    have := Blk.new_ (w.alloc (.cells e.box 26)) #[.string ⟨#[]⟩, .bool false, .int .i64 0, .int .i64 0] 39
    rwa [World.size_alloc] at this
  have XE : Blk ((w.alloc (.cells e.box 26)).alloc (.cells #[.string ⟨#[]⟩, .bool false, .int .i64 0, .int .i64 0] 39)) w.heap.size e.box := (Blk.new_ _ _ _).alloc _
  have bl : Below w.heap.size w ((w.alloc (.cells e.box 26)).alloc (.cells #[.string ⟨#[]⟩, .bool false, .int .i64 0, .int .i64 0] 39)) := (al1 w _).alloc (by simp) _
  by_cases h0 : e.kd = 0
  · have q0 : (e.kd == 0) = true := by rw [h0]; rfl
    have HV : Hid (leafS e p = ⟨p, true, 0, 1⟩) := Lib.hid (by unfold leafS; rw [if_pos h0])
    clear h0
    rw [HV.out]
    go_enter Tryz.func27, Tryz.ntmps27
    go_upto_region 1 with (fail)
    revert XB XE bl
    generalize (w.alloc (.cells #[.int .i64 e.kd, .int .i64 e.lo, .int .i64 e.hi, .int .i64 e.sz, .string e.nm, .slice e.na e.ns.length e.nc, .slice e.ad e.ks.length e.cap] 26)).alloc (.cells #[.string ⟨#[]⟩, .bool false, .int .i64 0, .int .i64 0] 39) = w1
    intro XB XE bl
    obtain ⟨k0, k1, k2, k3, k4, k5, k6⟩ := box_cells XE
    obtain ⟨z0, z1, z2, z3⟩ := box4 XB
    have f0 := XB.fr 0
    have f1 := XB.fr 1
    have f2 := XB.fr 2
    have f3 := XB.fr 3
    have HP := Lib.hid (box4 (four_put XB (.string p) (.bool true) (.int .i64 0) (.int .i64 1)))
    go_wp2_with fail
    obtain ⟨r0, r1, r2, r3⟩ := HP.out
    refine bodyPost_ret (v := sVal ⟨p, true, 0, 1⟩) (by simp [results, Tryz.results27, go_sem, r0, r1, r2, r3]) rfl ⟨rfl, ?_⟩
    exact (((bl.setCell (by simp) _).setCell (by simp) _).setCell (by simp) _).setCell (by simp) _
  · have q0 : (e.kd == 0) = false := by simpa using h0
    have HV : Hid (leafS e p = ⟨p, false, e.lo, e.hi⟩) := Lib.hid (by unfold leafS; rw [if_neg h0])
    clear h0
    rw [HV.out]
    go_enter Tryz.func27, Tryz.ntmps27
    go_upto_region 1 with (fail)
    revert XB XE bl
    generalize (w.alloc (.cells #[.int .i64 e.kd, .int .i64 e.lo, .int .i64 e.hi, .int .i64 e.sz, .string e.nm, .slice e.na e.ns.length e.nc, .slice e.ad e.ks.length e.cap] 26)).alloc (.cells #[.string ⟨#[]⟩, .bool false, .int .i64 0, .int .i64 0] 39) = w1
    intro XB XE bl
    obtain ⟨k0, k1, k2, k3, k4, k5, k6⟩ := box_cells XE
    obtain ⟨z0, z1, z2, z3⟩ := box4 XB
    have f0 := XB.fr 0
    have f1 := XB.fr 1
    have f2 := XB.fr 2
    have f3 := XB.fr 3
    have HP := Lib.hid (box4 (four_put XB (.string p) (.bool false) (.int .i64 e.lo) (.int .i64 e.hi)))
    go_wp2_with fail
    obtain ⟨r0, r1, r2, r3⟩ := HP.out
    refine bodyPost_ret (v := sVal ⟨p, false, e.lo, e.hi⟩) (by simp [results, Tryz.results27, go_sem, r0, r1, r2, r3]) rfl ⟨rfl, ?_⟩
    exact (((bl.setCell (by simp) _).setCell (by simp) _).setCell (by simp) _).setCell (by simp) _
theorem scal_cells (w : World) (s : Sl) (T : TypeId) : ∀ j u, (sCells s)[j]? = some u → (w.alloc (.cells (sBox s) T)).cell? ((⟨w.heap.size, 0, none⟩ : Addr).add j) = some u := fun j u hu => by
  rw [Go.WideShapes.add_plain, Nat.zero_add]
  exact (Blk.new_ w (sBox s) T).c j (by show (sCells s).toArray[j]? = some u; simpa using hu)
theorem scal_one (s : Sl) : ∀ u ∈ sCells s, u.oneCell' = true := by
  intro u hu
  simp only [List.mem_cons, List.not_mem_nil, or_false] at hu
  rcases hu with rfl | rfl | rfl | rfl <;> rfl
/-- the collector as a value -/
abbrev colV (lb fb : Nat) : Value := .func (.func 26) #[] #[.pointer (some ⟨lb, 0, none⟩), .pointer (some ⟨fb, 0, none⟩)]
/-- the list that is collected, in its box, and the box of the collector -/
structure SI (B lb fb : Nat) (w : World) (v : Value) (l : List Sl) (n : Nat) : Prop where
  bl : One w lb v
  bf : One w fb (colV lb fb)
  own : w.ownsRow B 39 4 v n (flatS l)
  len : l.length = n
  hl : lb < B
  hf : fb < B
  ne : fb ≠ lb
  hz : B ≤ w.heap.size
/-- all but the list and its box is as it was -/
structure FrS (lb : Nat) (w : World) (v : Value) (w' : World) (v' : Value) : Prop where
  os : w'.os = w.os
  tape : w'.tape = w.tape
  output : w'.output = w.output
  size : w.heap.size ≤ w'.heap.size
  block : ∀ k, k < w.heap.size → k ≠ lb → some k ≠ v.ownBlock → w'.heap[k]? = w.heap[k]?
  own : v'.ownBlock = v.ownBlock ∨ ∀ k, v'.ownBlock = some k → w.heap.size ≤ k
theorem FrS.below {lb : Nat} {w w' : World} {v : Value} (hb : Below w.heap.size w w') : FrS lb w v w' v := ⟨hb.os, hb.tape, hb.output, hb.size, fun k hk _ _ => hb.block k hk, .inl rfl⟩
theorem FrS.trans {lb : Nat} {w w1 w2 : World} {v v1 v2 : Value} (h : FrS lb w v w1 v1) (k : FrS lb w1 v1 w2 v2) : FrS lb w v w2 v2 :=
  ⟨k.os.trans h.os, k.tape.trans h.tape, k.output.trans h.output, Nat.le_trans h.size k.size, fun q hq h1 h2 => (k.block q (Nat.lt_of_lt_of_le hq h.size) h1 (fun e => by
    rcases h.own with h3 | h3
    · exact h2 (e.trans h3)
    · have := h3 q e.symm; omega)).trans (h.block q hq h1 h2), by
    rcases k.own with h3 | h3
    · rcases h.own with h4 | h4
      · exact .inl (h3.trans h4)
      · exact .inr fun q hq => h4 q (h3 ▸ hq)
    · exact .inr fun q hq => Nat.le_trans h.size (h3 q hq)⟩
theorem SI.below {B lb fb n : Nat} {w w' : World} {v : Value} {l : List Sl} (h : SI B lb fb w v l n) (hb : Below w.heap.size w w') : SI B lb fb w' v l n :=
  ⟨h.bl.below hb h.bl.lt, h.bf.below hb h.bf.lt, h.own.kept (row := none) (grown_of_below hb none) (by cases hv : v.ownBlock <;> simp), h.len, h.hl, h.hf, h.ne, Nat.le_trans h.hz hb.size⟩
theorem FrS.low {lb B fb n L : Nat} {w w' : World} {v v' : Value} {l : List Sl} (h : FrS lb w v w' v') (s : SI B lb fb w v l n) (hL : L ≤ lb) : Below L w w' :=
  ⟨h.os, h.tape, h.output, h.size, fun k hk => h.block k (by have := s.hl; have := s.hz; omega) (by omega) (fun e => by have := (s.own.lt k e.symm).1; have := s.hl; omega)⟩
theorem FrS.blk {lb B fb n b : Nat} {w0 w w' : World} {v v' : Value} {l : List Sl} {vs : Array Value} (h : FrS lb w v w' v') (hb : Blk w b vs) (h1 : b ≠ lb) (h2 : some b ≠ v.ownBlock) : Blk w' b vs := by
  have hlt := hb.lt
  obtain ⟨T, hT⟩ := hb.blk
  exact ⟨T, (h.block b hlt h1 h2).trans hT⟩
theorem FrS.one {lb b : Nat} {w w' : World} {v v' x : Value} (h : FrS lb w v w' v') (hb : One w b x) (h1 : b ≠ lb) (h2 : some b ≠ v.ownBlock) : One w' b x := by
  have hlt := hb.lt
  obtain ⟨T, hT⟩ := hb.blk
  exact ⟨T, (h.block b hlt h1 h2).trans hT⟩
/-- the step: an append in the row, the store of the list -/
theorem SI.step {B lb fb n g cap T : Nat} {w w3 w8 : World} {v : Value} {l : List Sl} {s : Sl} (h : SI B lb fb w v l n) (hb : Below w.heap.size w w3)
    (ho : w8.ownsRow B 39 4 (.slice (some ⟨g, 0, none⟩) (n + 1) cap) (n + 1) (flatS l ++ sCells s))
    (hg : (w3.alloc (.cells (sBox s) T)).grownBy w8 v.ownBlock) (hat : v.ownBlock = some g ∨ g = w3.heap.size + 1) :
    SI B lb fb (w8.setCell ⟨lb, 0, none⟩ (.slice (some ⟨g, 0, none⟩) (n + 1) cap)) (.slice (some ⟨g, 0, none⟩) (n + 1) cap) (l ++ [s]) (n + 1) ∧ FrS lb w v (w8.setCell ⟨lb, 0, none⟩ (.slice (some ⟨g, 0, none⟩) (n + 1) cap)) (.slice (some ⟨g, 0, none⟩) (n + 1) cap) := by
  have hs3 := hb.size
  have hs8 := hg.size
  rw [World.size_alloc] at hs8
  have hgz : w8.heap.size ≤ (w8.setCell ⟨lb, 0, none⟩ (.slice (some ⟨g, 0, none⟩) (n + 1) cap)).heap.size := by simp [World.setCell]
  have hne : ∀ k, v.ownBlock = some k → B ≤ k ∧ k < w.heap.size := fun k hk => h.own.lt k hk
  have hl := h.hl
  have hf := h.hf
  have hz := h.hz
  have b1 := h.bl.below hb h.bl.lt
  have b2 := h.bf.below hb h.bf.lt
  have b3 := (b1.alloc (.cells (sBox s) T))
  have b4 := (b2.alloc (.cells (sBox s) T))
  have g3 : One w8 lb v := by
    have hlt := b3.lt
    obtain ⟨T', hT⟩ := b3.blk
    exact ⟨T', (hg.block lb hlt (fun e => by have := (hne _ e.symm).1; omega)).trans hT⟩
  have g4 : One w8 fb (colV lb fb) := by
    have hlt := b4.lt
    obtain ⟨T', hT⟩ := b4.blk
    exact ⟨T', (hg.block fb hlt (fun e => by have := (hne _ e.symm).1; omega)).trans hT⟩
  refine ⟨⟨g3.put _, g4.far h.ne _, ?_, by rw [List.length_append, h.len]; rfl, hl, hf, h.ne, by omega⟩, ?_⟩
  · rw [flatS_snoc]
    exact ho.kept (grown_set _ _ _ _) (.inr fun e => by
      have e' : g = lb := by simpa [Value.ownBlock] using e
      rcases hat with h1 | h1
      · have := (hne _ h1).1; omega
      · omega)
  · refine ⟨hg.os.trans hb.os, hg.tape.trans hb.tape, hg.output.trans hb.output, by omega, fun k hk h1 h2 => ?_, ?_⟩
    · rw [Below.heap_setCell _ _ _ _ h1, hg.block k (by rw [World.size_alloc]; omega) h2, Below.heap_alloc _ _ _ (by omega)]
      exact hb.block k hk
    · rcases hat with h1 | h1
      · exact .inl (by rw [h1]; rfl)
      · exact .inr fun k hk => by
          have e' : g = k := by simpa [Value.ownBlock] using hk
          omega
/-- what the collector leaves -/
def ColP (B lb fb : Nat) (v : Value) (l : List Sl) (w : World) (r : Ending) (w' : World) : Prop := ∃ v', r = .returned (.tuple #[]) ∧ SI B lb fb w' v' l l.length ∧ FrS lb w v w' v'
end Go.Proofs.YtlifnabeilnblaaGreatDoor
/- Walks: the collector of Scalars of package types. -/
namespace Go.Proofs.YtlifnabeilnblaaGreatDoor
open Go.RowKit Go.Sort
set_option linter.unusedVariables false

/-- what the collector asks of a type -/
structure Vl (e : G) : Prop where
  mal : e.any G.mal = false
  mis : e.any (G.mis nmB) = false
  out : e.any G.out = false
  nam : e.any G.isName = false
theorem Vl.kid {e k : G} (h : Vl e) (hk : k ∈ e.ks) : Vl k := ⟨G.any_kid h.mal hk, G.any_kid h.mis hk, G.any_kid h.out hk, G.any_kid h.nam hk⟩
theorem nmB_size {s : ByteArray} (h : nmB s = true) : s.size ≤ 12 := by
  unfold nmB Kx.nameB at h
  have hl := bs_length s
  cases hb : bs s with
  | nil => rw [hb] at hl; simp at hl; omega
  | cons c r =>
    rw [hb] at h hl
    simp only [Bool.and_eq_true, decide_eq_true_eq] at h
    omega
theorem jn_size (p n : ByteArray) : (jn p n).size = p.size + 1 + n.size := by unfold jn; rw [mk_size]; simp [bs_length]; omega
theorem num_size (i : Nat) : (num i).size ≤ 2 := by unfold num; split <;> (rw [mk_size]; simp)
theorem G.comp_ok {e : G} (h : Vl e) {c : ByteArray × G} (hc : c ∈ G.comps e) : c.2 ∈ e.ks ∧ c.1.size ≤ 12 := by
  unfold G.comps at hc
  split at hc
  · unfold G.comps2 at hc
    cases hk : e.ks with
    | nil => rw [hk] at hc; cases hc
    | cons k l =>
      rw [hk] at hc
      obtain ⟨i, _, rfl⟩ := List.mem_map.1 hc
      exact ⟨by simp, by have := num_size i; show (num i).size ≤ 12; omega⟩
  · split at hc
    · rename_i h3
      have := List.of_mem_zip hc
      refine ⟨this.2, nmB_size ?_⟩
      have hm := G.any_self h.mis
      unfold G.mis G.named at hm
      rw [h3] at hm
      simp at hm
      exact hm c.1 this.1
    · cases hc
/-- a component's cells in memory -/
theorem comp_at {w : World} {S : Nat → Prop} {A : Option Addr} {l : List (ByteArray × G)} (h : RowS w S A (flatC l)) {i : Nat} (hi : i < l.length) :
    ∃ b off c, A = some ⟨b, off, none⟩ ∧ S b ∧ b < w.heap.size ∧ l[i]? = some c ∧ (w.cell? ⟨b, off + i * 8, none⟩ = some (.string c.1) ∧ w.cell? ⟨b, off + i * 8 + 1, none⟩ = some (.int .i64 c.2.kd) ∧ w.cell? ⟨b, off + i * 8 + 2, none⟩ = some (.int .i64 c.2.lo) ∧ w.cell? ⟨b, off + i * 8 + 3, none⟩ = some (.int .i64 c.2.hi) ∧ w.cell? ⟨b, off + i * 8 + 4, none⟩ = some (.int .i64 c.2.sz) ∧ w.cell? ⟨b, off + i * 8 + 5, none⟩ = some (.string c.2.nm) ∧ w.cell? ⟨b, off + i * 8 + 6, none⟩ = some (.slice c.2.na c.2.ns.length c.2.nc) ∧ w.cell? ⟨b, off + i * 8 + 7, none⟩ = some (.slice c.2.ad c.2.ks.length c.2.cap)) := by
  obtain ⟨b, off, e, hb, hl, hc⟩ := h.cells (by unfold flatC; rw [flatLen cCells 8 (fun _ => rfl)]; omega)
  have hf : ∀ j, j < 8 → (flatC l)[i * 8 + j]? = (cCells l[i])[j]? := fun j hj => flatAt cCells 8 (fun _ => rfl) l hi hj
  exact ⟨b, off, l[i], e, hb, hl, List.getElem?_eq_getElem hi, hc _ _ (hf 0 (by omega)), hc _ _ (hf 1 (by omega)), hc _ _ (hf 2 (by omega)), hc _ _ (hf 3 (by omega)), hc _ _ (hf 4 (by omega)), hc _ _ (hf 5 (by omega)), hc _ _ (hf 6 (by omega)), hc _ _ (hf 7 (by omega))⟩
theorem SI.mid {B lb fb n T : Nat} {w w3 w8 : World} {v : Value} {l : List Sl} {ob : Obj} (h : SI B lb fb w v l n) (hb : Below w.heap.size w w3) (hg : (w3.alloc ob).grownBy w8 v.ownBlock) : One w8 lb v := by
  have b3 := (h.bl.below hb h.bl.lt).alloc ob
  have hlt := b3.lt
  obtain ⟨T', hT⟩ := b3.blk
  exact ⟨T', (hg.block lb hlt (fun e => by have := (h.own.lt _ e.symm).1; have := h.hl; omega)).trans hT⟩
theorem FrS.rowS {lb : Nat} {w w' : World} {v v' : Value} {S : Nat → Prop} {A : Option Addr} {xs : List Value} (h : FrS lb w v w' v') (hr : RowS w S A xs) (hS : ∀ b, S b → b ≠ lb ∧ some b ≠ v.ownBlock) : RowS w' S A xs :=
  hr.keep (fun p hp hlt => World.cell?_of_block (w := w) (h.block _ hlt (hS _ hp).1 (hS _ hp).2)) (fun b hb _ => hb) h.size
/-- the contract of the collector -/
def ClE (e : G) : Prop := ∀ (B lb fb L n : Nat) (p : ByteArray) (w : World) (v : Value) (l : List Sl), SI B lb fb w v l n → G.In w L e → L ≤ lb → L ≤ fb → p.size + 13 * e.dep ≤ 1000 → Vl e → n + (G.scal e p).length ≤ 100000 →
    Calls Tryz.prog 26 #[e.val, .string p, .pointer (some ⟨lb, 0, none⟩), .pointer (some ⟨fb, 0, none⟩)] w (ColP B lb fb v (l ++ G.scal e p) w)
set_option maxRecDepth 100000 in
set_option maxHeartbeats 4000000 in
theorem collect_leaf (e : G) (hk : e.kd = 0 ∨ e.kd = 1) : ClE e := by
  intro B lb fb L n p w v l hS hin hL hL2 hp hV hn
  obtain ⟨i0, hi0, hz0, hz1, hz2⟩ := info_parts infoScal
  have HC := Lib.hid (G.comps_leaf e hk)
  have HSc := Lib.hid (show G.scal e p = [leafS e p] from G.scal_leaf e p hk)
  have X := Eb.start w e 26
  have hin2 := hin.below (show Below L w (w.alloc (.cells e.box 26)) from X.bel.mono (by have := hS.hl; have := hS.hz; omega))
  have HX := Lib.hid (fun W (i : Eb w W e) => components_any e W ((hin.below (i.bel.mono (by have := hS.hl; have := hS.hz; omega))).more (by have := i.bel.size; have := hS.hl; have := hS.hz; omega)) (G.any_self hV.mal) (G.any_self hV.out))
  rw [HC.out] at HX
  rw [HSc.out] at hn ⊢
  have hn2 : n + 1 ≤ 100000 := by simpa using hn
  obtain ⟨s, hs⟩ : ∃ s, Hid (leafS e p = s) := ⟨_, Lib.hid rfl⟩
  have HSV := Lib.hid (fun W => by have := scalar_any e p W; rw [hs.out] at this; exact this)
  rw [hs.out]
  obtain ⟨A', c', rfl⟩ := own_slice_ hS.own
  have hlen := hS.len
  clear hin hL hL2 hp hV hn hin2 hk HC HSc
  go_enter Tryz.func26, Tryz.ntmps26
  go_upto_region 1 with (fail)
  revert X
  generalize w.alloc (.cells #[.int .i64 e.kd, .int .i64 e.lo, .int .i64 e.hi, .int .i64 e.sz, .string e.nm, .slice e.na e.ns.length e.nc, .slice e.ad e.ks.length e.cap] 26) = w1
  intro X
  obtain ⟨k0, k1, k2, k3, k4, k5, k6⟩ := box_cells X.be
  go_wp2_with fail
  refine (HX.out _ X).mono ?_
  rintro r w2 ⟨A2, c2, rfl, hr, b2⟩
  have X2 := X.below b2
  clear k0 k1 k2 k3 k4 k5 k6 HX hr
  have S2 := hS.below X2.bel
  have F2 : FrS lb w (.slice A' n c') w2.drew (.slice A' n c') := FrS.below (show Below w.heap.size w w2.drew from X2.bel.drew)
  have Sd := S2.below (show Below w2.heap.size w2 w2.drew from (Below.refl _ _).drew)
  obtain ⟨k0, k1, k2, k3, k4, k5, k6⟩ := box_cells X2.be.drew
  have y6 : w2.drew.cell? ⟨lb, 0, none⟩ = some (.slice A' n c') := Sd.bl.c
  have hz2 : B ≤ w2.heap.size := S2.hz
  clear X b2
  go_wp2_with fail
  go_region_law (first
    | (refine step_append_lies _ (by rfl) _ _ 34 (by rfl) B 39 i0 (.agg #[.string ⟨#[]⟩, .bool false, .int .i64 0, .int .i64 0]) 4 40 Tryz.underlying34 hi0 hz0 hz1 (by assumption) (by decide) (by decide) _ _ _ (by rfl) (S3.own.alloc _) ⟨w3.heap.size, 0, none⟩ 1 1 (sCells s) (by rfl) (by rfl) (scal_cells w3 s 39) (scal_one s) (by decide) (by unfold maxLen; omega) (by omega) (by rw [World.size_alloc]; omega) _ rfl ?_; intro g cap w8 hown8 hgrow hat hlt8; have o8 := Sd.mid (T := 0) b3 hgrow; have f8 := o8.fr 0; have c8 := o8.c; have J := Sd.step b3 hown8 hgrow (hat.imp_right (by intro h; rw [h, World.size_alloc])))
    | (go_simp; go_at_call 27; refine (HSV.out _).mono ?_; rintro r w3 ⟨rfl, b3⟩; have S3 := Sd.below b3; have x6 := S3.bl.c; have x7 := fun o => (S3.bl.alloc o).c; have h3 : w2.heap.size ≤ w3.heap.size := b3.size))
  all_goals
    clear hown8 hgrow hat o8 f8 c8 b3 S3 x6 x7 h3 y6 k0 k1 k2 k3 k4 k5 k6 hlt8
    obtain ⟨J1, J2⟩ := J
    have F3 : FrS lb w (.slice A' n c') _ _ := F2.trans J2
    go_wp2_with fail
    go_loopw [22] (fun iv wr => iv = .int .i64 ((0 : Nat) : Int) ∧ wr = w8.setCell ⟨lb, 0, none⟩ (.slice (some ⟨g, 0, none⟩) (n + 1) cap)) (fun iv _ => 0)
    case atStart => exact ⟨rfl, rfl⟩
    case round =>
      obtain ⟨rfl, rfl⟩ := hrel
      go_wp2_with fail
      go_end0
      exact ⟨_, rfl, by rw [show (l ++ [s]).length = n + 1 by rw [List.length_append, hlen]; rfl]; exact J1, F3⟩
end Go.Proofs.YtlifnabeilnblaaGreatDoor
/- Walks: the collector of Scalars at arrays and records; Scalars of package types. -/
namespace Go.Proofs.YtlifnabeilnblaaGreatDoor
open Go.RowKit Go.Sort
set_option linter.unusedVariables false

theorem KS {w : World} {fb b : Nat} {x : Value} {c : ByteArray × G} (h : One w fb x) (k : Blk w b (cBox c)) :
    w.cell? ⟨fb, 0, none⟩ = some x ∧ w.cell? ⟨b, 0, none⟩ = some (.string c.1) ∧ w.cell? ⟨b, 1, none⟩ = some (.int .i64 c.2.kd) ∧ w.cell? ⟨b, 2, none⟩ = some (.int .i64 c.2.lo) ∧ w.cell? ⟨b, 3, none⟩ = some (.int .i64 c.2.hi) ∧ w.cell? ⟨b, 4, none⟩ = some (.int .i64 c.2.sz) ∧ w.cell? ⟨b, 5, none⟩ = some (.string c.2.nm) ∧ w.cell? ⟨b, 6, none⟩ = some (.slice c.2.na c.2.ns.length c.2.nc) ∧ w.cell? ⟨b, 7, none⟩ = some (.slice c.2.ad c.2.ks.length c.2.cap) :=
  ⟨h.c, k.c 0 rfl, k.c 1 rfl, k.c 2 rfl, k.c 3 rfl, k.c 4 rfl, k.c 5 rfl, k.c 6 rfl, k.c 7 rfl⟩
theorem fm_take {α β : Type} (f : α → List β) (l : List α) {i : Nat} {c : α} (h : l[i]? = some c) : (l.take (i + 1)).flatMap f = (l.take i).flatMap f ++ f c := by
  obtain ⟨hi, rfl⟩ := List.getElem?_eq_some_iff.1 h
  rw [List.take_succ_eq_append_getElem hi, List.flatMap_append]; simp
theorem fm_len {α β : Type} (f : α → List β) (l : List α) {i : Nat} {c : α} (h : l[i]? = some c) : ((l.take i).flatMap f).length + (f c).length ≤ (l.flatMap f).length := by
  have h1 := fm_take f l h
  have h2 : (l.flatMap f).length = ((l.take (i + 1)).flatMap f).length + ((l.drop (i + 1)).flatMap f).length := by
    conv => lhs; rw [← List.take_append_drop (i + 1) l, List.flatMap_append, List.length_append]
  rw [h1, List.length_append] at h2
  omega
set_option maxRecDepth 100000 in
set_option maxHeartbeats 4000000 in
theorem collect_node (e : G) (hk : 2 ≤ e.kd) (hk3 : e.kd < 4) (ih : ∀ k ∈ e.ks, ClE k) : ClE e := by
  intro B lb fb L n p w v l hS hin hL hL2 hp hV hn
  have IH := Lib.hid ih
  have hSB := hS.hl
  have hSz := hS.hz
  have X := Eb.start w e 26
  have HX := Lib.hid (fun W (i : Eb w W e) => components_any e W ((hin.below (i.bel.mono (by omega))).more (by have := i.bel.size; omega)) (G.any_self hV.mal) (G.any_self hV.out))
  have HSc : Hid (G.scal e p = (G.comps e).flatMap fun c => G.scal c.2 (jn p c.1)) := Lib.hid (G.scal_comps e p hk hk3)
  have HCk := Lib.hid (fun c (hc : c ∈ G.comps e) => And.intro (G.comp_ok hV hc) (hV.kid (G.comp_ok hV hc).1))
  have hkids : ∀ k ∈ e.ks, G.In w L k := G.inL_iff.1 hin.kids
  have HKi := Lib.hid hkids
  have HDp := Lib.hid (fun k (hm : k ∈ e.ks) => show k.dep + 1 ≤ e.dep by have := G.depL_mem hm; rw [G.dep_eq e]; omega)
  have hpos : 0 < (G.comps e).length ∧ (G.comps e).length ≤ 32 := by
    have f := (G.mal_iff e).1 (G.any_self hV.mal)
    have ho := G.any_self hV.out
    unfold G.comps
    by_cases h2 : e.kd = 2
    · rw [if_pos h2]
      have h1 := f.ar h2
      unfold G.out G.inr at ho
      rw [h2] at ho
      simp at ho
      unfold G.comps2
      cases hks : e.ks with
      | nil => rw [hks] at h1; simp at h1
      | cons a b => simp only [List.length_map, List.length_range]; omega
    · have h3 : e.kd = 3 := by omega
      rw [if_neg h2, if_pos h3, List.length_zip]
      have := f.rc h3
      unfold G.out G.inr at ho
      rw [h3] at ho
      simp at ho
      omega
  rw [HSc.out] at hn ⊢
  obtain ⟨cs, hcs⟩ : ∃ cs, Hid (G.comps e = cs) := ⟨_, Lib.hid rfl⟩
  rw [hcs.out] at HX HCk hn hpos ⊢
  obtain ⟨m, hm⟩ : ∃ m, Hid (cs.length = m) := ⟨_, Lib.hid rfl⟩
  have HX2 := Lib.hid (show ∀ W, Eb w W e → Calls Tryz.prog 22 #[e.val] W fun r w' => ∃ A c, r = .returned (.slice A m c) ∧ RowS w' (New W) A (flatC cs) ∧ Below W.heap.size W w' from fun W i => by rw [← hm.out]; exact HX.out W i)
  rw [hm.out] at hpos
  have hm32 := hpos.2
  have hpos1 := hpos.1
  have hown := hS.own
  have hfl := hS.hf
  clear ih hin hkids hV hcs HSc hk hk3 HX hown
  go_enter Tryz.func26, Tryz.ntmps26
  go_upto_region 1 with (fail)
  revert X
  generalize w.alloc (.cells #[.int .i64 e.kd, .int .i64 e.lo, .int .i64 e.hi, .int .i64 e.sz, .string e.nm, .slice e.na e.ns.length e.nc, .slice e.ad e.ks.length e.cap] 26) = w1
  intro X
  obtain ⟨k0, k1, k2, k3, k4, k5, k6⟩ := box_cells X.be
  go_wp2_with fail
  refine (HX2.out _ X).mono ?_
  rintro r w2 ⟨A2, c2, rfl, hr, b2⟩
  have X2 := X.below b2
  have hx1 := X.bel.size
  have F2 : FrS lb w v w2 v := FrS.below X2.bel
  have S2 := hS.below X2.bel
  have hmI : (((m : Nat) : Int) == 0) = false := by simp; omega
  clear k0 k1 k2 k3 k4 k5 k6 HX2 X
  go_wp2_with fail
  clear hmI
  go_loopw [22] (fun iv wr => ∃ (i : Nat) (v' : Value) (l' : List Sl), i ≤ m ∧ iv = .int .i64 i ∧ Hid (l' = l ++ (cs.take i).flatMap fun c => G.scal c.2 (jn p c.1)) ∧ SI B lb fb wr v' l' l'.length ∧ FrS lb w2 v wr v') (fun iv _ => m - (intOf iv).toNat)
  case atStart => exact ⟨0, v, l, Nat.zero_le _, rfl, Lib.hid (by simp), by rw [hS.len]; exact S2, FrS.below (Below.refl _ _)⟩
  case round =>
    obtain ⟨i, v', l', hi, rfl, hl', I, F⟩ := hrel
    have hv : ∀ k, v.ownBlock = some k → B ≤ k ∧ k < w.heap.size := fun k hk => hS.own.lt k hk
    by_cases hlt : i < m
    · have hrw := F.rowS hr (fun b hb => ⟨by have : w1.heap.size ≤ b := hb; omega, fun e => by have := (hv b e.symm).2; have : w1.heap.size ≤ b := hb; omega⟩)
      obtain ⟨b, off, c, rfl, hSb, hbl, hci, d0, d1, d2, d3, d4, d5, d6, d7⟩ := comp_at hrw (show i < cs.length by rw [hm.out]; exact hlt)
      have hcm : c ∈ cs := List.mem_of_getElem? hci
      obtain ⟨⟨hck, hcs12⟩, hVk⟩ := HCk.out c hcm
      have hbL : Below L w wr := (bAll (X2.bel.mono (show L ≤ w.heap.size by omega)) (F.low S2 hL))
      have HFT := Lib.hid (fm_take (fun c => G.scal c.2 (jn p c.1)) cs hci)
      have hfl2 := fm_len (fun c => G.scal c.2 (jn p c.1)) cs hci
      have hll : l'.length = l.length + ((cs.take i).flatMap fun c => G.scal c.2 (jn p c.1)).length := by rw [hl'.out, List.length_append]
      have hSl := hS.len
      have HI := Lib.hid (fun W (hb : Below wr.heap.size wr W) => IH.out c.2 hck B lb fb L l'.length (jn p c.1) W v' l' (I.below hb) ((HKi.out c.2 hck).below (bAll hbL (hb.mono (by have := I.hz; omega)))) hL hL2 (by
        rw [jn_size]
        have := HDp.out c.2 hck
        omega) hVk (by omega))
      have hjs := Lib.hid (fun W => join_any p c.1 (by omega) (by omega) W)
      have HLN : Hid (l' ++ G.scal c.2 (jn p c.1) = l ++ (cs.take (i + 1)).flatMap fun c => G.scal c.2 (jn p c.1)) := Lib.hid (by rw [HFT.out, hl'.out, List.append_assoc])
      have BC := Blk.new_ wr (cBox c) 68
      have hal := al1 wr (.cells (cBox c) 68)
      have IA := I.below hal
      have hv' : ∀ k, v'.ownBlock = some k → B ≤ k ∧ k < wr.heap.size := fun k hk => I.own.lt k hk
      have hfw : fb < wr.heap.size := I.bf.lt
      have hlw : lb < wr.heap.size := I.bl.lt
      obtain ⟨q, hq⟩ : ∃ q, Hid (jn p c.1 = q) := ⟨_, Lib.hid rfl⟩
      have HV' := Lib.hid hv'
      clear hci hcm hck hVk hfl2 hll hjs HFT hSl hl' hv hv'
      have hjs := Lib.hid (fun W => by have := join_any p c.1 (by omega) (by omega) W; rw [hq.out] at this; exact this)
      rw [hq.out] at HI HLN
      go_upto_region 7 with (fail)
      clear d0 d1 d2 d3 d4 d5 d6 d7
      revert BC hal IA
      generalize wr.alloc (.cells #[.string c.1, .int .i64 c.2.kd, .int .i64 c.2.lo, .int .i64 c.2.hi, .int .i64 c.2.sz, .string c.2.nm, .slice c.2.na c.2.ns.length c.2.nc, .slice c.2.ad c.2.ks.length c.2.cap] 68) = w4
      intro BC hal IA
      have b0 : Below w4.heap.size w4 w4.drew := (Below.refl _ _).drew
      have K0 := KS IA.bf.drew BC.drew
      go_region_held3 (fun w' => w'.cell? ⟨fb, 0, none⟩ = some (colV lb fb) ∧ w'.cell? ⟨wr.heap.size, 0, none⟩ = some (.string c.1) ∧ w'.cell? ⟨wr.heap.size, 1, none⟩ = some (.int .i64 c.2.kd) ∧ w'.cell? ⟨wr.heap.size, 2, none⟩ = some (.int .i64 c.2.lo) ∧ w'.cell? ⟨wr.heap.size, 3, none⟩ = some (.int .i64 c.2.hi) ∧ w'.cell? ⟨wr.heap.size, 4, none⟩ = some (.int .i64 c.2.sz) ∧ w'.cell? ⟨wr.heap.size, 5, none⟩ = some (.string c.2.nm) ∧ w'.cell? ⟨wr.heap.size, 6, none⟩ = some (.slice c.2.na c.2.ns.length c.2.nc) ∧ w'.cell? ⟨wr.heap.size, 7, none⟩ = some (.slice c.2.ad c.2.ks.length c.2.cap)) (first | exact K0 | exact K1 | exact K2)
        (first
          | (go_at_call 28; refine (hjs.out _).mono ?_; rintro r w5 ⟨rfl, b5⟩; have b6 := bTrans b0 b5; have I5 := IA.below b6; have BC5 := BC.below b6 BC.lt; have K1 := KS I5.bf BC5)
          | (go_at_call 26; refine (HI.out w5 (bTrans hal b6)).mono ?_; rintro r w6 ⟨v6, rfl, I6, F6⟩; have K2 := KS I6.bf (F6.blk (w0 := w5) (l := l') (B := B) (fb := fb) (n := l'.length) BC5 (by omega) (fun e => by have := (HV'.out _ e.symm).2; omega))))
      have F7 : FrS lb w2 v w6 v6 := (F.trans (FrS.below (bTrans hal b6))).trans F6
      clear K0 K1 K2 BC BC5 IA I5 I hal b0 b5 b6 HI hjs F F6 hrw
      go_wp2_with fail
      go_roundw
      case rel => exact ⟨i + 1, v6, l' ++ G.scal c.2 q, by omega, by go_num, HLN, I6, F7⟩
      case measure => simp [intOf]; omega
    · obtain rfl : i = m := by omega
      have HLE : Hid (l' = l ++ cs.flatMap fun c => G.scal c.2 (jn p c.1)) := Lib.hid (by rw [hl'.out, List.take_of_length_le (by rw [hm.out]; exact Nat.le_refl _)])
      have F7 := F2.trans F
      go_wp2_with fail
      go_end0
      exact ⟨v', rfl, by rw [← HLE.out]; exact I, F7⟩
theorem collect_any (e : G) : ClE e := by
  induction e using G.ind with
  | h e ih =>
    intro B lb fb L n p w v l hS hin hL hL2 hp hV hn
    have f := (G.mal_iff e).1 (G.any_self hV.mal)
    have hnm := G.any_self hV.nam
    unfold G.isName at hnm
    have h4 : e.kd ≠ 4 := by simpa using hnm
    have h0 := f.k0
    have h5 := f.k5
    by_cases h : e.kd = 0 ∨ e.kd = 1
    · exact collect_leaf e h B lb fb L n p w v l hS hin hL hL2 hp hV hn
    · exact collect_node e (by omega) (by omega) ih B lb fb L n p w v l hS hin hL hL2 hp hV hn
end Go.Proofs.YtlifnabeilnblaaGreatDoor
