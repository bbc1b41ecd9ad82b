/- Walks: scalar and the collector of Scalars of package types. -/
import Derived.Test.YtbgaagopckbihaaGreatDoorCp
namespace Go.Proofs.YtbgaagopckbihaaGreatDoor
open Go.RowKit Go.Sort
set_option linter.unusedVariables false

/-- the cells of a scalar -/
abbrev sCells (s : Sl) : List Value := [.string s.path, .bool s.bool, .int .i64 s.lo, .int .i64 s.hi]
abbrev sBox (s : Sl) : Array Value := #[.string s.path, .bool s.bool, .int .i64 s.lo, .int .i64 s.hi]
abbrev sVal (s : Sl) : Value := .agg #[.string s.path, .bool s.bool, .int .i64 s.lo, .int .i64 s.hi]
def flatS (l : List Sl) : List Value := l.flatMap sCells
theorem flatS_snoc (l : List Sl) (s : Sl) : flatS (l ++ [s]) = flatS l ++ sCells s := by unfold flatS; rw [List.flatMap_append]; simp
theorem infoScal : (Tryz.prog.info? 56).map (fun i => (i.zero, i.size, i.bytes)) = some (some (.agg #[.string ⟨#[]⟩, .bool false, .int .i64 0, .int .i64 0]), 4, 40) := by kernel_rfl
/-- the scalar of a leaf -/
def leafS (e : G) (p : ByteArray) : Sl := if e.kd = 0 then ⟨p, true, 0, 1⟩ else ⟨p, false, e.lo, e.hi⟩
theorem four_put {w : World} {b : Nat} {a0 a1 a2 a3 : Value} (h : Blk w b #[a0, a1, a2, a3]) (u0 u1 u2 u3 : Value) :
    Blk ((((w.setCell ⟨b, 0, none⟩ u0).setCell ⟨b, 1, none⟩ u1).setCell ⟨b, 2, none⟩ u2).setCell ⟨b, 3, none⟩ u3) b #[u0, u1, u2, u3] := by
  have h0 : Blk (w.setCell ⟨b, 0, none⟩ u0) b #[u0, a1, a2, a3] := h.put 0 u0
  have h1 : Blk _ b #[u0, u1, a2, a3] := h0.put 1 u1
  have h2 : Blk _ b #[u0, u1, u2, a3] := h1.put 2 u2
  exact h2.put 3 u3
theorem box4 {w : World} {b : Nat} {a0 a1 a2 a3 : Value} (h : Blk w b #[a0, a1, a2, a3]) : w.cell? ⟨b, 0, none⟩ = some a0 ∧ w.cell? ⟨b, 1, none⟩ = some a1 ∧ w.cell? ⟨b, 2, none⟩ = some a2 ∧ w.cell? ⟨b, 3, none⟩ = some a3 := ⟨h.c 0 rfl, h.c 1 rfl, h.c 2 rfl, h.c 3 rfl⟩
set_option maxRecDepth 100000 in
set_option maxHeartbeats 1000000 in
theorem scalar_any (e : G) (p : ByteArray) (w : World) : Calls Tryz.prog 54 #[e.val, .string p] w fun r w' => r = .returned (sVal (leafS e p)) ∧ Below w.heap.size w w' := by
  have XB : Blk ((w.alloc (.cells e.box 26)).alloc (.cells #[.string ⟨#[]⟩, .bool false, .int .i64 0, .int .i64 0] 56)) (w.heap.size + 1) #[.string ⟨#[]⟩, .bool false, .int .i64 0, .int .i64 0] := by
    have := Blk.new_ (w.alloc (.cells e.box 26)) #[.string ⟨#[]⟩, .bool false, .int .i64 0, .int .i64 0] 56
    rwa [World.size_alloc] at this
  have XE : Blk ((w.alloc (.cells e.box 26)).alloc (.cells #[.string ⟨#[]⟩, .bool false, .int .i64 0, .int .i64 0] 56)) w.heap.size e.box := (Blk.new_ _ _ _).alloc _
  have bl : Below w.heap.size w ((w.alloc (.cells e.box 26)).alloc (.cells #[.string ⟨#[]⟩, .bool false, .int .i64 0, .int .i64 0] 56)) := (al1 w _).alloc (by simp) _
  by_cases h0 : e.kd = 0
  · have q0 : (e.kd == 0) = true := by rw [h0]; rfl
    have HV : Hid (leafS e p = ⟨p, true, 0, 1⟩) := Lib.hid (by unfold leafS; rw [if_pos h0])
    clear h0
    rw [HV.out]
    go_enter Tryz.func54, Tryz.ntmps54
    go_upto_region 1 with (fail)
    revert XB XE bl
    generalize (w.alloc (.cells #[.int .i64 e.kd, .int .i64 e.lo, .int .i64 e.hi, .int .i64 e.sz, .string e.nm, .slice e.na e.ns.length e.nc, .slice e.ad e.ks.length e.cap] 26)).alloc (.cells #[.string ⟨#[]⟩, .bool false, .int .i64 0, .int .i64 0] 56) = w1
    intro XB XE bl
    obtain ⟨k0, k1, k2, k3, k4, k5, k6⟩ := box_cells XE
    obtain ⟨z0, z1, z2, z3⟩ := box4 XB
    have f0 := XB.fr 0
    have f1 := XB.fr 1
    have f2 := XB.fr 2
    have f3 := XB.fr 3
    have HP := Lib.hid (box4 (four_put XB (.string p) (.bool true) (.int .i64 0) (.int .i64 1)))
    go_wp2_with fail
    obtain ⟨r0, r1, r2, r3⟩ := HP.out
    refine bodyPost_ret (v := sVal ⟨p, true, 0, 1⟩) (by simp [results, Tryz.results54, go_sem, r0, r1, r2, r3]) rfl ⟨rfl, ?_⟩
    exact (((bl.setCell (by simp) _).setCell (by simp) _).setCell (by simp) _).setCell (by simp) _
  · have q0 : (e.kd == 0) = false := by simpa using h0
    have HV : Hid (leafS e p = ⟨p, false, e.lo, e.hi⟩) := Lib.hid (by unfold leafS; rw [if_neg h0])
    clear h0
    rw [HV.out]
    go_enter Tryz.func54, Tryz.ntmps54
    go_upto_region 1 with (fail)
    revert XB XE bl
    generalize (w.alloc (.cells #[.int .i64 e.kd, .int .i64 e.lo, .int .i64 e.hi, .int .i64 e.sz, .string e.nm, .slice e.na e.ns.length e.nc, .slice e.ad e.ks.length e.cap] 26)).alloc (.cells #[.string ⟨#[]⟩, .bool false, .int .i64 0, .int .i64 0] 56) = w1
    intro XB XE bl
    obtain ⟨k0, k1, k2, k3, k4, k5, k6⟩ := box_cells XE
    obtain ⟨z0, z1, z2, z3⟩ := box4 XB
    have f0 := XB.fr 0
    have f1 := XB.fr 1
    have f2 := XB.fr 2
    have f3 := XB.fr 3
    have HP := Lib.hid (box4 (four_put XB (.string p) (.bool false) (.int .i64 e.lo) (.int .i64 e.hi)))
    go_wp2_with fail
    obtain ⟨r0, r1, r2, r3⟩ := HP.out
    refine bodyPost_ret (v := sVal ⟨p, false, e.lo, e.hi⟩) (by simp [results, Tryz.results54, go_sem, r0, r1, r2, r3]) rfl ⟨rfl, ?_⟩
    exact (((bl.setCell (by simp) _).setCell (by simp) _).setCell (by simp) _).setCell (by simp) _
theorem scal_cells (w : World) (s : Sl) (T : TypeId) : ∀ j u, (sCells s)[j]? = some u → (w.alloc (.cells (sBox s) T)).cell? ((⟨w.heap.size, 0, none⟩ : Addr).add j) = some u := fun j u hu => by
  rw [Go.WideShapes.add_plain, Nat.zero_add]
  exact (Blk.new_ w (sBox s) T).c j (by show (sCells s).toArray[j]? = some u; simpa using hu)
theorem scal_one (s : Sl) : ∀ u ∈ sCells s, u.oneCell' = true := by
  intro u hu
  simp only [List.mem_cons, List.not_mem_nil, or_false] at hu
  rcases hu with rfl | rfl | rfl | rfl <;> rfl
/-- the collector as a value -/
abbrev colV (lb fb : Nat) : Value := .func (.func 52) #[] #[.pointer (some ⟨lb, 0, none⟩), .pointer (some ⟨fb, 0, none⟩)]
/-- the list that is collected, in its box, and the box of the collector -/
structure SI (B lb fb : Nat) (w : World) (v : Value) (l : List Sl) (n : Nat) : Prop where
  bl : One w lb v
  bf : One w fb (colV lb fb)
  own : w.ownsRow B 56 4 v n (flatS l)
  len : l.length = n
  hl : lb < B
  hf : fb < B
  ne : fb ≠ lb
  hz : B ≤ w.heap.size
/-- all but the list and its box is as it was -/
structure FrS (lb : Nat) (w : World) (v : Value) (w' : World) (v' : Value) : Prop where
  os : w'.os = w.os
  tape : w'.tape = w.tape
  output : w'.output = w.output
  size : w.heap.size ≤ w'.heap.size
  block : ∀ k, k < w.heap.size → k ≠ lb → some k ≠ v.ownBlock → w'.heap[k]? = w.heap[k]?
  own : v'.ownBlock = v.ownBlock ∨ ∀ k, v'.ownBlock = some k → w.heap.size ≤ k
theorem FrS.below {lb : Nat} {w w' : World} {v : Value} (hb : Below w.heap.size w w') : FrS lb w v w' v := ⟨hb.os, hb.tape, hb.output, hb.size, fun k hk _ _ => hb.block k hk, .inl rfl⟩
theorem FrS.trans {lb : Nat} {w w1 w2 : World} {v v1 v2 : Value} (h : FrS lb w v w1 v1) (k : FrS lb w1 v1 w2 v2) : FrS lb w v w2 v2 :=
  ⟨k.os.trans h.os, k.tape.trans h.tape, k.output.trans h.output, Nat.le_trans h.size k.size, fun q hq h1 h2 => (k.block q (Nat.lt_of_lt_of_le hq h.size) h1 (fun e => by
    rcases h.own with h3 | h3
    · exact h2 (e.trans h3)
    · have := h3 q e.symm; omega)).trans (h.block q hq h1 h2), by
    rcases k.own with h3 | h3
    · rcases h.own with h4 | h4
      · exact .inl (h3.trans h4)
      · exact .inr fun q hq => h4 q (h3 ▸ hq)
    · exact .inr fun q hq => Nat.le_trans h.size (h3 q hq)⟩
theorem SI.below {B lb fb n : Nat} {w w' : World} {v : Value} {l : List Sl} (h : SI B lb fb w v l n) (hb : Below w.heap.size w w') : SI B lb fb w' v l n :=
  ⟨h.bl.below hb h.bl.lt, h.bf.below hb h.bf.lt, h.own.kept (row := none) (grown_of_below hb none) (by cases hv : v.ownBlock <;> simp), h.len, h.hl, h.hf, h.ne, Nat.le_trans h.hz hb.size⟩
theorem FrS.low {lb B fb n L : Nat} {w w' : World} {v v' : Value} {l : List Sl} (h : FrS lb w v w' v') (s : SI B lb fb w v l n) (hL : L ≤ lb) : Below L w w' :=
  ⟨h.os, h.tape, h.output, h.size, fun k hk => h.block k (by have := s.hl; have := s.hz; omega) (by omega) (fun e => by have := (s.own.lt k e.symm).1; have := s.hl; omega)⟩
theorem FrS.blk {lb B fb n b : Nat} {w0 w w' : World} {v v' : Value} {l : List Sl} {vs : Array Value} (h : FrS lb w v w' v') (hb : Blk w b vs) (h1 : b ≠ lb) (h2 : some b ≠ v.ownBlock) : Blk w' b vs := by
  have hlt := hb.lt
  obtain ⟨T, hT⟩ := hb.blk
  exact ⟨T, (h.block b hlt h1 h2).trans hT⟩
theorem FrS.one {lb b : Nat} {w w' : World} {v v' x : Value} (h : FrS lb w v w' v') (hb : One w b x) (h1 : b ≠ lb) (h2 : some b ≠ v.ownBlock) : One w' b x := by
  have hlt := hb.lt
  obtain ⟨T, hT⟩ := hb.blk
  exact ⟨T, (h.block b hlt h1 h2).trans hT⟩
/-- the step: an append in the row, the store of the list -/
theorem SI.step {B lb fb n g cap T : Nat} {w w3 w8 : World} {v : Value} {l : List Sl} {s : Sl} (h : SI B lb fb w v l n) (hb : Below w.heap.size w w3)
    (ho : w8.ownsRow B 56 4 (.slice (some ⟨g, 0, none⟩) (n + 1) cap) (n + 1) (flatS l ++ sCells s))
    (hg : (w3.alloc (.cells (sBox s) T)).grownBy w8 v.ownBlock) (hat : v.ownBlock = some g ∨ g = w3.heap.size + 1) :
    SI B lb fb (w8.setCell ⟨lb, 0, none⟩ (.slice (some ⟨g, 0, none⟩) (n + 1) cap)) (.slice (some ⟨g, 0, none⟩) (n + 1) cap) (l ++ [s]) (n + 1) ∧ FrS lb w v (w8.setCell ⟨lb, 0, none⟩ (.slice (some ⟨g, 0, none⟩) (n + 1) cap)) (.slice (some ⟨g, 0, none⟩) (n + 1) cap) := by
  have hs3 := hb.size
  have hs8 := hg.size
  rw [World.size_alloc] at hs8
  have hgz : w8.heap.size ≤ (w8.setCell ⟨lb, 0, none⟩ (.slice (some ⟨g, 0, none⟩) (n + 1) cap)).heap.size := by simp [World.setCell]
  have hne : ∀ k, v.ownBlock = some k → B ≤ k ∧ k < w.heap.size := fun k hk => h.own.lt k hk
  have hl := h.hl
  have hf := h.hf
  have hz := h.hz
  have b1 := h.bl.below hb h.bl.lt
  have b2 := h.bf.below hb h.bf.lt
  have b3 := (b1.alloc (.cells (sBox s) T))
  have b4 := (b2.alloc (.cells (sBox s) T))
  have g3 : One w8 lb v := by
    have hlt := b3.lt
    obtain ⟨T', hT⟩ := b3.blk
    exact ⟨T', (hg.block lb hlt (fun e => by have := (hne _ e.symm).1; omega)).trans hT⟩
  have g4 : One w8 fb (colV lb fb) := by
    have hlt := b4.lt
    obtain ⟨T', hT⟩ := b4.blk
    exact ⟨T', (hg.block fb hlt (fun e => by have := (hne _ e.symm).1; omega)).trans hT⟩
  refine ⟨⟨g3.put _, g4.far h.ne _, ?_, by rw [List.length_append, h.len]; rfl, hl, hf, h.ne, by omega⟩, ?_⟩
  · rw [flatS_snoc]
    exact ho.kept (grown_set _ _ _ _) (.inr fun e => by
      have e' : g = lb := by simpa [Value.ownBlock] using e
      rcases hat with h1 | h1
      · have := (hne _ h1).1; omega
      · omega)
  · refine ⟨hg.os.trans hb.os, hg.tape.trans hb.tape, hg.output.trans hb.output, by omega, fun k hk h1 h2 => ?_, ?_⟩
    · rw [Below.heap_setCell _ _ _ _ h1, hg.block k (by rw [World.size_alloc]; omega) h2, Below.heap_alloc _ _ _ (by omega)]
      exact hb.block k hk
    · rcases hat with h1 | h1
      · exact .inl (by rw [h1]; rfl)
      · exact .inr fun k hk => by
          have e' : g = k := by simpa [Value.ownBlock] using hk
          omega
/-- what the collector leaves -/
def ColP (B lb fb : Nat) (v : Value) (l : List Sl) (w : World) (r : Ending) (w' : World) : Prop := ∃ v', r = .returned (.tuple #[]) ∧ SI B lb fb w' v' l l.length ∧ FrS lb w v w' v'
end Go.Proofs.YtbgaagopckbihaaGreatDoor
