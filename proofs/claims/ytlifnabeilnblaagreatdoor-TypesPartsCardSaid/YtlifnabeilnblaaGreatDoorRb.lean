/- Walks: rebuilt of package types, for each function that changes the components. -/
import Derived.Test.YtlifnabeilnblaaGreatDoorLn
import Derived.Deep.RegionHeld3
import Derived.Deep.RegionLaw
namespace Go.Proofs.YtlifnabeilnblaaGreatDoor
open Go.RowKit Go.Sort
set_option linter.unusedVariables false

/-- names too many to be copied -/
def G.bigN (e : G) : Bool := decide (1000000 < e.ns.length)
/-- a tree that can be copied -/
structure Sm (e : G) : Prop where
  nodes : e.nodes ≤ 1000000
  big : e.any G.bigN = false
theorem Sm.kid {e k : G} {i : Nat} (h : Sm e) (hk : G.Is e.ks i k) : Sm k := ⟨Nat.le_trans (G.nodes_in hk) h.nodes, G.any_kid h.big hk.mem⟩
theorem Sm.ns {e : G} (h : Sm e) : e.ns.length ≤ 1000000 := by
  have := G.any_self h.big
  unfold G.bigN at this
  have := of_decide_eq_false this
  omega
theorem Sm.ks {e : G} (h : Sm e) : e.ks.length ≤ 1000000 := by
  have h1 := h.nodes
  rw [G.nodes_eq] at h1
  have : ∀ l : List G, l.length ≤ G.nodesL l := by
    intro l
    induction l with
    | nil => simp [G.nodesL]
    | cons a l ih => have := G.nodes_pos a; simp only [G.nodesL, List.length_cons]; omega
  have := this e.ks
  omega
/-- a call hands back a new tree that is y but for its addresses -/
def NewT (y : G) (w : World) (r : Ending) (w' : World) : Prop := ∃ x : G, r = .returned x.val ∧ G.InS w' (New w) x ∧ x.bare = y ∧ Below w.heap.size w w'
/-- a tree with other components, without addresses -/
def G.rb (e : G) (Y : G → G) : G := .mk e.kd e.lo e.hi e.sz e.nm none 0 e.ns none 0 (e.ks.map Y)
/-- the zero type in a box -/
abbrev zbox : Array Value := #[.int .i64 0, .int .i64 0, .int .i64 0, .int .i64 0, .string ⟨#[]⟩, .slice none 0 0, .slice none 0 0]
/-- blocks behind B that are not the row of v -/
def SB (B : Nat) (v : Value) : Nat → Prop := fun b => B ≤ b ∧ some b ≠ v.ownBlock
/-- the world in rebuilt's loop -/
structure RbI (w wr : World) (e : G) (An : Option Addr) (cn : Nat) (v : Value) (xs : List G) : Prop where
  be : Blk wr w.heap.size #[.int .i64 e.kd, .int .i64 e.lo, .int .i64 e.hi, .int .i64 e.sz, .string e.nm, .slice An e.ns.length cn, v]
  br : Blk wr (w.heap.size + 1) zbox
  nr : RowS wr (SB (w.heap.size + 2) v) An (svals e.ns)
  own : wr.ownsRow (w.heap.size + 2) 26 7 v xs.length (G.flat xs)
  all : ∀ x ∈ xs, G.InS wr (SB (w.heap.size + 2) v) x
  bel : Below w.heap.size w wr
theorem new_cells (w : World) (x : G) (T : TypeId) : ∀ j u, (G.cells x)[j]? = some u → (w.alloc (.cells x.box T)).cell? ((⟨w.heap.size, 0, none⟩ : Addr).add j) = some u := fun j u hu => by
  rw [Go.WideShapes.add_plain, Nat.zero_add]
  exact (Blk.new_ w x.box T).c j (by show (G.cells x).toArray[j]? = some u; simpa using hu)
theorem cells_one (x : G) : ∀ u ∈ G.cells x, u.oneCell' = true := by
  intro u hu
  unfold G.cells at hu
  simp only [List.mem_cons, List.not_mem_nil, or_false] at hu
  rcases hu with rfl | rfl | rfl | rfl | rfl | rfl | rfl <;> rfl
theorem cell_far {w : World} {p q : Addr} (h : q.block ≠ p.block) (u : Value) : (w.setCell p u).cell? q = w.cell? q := World.cell?_of_block (w := w) (Below.heap_setCell w p u q.block h)
theorem own_ge {w : World} {base e z n : Nat} {v : Value} {xs : List Value} (h : w.ownsRow base e z v n xs) {k : Nat} (hk : v.ownBlock = some k) : base ≤ k ∧ k < w.heap.size := h.lt k hk
/-- the step: the call, the append, the store -/
theorem RbI.step {w wr w3 w8 : World} {e x : G} {An : Option Addr} {cn g cap H n : Nat} {v : Value} {xs : List G} {o T : Nat} {ob : Obj} (h : RbI w wr e An cn v xs) (hn : xs.length = n)
    (hb : Below (wr.alloc ob).heap.size (wr.alloc ob) w3) (hx : G.InS w3 (New (wr.alloc ob)) x)
    (ho : w8.ownsRow (w.heap.size + 2) 26 7 (.slice (some ⟨g, 0, none⟩) (n + 1) cap) (n + 1) (G.flat xs ++ G.cells x))
    (hg : (w3.alloc (.cells x.box T)).grownBy w8 v.ownBlock) (hat : v.ownBlock = some g ∨ g = w3.heap.size + 1) :
    RbI w (w8.setCell ⟨w.heap.size, 6, none⟩ (.slice (some ⟨g, 0, none⟩) (n + 1) cap)) e An cn (.slice (some ⟨g, 0, none⟩) (n + 1) cap) (xs ++ [x]) := by
  have hs1 : wr.heap.size + 1 ≤ w3.heap.size := by have := hb.size; rwa [World.size_alloc] at this
  have hs0 := h.bel.size
  have hlt0 := h.br.lt
  have hge : ∀ k, v.ownBlock = some k → w.heap.size + 2 ≤ k ∧ k < wr.heap.size := fun k hk => own_ge h.own hk
  have hs8 := hg.size
  rw [World.size_alloc] at hs8
  have hkc : ∀ p : Addr, p.block < w3.heap.size → some p.block ≠ v.ownBlock → p.block ≠ w.heap.size → (w8.setCell ⟨w.heap.size, 6, none⟩ (.slice (some ⟨g, 0, none⟩) (n + 1) cap)).cell? p = w3.cell? p := fun p hp hne hne2 => by
    rw [cell_far (by exact hne2), World.cell?_of_block (w := w3.alloc (.cells x.box T)) (hg.block _ (by rw [World.size_alloc]; omega) hne)]
    exact World.cell?_alloc_lt _ _ _ hp
  have hkr : ∀ p : Addr, p.block < wr.heap.size → w3.cell? p = wr.cell? p := fun p hp => (hb.cell (by rw [World.size_alloc]; omega)).trans (World.cell?_alloc_lt _ _ _ hp)
  have hS : ∀ b, SB (w.heap.size + 2) v b → b < wr.heap.size → SB (w.heap.size + 2) (.slice (some ⟨g, 0, none⟩) (n + 1) cap) b := fun b hb2 hlt => ⟨hb2.1, fun e => by
    have e' : b = g := by simpa [Value.ownBlock] using e
    rcases hat with h1 | h1
    · exact hb2.2 (by rw [h1, e'])
    · omega⟩
  have hsz : wr.heap.size ≤ (w8.setCell ⟨w.heap.size, 6, none⟩ (.slice (some ⟨g, 0, none⟩) (n + 1) cap)).heap.size := by
    have : (w8.setCell ⟨w.heap.size, 6, none⟩ (.slice (some ⟨g, 0, none⟩) (n + 1) cap)).heap.size = w8.heap.size := by simp [World.setCell]
    omega
  have hold : ∀ p : Addr, SB (w.heap.size + 2) v p.block → p.block < wr.heap.size → (w8.setCell ⟨w.heap.size, 6, none⟩ (.slice (some ⟨g, 0, none⟩) (n + 1) cap)).cell? p = wr.cell? p := fun p hp hlt =>
    (hkc p (by omega) hp.2 (by have := hp.1; omega)).trans (hkr p hlt)
  refine ⟨?_, ?_, ?_, ?_, ?_, ?_⟩
  · have b1 := ((h.be.alloc ob).below hb (by rw [World.size_alloc]; omega)).alloc (.cells x.box T)
    have b2 := b1.grown hg (fun e => by have := (hge _ e.symm).1; omega)
    exact b2.put 6 _
  · have b1 := ((h.br.alloc ob).below hb (by rw [World.size_alloc]; omega)).alloc (.cells x.box T)
    have b2 := b1.grown hg (fun e => by have := (hge _ e.symm).1; omega)
    exact b2.far (by simp) _
  · exact h.nr.keep hold hS hsz
  · rw [G.flat_snoc, List.length_append]
    subst hn
    exact ho.kept (grown_set _ _ _ _) (by simp [Value.ownBlock]; rcases hat with h1 | h1
                                          · have := (hge _ h1).1; omega
                                          · omega)
  · intro y hy
    rcases List.mem_append.1 hy with hy | hy
    · exact (h.all y hy).keep hold hS hsz
    · simp at hy
      subst hy
      refine hx.keep (fun p hp hlt => hkc p hlt (fun e => ?_) ?_) (fun b hb2 hlt => ⟨?_, fun e => ?_⟩) (by
        have : (w8.setCell ⟨w.heap.size, 6, none⟩ (.slice (some ⟨g, 0, none⟩) (n + 1) cap)).heap.size = w8.heap.size := by simp [World.setCell]
        omega)
      · have h1 : (wr.alloc ob).heap.size ≤ p.block := hp
        rw [World.size_alloc] at h1
        have := (hge _ e.symm).2; omega
      · have h1 : (wr.alloc ob).heap.size ≤ p.block := hp
        rw [World.size_alloc] at h1
        omega
      · have h1 : (wr.alloc ob).heap.size ≤ b := hb2
        rw [World.size_alloc] at h1
        omega
      · have h1 : (wr.alloc ob).heap.size ≤ b := hb2
        rw [World.size_alloc] at h1
        have e' : b = g := by simpa [Value.ownBlock] using e
        rcases hat with h2 | h2
        · have := (hge _ h2).2; omega
        · omega
  · have b1 := (h.bel.alloc hs0 ob).trans (hb.mono (by rw [World.size_alloc]; omega))
    have b2 := (b1.alloc (by omega) (.cells x.box T)).grown hg (by rw [World.size_alloc]; omega) (fun k e => by have := (hge _ e).1; omega)
    exact b2.setCell (by simp) _
theorem RbI.be8 {w wr w3 w8 : World} {e : G} {An : Option Addr} {cn : Nat} {v : Value} {xs : List G} {ob ob2 : Obj} (h : RbI w wr e An cn v xs) (hb : Below (wr.alloc ob).heap.size (wr.alloc ob) w3) (hg : (w3.alloc ob2).grownBy w8 v.ownBlock) :
    Blk w8 w.heap.size #[.int .i64 e.kd, .int .i64 e.lo, .int .i64 e.hi, .int .i64 e.sz, .string e.nm, .slice An e.ns.length cn, v] := by
  have hlt0 := h.be.lt
  have b1 := ((h.be.alloc ob).below hb (by rw [World.size_alloc]; omega)).alloc ob2
  exact b1.grown hg (fun e => by have := (own_ge h.own e.symm).1; omega)
theorem RbI.bc8 {w wr w3 w8 : World} {e k : G} {An : Option Addr} {cn T : Nat} {v : Value} {xs : List G} {ob2 : Obj} (h : RbI w wr e An cn v xs) (hb : Below (wr.alloc (.cells k.box T)).heap.size (wr.alloc (.cells k.box T)) w3) (hg : (w3.alloc ob2).grownBy w8 v.ownBlock) :
    Blk w8 wr.heap.size k.box := by
  have b1 := ((Blk.new_ wr k.box T).below hb (by rw [World.size_alloc]; omega)).alloc ob2
  exact b1.grown hg (fun e => by have := (own_ge h.own e.symm).2; omega)
theorem SK_of {w : World} {b c n cv : Nat} {a0 a1 a2 a3 a4 a5 : Value} {Av : Option Addr} {k : G} (B : Blk w b #[a0, a1, a2, a3, a4, a5, .slice Av n cv]) (C : Blk w c k.box) :
    w.cell? ⟨b, 6, none⟩ = some (.slice Av n cv) ∧ w.cell? ⟨c, 0, none⟩ = some (.int .i64 k.kd) ∧ w.cell? ⟨c, 1, none⟩ = some (.int .i64 k.lo) ∧ w.cell? ⟨c, 2, none⟩ = some (.int .i64 k.hi) ∧ w.cell? ⟨c, 3, none⟩ = some (.int .i64 k.sz) ∧ w.cell? ⟨c, 4, none⟩ = some (.string k.nm) ∧ w.cell? ⟨c, 5, none⟩ = some (.slice k.na k.ns.length k.nc) ∧ w.cell? ⟨c, 6, none⟩ = some (.slice k.ad k.ks.length k.cap) :=
  ⟨B.c 6 rfl, C.c 0 rfl, C.c 1 rfl, C.c 2 rfl, C.c 3 rfl, C.c 4 rfl, C.c 5 rfl, C.c 6 rfl⟩
theorem seven_put {w : World} {b : Nat} {a0 a1 a2 a3 a4 a5 a6 : Value} (h : Blk w b #[a0, a1, a2, a3, a4, a5, a6]) (u0 u1 u2 u3 u4 u5 u6 : Value) :
    Blk (((((((w.setCell ⟨b, 0, none⟩ u0).setCell ⟨b, 1, none⟩ u1).setCell ⟨b, 2, none⟩ u2).setCell ⟨b, 3, none⟩ u3).setCell ⟨b, 4, none⟩ u4).setCell ⟨b, 5, none⟩ u5).setCell ⟨b, 6, none⟩ u6) b #[u0, u1, u2, u3, u4, u5, u6] := by
  have h0 : Blk (w.setCell ⟨b, 0, none⟩ u0) b #[u0, a1, a2, a3, a4, a5, a6] := h.put 0 u0
  have h1 : Blk _ b #[u0, u1, a2, a3, a4, a5, a6] := h0.put 1 u1
  have h2 : Blk _ b #[u0, u1, u2, a3, a4, a5, a6] := h1.put 2 u2
  have h3 : Blk _ b #[u0, u1, u2, u3, a4, a5, a6] := h2.put 3 u3
  have h4 : Blk _ b #[u0, u1, u2, u3, u4, a5, a6] := h3.put 4 u4
  have h5 : Blk _ b #[u0, u1, u2, u3, u4, u5, a6] := h4.put 5 u5
  exact h5.put 6 u6
theorem seven_grown (w : World) (b : Nat) (u0 u1 u2 u3 u4 u5 u6 : Value) :
    w.grownBy (((((((w.setCell ⟨b, 0, none⟩ u0).setCell ⟨b, 1, none⟩ u1).setCell ⟨b, 2, none⟩ u2).setCell ⟨b, 3, none⟩ u3).setCell ⟨b, 4, none⟩ u4).setCell ⟨b, 5, none⟩ u5).setCell ⟨b, 6, none⟩ u6) (some b) :=
  grown_trans (grown_trans (grown_trans (grown_trans (grown_trans (grown_trans (grown_set _ _ _ _) (grown_set _ _ _ _)) (grown_set _ _ _ _)) (grown_set _ _ _ _)) (grown_set _ _ _ _)) (grown_set _ _ _ _)) (grown_set _ _ _ _)
theorem RbI.done {w wr w7 : World} {e : G} {An Av : Option Addr} {cn cv : Nat} {xs : List G} (h : RbI w wr e An cn (.slice Av xs.length cv) xs) (hg : wr.grownBy w7 (some (w.heap.size + 1))) (hn : G.Nd w w.heap.size e) (hl : xs.length ≤ 1000000) :
    G.InS w7 (New w) (.mk e.kd e.lo e.hi e.sz e.nm An cn e.ns Av cv xs) ∧ Below w.heap.size w w7 := by
  have hs := h.bel.size
  have hlt := h.br.lt
  have hk : ∀ p : Addr, SB (w.heap.size + 2) (.slice Av xs.length cv) p.block → p.block < wr.heap.size → w7.cell? p = wr.cell? p := fun p hp hlt => World.cell?_of_block (w := wr) (hg.block _ hlt (by
    intro e
    have e' : p.block = w.heap.size + 1 := by simpa using e
    have := hp.1; omega))
  have hS : ∀ b, SB (w.heap.size + 2) (.slice Av xs.length cv) b → b < wr.heap.size → New w b := fun b hb _ => by have := hb.1; show w.heap.size ≤ b; omega
  refine ⟨?_, h.bel.grown hg hs (fun k e => by cases e; omega)⟩
  rw [G.inS_eq, G.inSL_iff]
  refine ⟨⟨hn.kd, hn.lo, hn.hi, hn.sz, hn.nm, hn.nlen, hn.names, h.nr.keep hk hS hg.size, by show xs.length ≤ _; omega, ?_⟩, fun x hx => (h.all x hx).keep hk hS hg.size⟩
  have ho : w7.ownsRow (w.heap.size + 2) 26 7 (.slice Av xs.length cv) xs.length (G.flat xs) := h.own.kept hg (.inr fun e => by
    have := own_ge h.own (k := w.heap.size + 1) e
    omega)
  have hr := RowS.of_own ho (by decide)
  exact ⟨fun hp => by
    obtain ⟨b, off, h1, h2, h3, h4⟩ := hr.cells hp
    exact ⟨b, off, h1, by show w.heap.size ≤ b; omega, h3, h4⟩⟩
/-- the boxes of rebuilt at its start -/
structure AnZ (w wr : World) (e : G) : Prop where
  be : Blk wr w.heap.size e.box
  br : Blk wr (w.heap.size + 1) zbox
  bel : Below w.heap.size w wr
theorem AnZ.size {w wr : World} {e : G} (h : AnZ w wr e) : w.heap.size + 2 ≤ wr.heap.size := h.br.lt
theorem AnZ.start (w : World) (e : G) (T T' : TypeId) : AnZ w ((w.alloc (.cells e.box T)).alloc (.cells zbox T')) e :=
  ⟨(Blk.new_ _ _ _).alloc _, by
    have := Blk.new_ (w.alloc (.cells e.box T)) zbox T'
    rwa [World.size_alloc] at this, (al1 w _).alloc (by simp) _⟩
theorem AnZ.below {w wr w' : World} {e : G} (h : AnZ w wr e) (hb : Below wr.heap.size wr w') : AnZ w w' e := ⟨h.be.below hb h.be.lt, h.br.below hb h.br.lt, bTrans h.bel hb⟩
theorem AnZ.loop {w w1 w2 : World} {e : G} {An : Option Addr} {cn : Nat} (h : AnZ w w2 e) (hr : RowS w2 (New w1) An (svals e.ns)) (hz : w.heap.size + 2 ≤ w1.heap.size) :
    RbI w ((w2.setCell ⟨w.heap.size, 5, none⟩ (.slice An e.ns.length cn)).setCell ⟨w.heap.size, 6, none⟩ (.slice none 0 0)) e An cn (.slice none 0 0) [] := by
  have hsz : ((w2.setCell ⟨w.heap.size, 5, none⟩ (.slice An e.ns.length cn)).setCell ⟨w.heap.size, 6, none⟩ (.slice none 0 0)).heap.size = w2.heap.size := by simp [World.setCell]
  refine ⟨(h.be.put 5 _).put 6 _, (h.br.far (by simp) _).far (by simp) _, ?_, World.ownsRow_nil _ _ _ _, fun x hx => absurd hx (by simp), (h.bel.setCell (by simp) _).setCell (by simp) _⟩
  refine hr.keep (fun p hp hlt => ?_) (fun b hb hlt => ⟨Nat.le_trans hz hb, by simp [Value.ownBlock]⟩) (by rw [hsz]; exact Nat.le_refl _)
  have h1 : w1.heap.size ≤ p.block := hp
  rw [cell_far (by show p.block ≠ w.heap.size; omega), cell_far (by show p.block ≠ w.heap.size; omega)]
set_option maxRecDepth 100000 in
set_option maxHeartbeats 1000000 in
theorem rebuilt_copied {J : World → Prop} {Y : G → G} (hJ : ∀ w w' : World, J w → Below w.heap.size w w' → J w') (e : G) (ih : ∀ k ∈ e.ks, ∀ w : World, J w → G.In w w.heap.size k → Calls Tryz.prog 20 #[k.val] w (NewT (Y k) w))
    (w : World) (hJw : J w) (hin : G.In w w.heap.size e) (hs : Sm e) : Calls Tryz.prog 37 #[e.val, .func (.func 20) #[] #[]] w (NewT (e.rb Y) w) := by
  have IH := Lib.hid ih
  have HJ := Lib.hid hJ
  have hl := hin.l
  have hn := hin.nd
  have hlen := hs.ks
  have hnl := hs.ns
  obtain ⟨i0, hi0, hz0, hz1, hz2⟩ := info_parts infoType
  obtain ⟨A, hA⟩ : ∃ A, Hid (e.ad = A) := ⟨_, Lib.hid rfl⟩
  rw [hA.out] at hl
  clear ih hJ hs hin
  have X1 := AnZ.start w e 26 26
  go_enter Tryz.func37, Tryz.ntmps37
  go_upto_region 1 with (fail)
  revert X1
  generalize (w.alloc (.cells #[.int .i64 e.kd, .int .i64 e.lo, .int .i64 e.hi, .int .i64 e.sz, .string e.nm, .slice e.na e.ns.length e.nc, .slice e.ad e.ks.length e.cap] 26)).alloc (.cells zbox 26) = w1
  intro X1
  have k5 := X1.be.c 5 (show e.box[5]? = some (.slice e.na e.ns.length e.nc) from rfl)
  have HC := Lib.hid (clone_any e.ns e.na e.nc w1 ((hn.below X1.bel).more X1.bel.size).nrow hnl)
  go_wp2_with fail
  refine HC.out.mono ?_
  rintro r w2 ⟨An, cn, rfl, hrow, b1⟩
  have X2 := X1.below b1
  have k6 := X2.be.c 6 (show e.box[6]? = some (.slice e.ad e.ks.length e.cap) from rfl)
  rw [hA.out] at k6
  have f5 := X2.be.fr 5
  have g5 := X2.be.c 5 (show e.box[5]? = some (.slice e.na e.ns.length e.nc) from rfl)
  have P5 := X2.be.put 5 (.slice An e.ns.length cn)
  have k6' := P5.c 6 (show (e.box.setIfInBounds 5 (.slice An e.ns.length cn))[6]? = some (.slice e.ad e.ks.length e.cap) from rfl)
  rw [hA.out] at k6'
  have f6 := P5.fr 6
  have I0 := AnZ.loop (cn := cn) X2 hrow X1.size
  clear HC k5 X1 hrow b1
  go_wp2_with fail
  clear k6 f5 g5 P5 k6' f6 X2
  go_loopw [17] (fun iv wr => ∃ i : Nat, i ≤ e.ks.length ∧ iv = .int .i64 i ∧ ∃ (v : Value) (xs : List G), Hid (xs.map G.bare = (e.ks.take i).map Y) ∧ xs.length = i ∧ RbI w wr e An cn v xs) (fun iv _ => e.ks.length - (intOf iv).toNat)
  case atStart => exact ⟨0, Nat.zero_le _, rfl, .slice none 0 0, [], Lib.hid (by simp), rfl, I0⟩
  case round =>
    clear I0
    obtain ⟨i, hi, rfl, v, xs, hxs, hxl, I⟩ := hrel
    by_cases hlt : i < e.ks.length
    · obtain ⟨ab, off, k, rfl, hab, ⟨d0, d1, d2, d3, d4, d5, d6⟩, his, hkin⟩ := (hl.below I.bel).at_ hlt
      have hsz := I.br.lt
      have hbl := I.bel.alloc I.bel.size (.cells k.box 26)
      have HI := Lib.hid (IH.out k his.mem _ (HJ.out _ _ hJw (show Below w.heap.size w (wr.alloc (.cells k.box 26)).drew from hbl.drew)) ((hkin.more I.bel.size).at ((al1 wr (.cells k.box 26)).drew)))
      have HX : Hid (∀ x : G, x.bare = Y k → (xs ++ [x]).map G.bare = (e.ks.take (i + 1)).map Y) := Lib.hid (fun x hx => by rw [his.take, List.map_append, List.map_append, hxs.out, List.map_cons, List.map_nil, hx]; rfl)
      obtain ⟨Av, cv, rfl⟩ := own_slice_ I.own
      have I' : RbI w wr e An cn (.slice Av i cv) xs := hxl ▸ I
      have HS := Lib.hid (fun w3 w8 x g cap hb hx ho hg hat => RbI.step (w3 := w3) (w8 := w8) (x := x) (g := g) (cap := cap) (T := 26) (H := 0) (o := 0) (ob := .cells k.box 26) I' hxl hb hx ho hg hat)
      have v6 := (I.be.alloc (.cells k.box 26)).c 6 (show (#[.int .i64 e.kd, .int .i64 e.lo, .int .i64 e.hi, .int .i64 e.sz, .string e.nm, .slice An e.ns.length cn, .slice Av xs.length cv] : Array Value)[6]? = some (.slice Av xs.length cv) from rfl)
      have hxn : xs.length ≤ 1000000 := by omega
      have ho := I.own
      rw [hxl] at ho v6 hxn
      clear hkin hbl hxs
      have NB := Blk.new_ wr k.box 26
      have b0 : Below (wr.alloc (.cells k.box 26)).heap.size (wr.alloc (.cells k.box 26)) (wr.alloc (.cells k.box 26)).drew := (Below.refl _ _).drew
      have B0 := I'.be.alloc (.cells k.box 26)
      have K0 := SK_of B0.drew NB.drew
      go_wp2_with fail
      clear v6 d0 d1 d2 d3 d4 d5 d6
      obtain ⟨y6, y0, y1, y2, y3, y4, y5, y7⟩ := K0
      go_region_law (first
          | (refine step_append_lies _ (by rfl) _ _ 24 (by rfl) (w.heap.size + 2) 26 i0 (.agg zbox) 7 96 Tryz.underlying24 hi0 hz0 hz1 hz2 (by decide) (by decide) _ _ _ (by rfl) (ho3.alloc _) ⟨w3.heap.size, 0, none⟩ 1 1 (G.cells x) (by rfl) (by rfl) (new_cells w3 x 26) (cells_one x) (by decide) (by unfold maxLen; omega) (by omega) (by rw [World.size_alloc]; omega) _ rfl ?_; intro g cap w8 hown8 hgrow hat hlt8; have B8 := I'.be8 b4 hgrow; have f8 := B8.fr 6; have c8 : w8.cell? ⟨w.heap.size, 6, none⟩ = some (.slice Av i cv) := B8.c 6 rfl; have J := HS.out w3 w8 x g cap b4 hx hown8 hgrow (hat.imp_right (by intro h; rw [h, World.size_alloc])))
          | (go_simp; go_at_call 20; refine (HI.out).mono ?_; rintro r w3 ⟨x, rfl, hx, hxb, b3⟩; have b4 := bTrans b0 b3; have B1 := B0.below b4 B0.lt; have x6 : w3.cell? ⟨w.heap.size, 6, none⟩ = some (.slice Av i cv) := B1.c 6 rfl; have x7 : ∀ o, (w3.alloc o).cell? ⟨w.heap.size, 6, none⟩ = some (.slice Av i cv) := fun o => (B1.alloc o).c 6 rfl; have ho3 := (ho.alloc (.cells k.box 26)).kept (row := none) (grown_of_below b4 none) (by cases hv : (Value.slice Av i cv).ownBlock <;> simp); have h3 := b4.size; rw [World.size_alloc] at h3; have HX2 := Lib.hid (HX.out x hxb)))
      all_goals
        clear hown8 hgrow hat B8 f8 c8 HX HS I I' ho ho3 b0 b3 b4 hx x6 x7 B1 B0 NB y6 y0 y1 y2 y3 y4 y5 y7
        go_wp2_with fail
        go_roundw
        case rel => exact ⟨i + 1, by omega, by go_num, _, xs ++ [x], HX2, by rw [List.length_append, hxl]; rfl, J⟩
        case measure => simp [intOf]; omega
    · obtain rfl : i = e.ks.length := by omega
      obtain ⟨Av, cv, rfl⟩ := own_slice_ I.own
      have HB : Hid ((G.mk e.kd e.lo e.hi e.sz e.nm An cn e.ns Av cv xs).bare = e.rb Y) := Lib.hid (by
        have := hxs.out
        rw [List.take_length] at this
        rw [G.bare_eq]
        show G.mk _ _ _ _ _ _ _ _ _ _ (xs.map G.bare) = _
        rw [this]; rfl)
      have c0 : wr.cell? ⟨w.heap.size, 0, none⟩ = some (.int .i64 e.kd) := I.be.c 0 rfl
      have c1 : wr.cell? ⟨w.heap.size, 1, none⟩ = some (.int .i64 e.lo) := I.be.c 1 rfl
      have c2 : wr.cell? ⟨w.heap.size, 2, none⟩ = some (.int .i64 e.hi) := I.be.c 2 rfl
      have c3 : wr.cell? ⟨w.heap.size, 3, none⟩ = some (.int .i64 e.sz) := I.be.c 3 rfl
      have c4 : wr.cell? ⟨w.heap.size, 4, none⟩ = some (.string e.nm) := I.be.c 4 rfl
      have c5 : wr.cell? ⟨w.heap.size, 5, none⟩ = some (.slice An e.ns.length cn) := I.be.c 5 rfl
      have c6 : wr.cell? ⟨w.heap.size, 6, none⟩ = some (.slice Av xs.length cv) := I.be.c 6 rfl
      have z0 : wr.cell? ⟨w.heap.size + 1, 0, none⟩ = some (.int .i64 0) := I.br.c 0 rfl
      have z1 : wr.cell? ⟨w.heap.size + 1, 1, none⟩ = some (.int .i64 0) := I.br.c 1 rfl
      have z2 : wr.cell? ⟨w.heap.size + 1, 2, none⟩ = some (.int .i64 0) := I.br.c 2 rfl
      have z3 : wr.cell? ⟨w.heap.size + 1, 3, none⟩ = some (.int .i64 0) := I.br.c 3 rfl
      have z4 : wr.cell? ⟨w.heap.size + 1, 4, none⟩ = some (.string ⟨#[]⟩) := I.br.c 4 rfl
      have z5 : wr.cell? ⟨w.heap.size + 1, 5, none⟩ = some (.slice none 0 0) := I.br.c 5 rfl
      have z6 : wr.cell? ⟨w.heap.size + 1, 6, none⟩ = some (.slice none 0 0) := I.br.c 6 rfl
      have f0 := I.br.fr 0
      have f1 := I.br.fr 1
      have f2 := I.br.fr 2
      have f3 := I.br.fr 3
      have f4 := I.br.fr 4
      have f5 := I.br.fr 5
      have f6 := I.br.fr 6
      have HD := Lib.hid (I.done (seven_grown wr (w.heap.size + 1) (.int .i64 e.kd) (.int .i64 e.lo) (.int .i64 e.hi) (.int .i64 e.sz) (.string e.nm) (.slice An e.ns.length cn) (.slice Av e.ks.length cv)) hn (by omega))
      have HP := Lib.hid (seven_put I.br (.int .i64 e.kd) (.int .i64 e.lo) (.int .i64 e.hi) (.int .i64 e.sz) (.string e.nm) (.slice An e.ns.length cn) (.slice Av e.ks.length cv))
      have HV : Hid (Ending.returned (.agg #[.int .i64 e.kd, .int .i64 e.lo, .int .i64 e.hi, .int .i64 e.sz, .string e.nm, .slice An e.ns.length cn, .slice Av e.ks.length cv]) = Ending.returned (G.mk e.kd e.lo e.hi e.sz e.nm An cn e.ns Av cv xs).val) := Lib.hid (by rw [← hxl]; rfl)
      rw [hxl] at c6
      go_wp2_with fail
      have r0 := HP.out.c 0 (show (#[Value.int .i64 e.kd, .int .i64 e.lo, .int .i64 e.hi, .int .i64 e.sz, .string e.nm, .slice An e.ns.length cn, .slice Av e.ks.length cv] : Array Value)[0]? = some (.int .i64 e.kd) from rfl)
      have r1 := HP.out.c 1 (show (#[Value.int .i64 e.kd, .int .i64 e.lo, .int .i64 e.hi, .int .i64 e.sz, .string e.nm, .slice An e.ns.length cn, .slice Av e.ks.length cv] : Array Value)[1]? = some (.int .i64 e.lo) from rfl)
      have r2 := HP.out.c 2 (show (#[Value.int .i64 e.kd, .int .i64 e.lo, .int .i64 e.hi, .int .i64 e.sz, .string e.nm, .slice An e.ns.length cn, .slice Av e.ks.length cv] : Array Value)[2]? = some (.int .i64 e.hi) from rfl)
      have r3 := HP.out.c 3 (show (#[Value.int .i64 e.kd, .int .i64 e.lo, .int .i64 e.hi, .int .i64 e.sz, .string e.nm, .slice An e.ns.length cn, .slice Av e.ks.length cv] : Array Value)[3]? = some (.int .i64 e.sz) from rfl)
      have r4 := HP.out.c 4 (show (#[Value.int .i64 e.kd, .int .i64 e.lo, .int .i64 e.hi, .int .i64 e.sz, .string e.nm, .slice An e.ns.length cn, .slice Av e.ks.length cv] : Array Value)[4]? = some (.string e.nm) from rfl)
      have r5 := HP.out.c 5 (show (#[Value.int .i64 e.kd, .int .i64 e.lo, .int .i64 e.hi, .int .i64 e.sz, .string e.nm, .slice An e.ns.length cn, .slice Av e.ks.length cv] : Array Value)[5]? = some (.slice An e.ns.length cn) from rfl)
      have r6 := HP.out.c 6 (show (#[Value.int .i64 e.kd, .int .i64 e.lo, .int .i64 e.hi, .int .i64 e.sz, .string e.nm, .slice An e.ns.length cn, .slice Av e.ks.length cv] : Array Value)[6]? = some (.slice Av e.ks.length cv) from rfl)
      refine bodyPost_ret (v := .agg #[.int .i64 e.kd, .int .i64 e.lo, .int .i64 e.hi, .int .i64 e.sz, .string e.nm, .slice An e.ns.length cn, .slice Av e.ks.length cv]) (by simp [results, Tryz.results37, go_sem, r0, r1, r2, r3, r4, r5, r6]) rfl ⟨G.mk e.kd e.lo e.hi e.sz e.nm An cn e.ns Av cv xs, HV.out, (HD.out).1, HB.out, (HD.out).2⟩
set_option maxRecDepth 100000 in
set_option maxHeartbeats 1000000 in
theorem rebuilt_replaced (M : Nat) {J : World → Prop} {Y : G → G} (hJ : ∀ w w' : World, J w → Below w.heap.size w w' → J w') (e : G) (ih : ∀ k ∈ e.ks, ∀ w : World, J w → G.In w w.heap.size k → Calls Tryz.prog 60 #[.map (some M), k.val] w (NewT (Y k) w))
    (w : World) (hJw : J w) (hin : G.In w w.heap.size e) (hs : Sm e) : Calls Tryz.prog 37 #[e.val, .func (.func 60) #[.map (some M)] #[]] w (NewT (e.rb Y) w) := by
  have IH := Lib.hid ih
  have HJ := Lib.hid hJ
  have hl := hin.l
  have hn := hin.nd
  have hlen := hs.ks
  have hnl := hs.ns
  obtain ⟨i0, hi0, hz0, hz1, hz2⟩ := info_parts infoType
  obtain ⟨A, hA⟩ : ∃ A, Hid (e.ad = A) := ⟨_, Lib.hid rfl⟩
  rw [hA.out] at hl
  clear ih hJ hs hin
  have X1 := AnZ.start w e 26 26
  go_enter Tryz.func37, Tryz.ntmps37
  go_upto_region 1 with (fail)
  revert X1
  generalize (w.alloc (.cells #[.int .i64 e.kd, .int .i64 e.lo, .int .i64 e.hi, .int .i64 e.sz, .string e.nm, .slice e.na e.ns.length e.nc, .slice e.ad e.ks.length e.cap] 26)).alloc (.cells zbox 26) = w1
  intro X1
  have k5 := X1.be.c 5 (show e.box[5]? = some (.slice e.na e.ns.length e.nc) from rfl)
  have HC := Lib.hid (clone_any e.ns e.na e.nc w1 ((hn.below X1.bel).more X1.bel.size).nrow hnl)
  go_wp2_with fail
  refine HC.out.mono ?_
  rintro r w2 ⟨An, cn, rfl, hrow, b1⟩
  have X2 := X1.below b1
  have k6 := X2.be.c 6 (show e.box[6]? = some (.slice e.ad e.ks.length e.cap) from rfl)
  rw [hA.out] at k6
  have f5 := X2.be.fr 5
  have g5 := X2.be.c 5 (show e.box[5]? = some (.slice e.na e.ns.length e.nc) from rfl)
  have P5 := X2.be.put 5 (.slice An e.ns.length cn)
  have k6' := P5.c 6 (show (e.box.setIfInBounds 5 (.slice An e.ns.length cn))[6]? = some (.slice e.ad e.ks.length e.cap) from rfl)
  rw [hA.out] at k6'
  have f6 := P5.fr 6
  have I0 := AnZ.loop (cn := cn) X2 hrow X1.size
  clear HC k5 X1 hrow b1
  go_wp2_with fail
  clear k6 f5 g5 P5 k6' f6 X2
  go_loopw [17] (fun iv wr => ∃ i : Nat, i ≤ e.ks.length ∧ iv = .int .i64 i ∧ ∃ (v : Value) (xs : List G), Hid (xs.map G.bare = (e.ks.take i).map Y) ∧ xs.length = i ∧ RbI w wr e An cn v xs) (fun iv _ => e.ks.length - (intOf iv).toNat)
  case atStart => exact ⟨0, Nat.zero_le _, rfl, .slice none 0 0, [], Lib.hid (by simp), rfl, I0⟩
  case round =>
    clear I0
    obtain ⟨i, hi, rfl, v, xs, hxs, hxl, I⟩ := hrel
    by_cases hlt : i < e.ks.length
    · obtain ⟨ab, off, k, rfl, hab, ⟨d0, d1, d2, d3, d4, d5, d6⟩, his, hkin⟩ := (hl.below I.bel).at_ hlt
      have hsz := I.br.lt
      have hbl := I.bel.alloc I.bel.size (.cells k.box 26)
      have HI := Lib.hid (IH.out k his.mem _ (HJ.out _ _ hJw (show Below w.heap.size w (wr.alloc (.cells k.box 26)).drew from hbl.drew)) ((hkin.more I.bel.size).at ((al1 wr (.cells k.box 26)).drew)))
      have HX : Hid (∀ x : G, x.bare = Y k → (xs ++ [x]).map G.bare = (e.ks.take (i + 1)).map Y) := Lib.hid (fun x hx => by rw [his.take, List.map_append, List.map_append, hxs.out, List.map_cons, List.map_nil, hx]; rfl)
      obtain ⟨Av, cv, rfl⟩ := own_slice_ I.own
      have I' : RbI w wr e An cn (.slice Av i cv) xs := hxl ▸ I
      have HS := Lib.hid (fun w3 w8 x g cap hb hx ho hg hat => RbI.step (w3 := w3) (w8 := w8) (x := x) (g := g) (cap := cap) (T := 26) (H := 0) (o := 0) (ob := .cells k.box 26) I' hxl hb hx ho hg hat)
      have v6 := (I.be.alloc (.cells k.box 26)).c 6 (show (#[.int .i64 e.kd, .int .i64 e.lo, .int .i64 e.hi, .int .i64 e.sz, .string e.nm, .slice An e.ns.length cn, .slice Av xs.length cv] : Array Value)[6]? = some (.slice Av xs.length cv) from rfl)
      have hxn : xs.length ≤ 1000000 := by omega
      have ho := I.own
      rw [hxl] at ho v6 hxn
      clear hkin hbl hxs
      have NB := Blk.new_ wr k.box 26
      have b0 : Below (wr.alloc (.cells k.box 26)).heap.size (wr.alloc (.cells k.box 26)) (wr.alloc (.cells k.box 26)).drew := (Below.refl _ _).drew
      have B0 := I'.be.alloc (.cells k.box 26)
      have K0 := SK_of B0.drew NB.drew
      go_wp2_with fail
      clear v6 d0 d1 d2 d3 d4 d5 d6
      obtain ⟨y6, y0, y1, y2, y3, y4, y5, y7⟩ := K0
      go_region_law (first
          | (refine step_append_lies _ (by rfl) _ _ 24 (by rfl) (w.heap.size + 2) 26 i0 (.agg zbox) 7 96 Tryz.underlying24 hi0 hz0 hz1 hz2 (by decide) (by decide) _ _ _ (by rfl) (ho3.alloc _) ⟨w3.heap.size, 0, none⟩ 1 1 (G.cells x) (by rfl) (by rfl) (new_cells w3 x 26) (cells_one x) (by decide) (by unfold maxLen; omega) (by omega) (by rw [World.size_alloc]; omega) _ rfl ?_; intro g cap w8 hown8 hgrow hat hlt8; have B8 := I'.be8 b4 hgrow; have f8 := B8.fr 6; have c8 : w8.cell? ⟨w.heap.size, 6, none⟩ = some (.slice Av i cv) := B8.c 6 rfl; have J := HS.out w3 w8 x g cap b4 hx hown8 hgrow (hat.imp_right (by intro h; rw [h, World.size_alloc])))
          | (go_simp; go_at_call 60; refine (HI.out).mono ?_; rintro r w3 ⟨x, rfl, hx, hxb, b3⟩; have b4 := bTrans b0 b3; have B1 := B0.below b4 B0.lt; have x6 : w3.cell? ⟨w.heap.size, 6, none⟩ = some (.slice Av i cv) := B1.c 6 rfl; have x7 : ∀ o, (w3.alloc o).cell? ⟨w.heap.size, 6, none⟩ = some (.slice Av i cv) := fun o => (B1.alloc o).c 6 rfl; have ho3 := (ho.alloc (.cells k.box 26)).kept (row := none) (grown_of_below b4 none) (by cases hv : (Value.slice Av i cv).ownBlock <;> simp); have h3 := b4.size; rw [World.size_alloc] at h3; have HX2 := Lib.hid (HX.out x hxb)))
      all_goals
        clear hown8 hgrow hat B8 f8 c8 HX HS I I' ho ho3 b0 b3 b4 hx x6 x7 B1 B0 NB y6 y0 y1 y2 y3 y4 y5 y7
        go_wp2_with fail
        go_roundw
        case rel => exact ⟨i + 1, by omega, by go_num, _, xs ++ [x], HX2, by rw [List.length_append, hxl]; rfl, J⟩
        case measure => simp [intOf]; omega
    · obtain rfl : i = e.ks.length := by omega
      obtain ⟨Av, cv, rfl⟩ := own_slice_ I.own
      have HB : Hid ((G.mk e.kd e.lo e.hi e.sz e.nm An cn e.ns Av cv xs).bare = e.rb Y) := Lib.hid (by
        have := hxs.out
        rw [List.take_length] at this
        rw [G.bare_eq]
        show G.mk _ _ _ _ _ _ _ _ _ _ (xs.map G.bare) = _
        rw [this]; rfl)
      have c0 : wr.cell? ⟨w.heap.size, 0, none⟩ = some (.int .i64 e.kd) := I.be.c 0 rfl
      have c1 : wr.cell? ⟨w.heap.size, 1, none⟩ = some (.int .i64 e.lo) := I.be.c 1 rfl
      have c2 : wr.cell? ⟨w.heap.size, 2, none⟩ = some (.int .i64 e.hi) := I.be.c 2 rfl
      have c3 : wr.cell? ⟨w.heap.size, 3, none⟩ = some (.int .i64 e.sz) := I.be.c 3 rfl
      have c4 : wr.cell? ⟨w.heap.size, 4, none⟩ = some (.string e.nm) := I.be.c 4 rfl
      have c5 : wr.cell? ⟨w.heap.size, 5, none⟩ = some (.slice An e.ns.length cn) := I.be.c 5 rfl
      have c6 : wr.cell? ⟨w.heap.size, 6, none⟩ = some (.slice Av xs.length cv) := I.be.c 6 rfl
      have z0 : wr.cell? ⟨w.heap.size + 1, 0, none⟩ = some (.int .i64 0) := I.br.c 0 rfl
      have z1 : wr.cell? ⟨w.heap.size + 1, 1, none⟩ = some (.int .i64 0) := I.br.c 1 rfl
      have z2 : wr.cell? ⟨w.heap.size + 1, 2, none⟩ = some (.int .i64 0) := I.br.c 2 rfl
      have z3 : wr.cell? ⟨w.heap.size + 1, 3, none⟩ = some (.int .i64 0) := I.br.c 3 rfl
      have z4 : wr.cell? ⟨w.heap.size + 1, 4, none⟩ = some (.string ⟨#[]⟩) := I.br.c 4 rfl
      have z5 : wr.cell? ⟨w.heap.size + 1, 5, none⟩ = some (.slice none 0 0) := I.br.c 5 rfl
      have z6 : wr.cell? ⟨w.heap.size + 1, 6, none⟩ = some (.slice none 0 0) := I.br.c 6 rfl
      have f0 := I.br.fr 0
      have f1 := I.br.fr 1
      have f2 := I.br.fr 2
      have f3 := I.br.fr 3
      have f4 := I.br.fr 4
      have f5 := I.br.fr 5
      have f6 := I.br.fr 6
      have HD := Lib.hid (I.done (seven_grown wr (w.heap.size + 1) (.int .i64 e.kd) (.int .i64 e.lo) (.int .i64 e.hi) (.int .i64 e.sz) (.string e.nm) (.slice An e.ns.length cn) (.slice Av e.ks.length cv)) hn (by omega))
      have HP := Lib.hid (seven_put I.br (.int .i64 e.kd) (.int .i64 e.lo) (.int .i64 e.hi) (.int .i64 e.sz) (.string e.nm) (.slice An e.ns.length cn) (.slice Av e.ks.length cv))
      have HV : Hid (Ending.returned (.agg #[.int .i64 e.kd, .int .i64 e.lo, .int .i64 e.hi, .int .i64 e.sz, .string e.nm, .slice An e.ns.length cn, .slice Av e.ks.length cv]) = Ending.returned (G.mk e.kd e.lo e.hi e.sz e.nm An cn e.ns Av cv xs).val) := Lib.hid (by rw [← hxl]; rfl)
      rw [hxl] at c6
      go_wp2_with fail
      have r0 := HP.out.c 0 (show (#[Value.int .i64 e.kd, .int .i64 e.lo, .int .i64 e.hi, .int .i64 e.sz, .string e.nm, .slice An e.ns.length cn, .slice Av e.ks.length cv] : Array Value)[0]? = some (.int .i64 e.kd) from rfl)
      have r1 := HP.out.c 1 (show (#[Value.int .i64 e.kd, .int .i64 e.lo, .int .i64 e.hi, .int .i64 e.sz, .string e.nm, .slice An e.ns.length cn, .slice Av e.ks.length cv] : Array Value)[1]? = some (.int .i64 e.lo) from rfl)
      have r2 := HP.out.c 2 (show (#[Value.int .i64 e.kd, .int .i64 e.lo, .int .i64 e.hi, .int .i64 e.sz, .string e.nm, .slice An e.ns.length cn, .slice Av e.ks.length cv] : Array Value)[2]? = some (.int .i64 e.hi) from rfl)
      have r3 := HP.out.c 3 (show (#[Value.int .i64 e.kd, .int .i64 e.lo, .int .i64 e.hi, .int .i64 e.sz, .string e.nm, .slice An e.ns.length cn, .slice Av e.ks.length cv] : Array Value)[3]? = some (.int .i64 e.sz) from rfl)
      have r4 := HP.out.c 4 (show (#[Value.int .i64 e.kd, .int .i64 e.lo, .int .i64 e.hi, .int .i64 e.sz, .string e.nm, .slice An e.ns.length cn, .slice Av e.ks.length cv] : Array Value)[4]? = some (.string e.nm) from rfl)
      have r5 := HP.out.c 5 (show (#[Value.int .i64 e.kd, .int .i64 e.lo, .int .i64 e.hi, .int .i64 e.sz, .string e.nm, .slice An e.ns.length cn, .slice Av e.ks.length cv] : Array Value)[5]? = some (.slice An e.ns.length cn) from rfl)
      have r6 := HP.out.c 6 (show (#[Value.int .i64 e.kd, .int .i64 e.lo, .int .i64 e.hi, .int .i64 e.sz, .string e.nm, .slice An e.ns.length cn, .slice Av e.ks.length cv] : Array Value)[6]? = some (.slice Av e.ks.length cv) from rfl)
      refine bodyPost_ret (v := .agg #[.int .i64 e.kd, .int .i64 e.lo, .int .i64 e.hi, .int .i64 e.sz, .string e.nm, .slice An e.ns.length cn, .slice Av e.ks.length cv]) (by simp [results, Tryz.results37, go_sem, r0, r1, r2, r3, r4, r5, r6]) rfl ⟨G.mk e.kd e.lo e.hi e.sz e.nm An cn e.ns Av cv xs, HV.out, (HD.out).1, HB.out, (HD.out).2⟩
end Go.Proofs.YtlifnabeilnblaaGreatDoor
