/- Walks: Expand of package types. -/
import Derived.Test.YtlifnabeilnblaaGreatDoorDl
import Derived.Deep.WholeRow
namespace Go.Proofs.YtlifnabeilnblaaGreatDoor
open Go.RowKit Go.Sort Go.Maps
set_option linter.unusedVariables false

namespace G
theorem dclC_bareS {nmB : ByteArray → Bool} (σ : Sco) (d : Dc) : dclC nmB (bareS σ) d = dclC nmB σ d := by
  unfold dclC
  rw [look_bareS, expT_bareS]
  cases look σ d.nm <;> rfl
theorem knD_cons (nmB : ByteArray → Bool) (d : Dc) (l : List Dc) (σ : Sco) : knD nmB (d :: l) σ = if d.kd ≠ 0 then knD nmB l σ else if dclC nmB σ d ≠ 0 then (σ, dclC nmB σ d) else knD nmB l ((d.nm, (expT nmB σ d.t).1) :: σ) := by
  rw [knD]
  unfold dclC
  by_cases hk : d.kd ≠ 0
  · rw [if_pos hk, if_pos hk]
  rw [if_neg hk, if_neg hk]
  cases hn : nmB d.nm with
  | false => simp
  | true =>
    cases hl : (look σ d.nm).isSome with
    | true => simp
    | false => simp
theorem bareS_len (σ : Sco) : (bareS σ).length = σ.length := by unfold bareS; rw [List.length_map]
end G
/-- the boxes of Expand, and the scope -/
structure ExI (w wr : World) (e : G) (σ : G.Sco) : Prop where
  be : Blk wr w.heap.size e.box
  br : Blk wr (w.heap.size + 1) zbox
  sc : Sc wr (w.heap.size + 2) σ
  vs : G.VS nmB σ
  bel : Below w.heap.size w wr
theorem ExI.below {w wr w' : World} {e : G} {σ : G.Sco} (h : ExI w wr e σ) (hb : Below wr.heap.size wr w') : ExI w w' e σ := ⟨h.be.below hb h.be.lt, h.br.below hb h.br.lt, h.sc.below hb, h.vs, bTrans h.bel hb⟩
theorem ExI.next {w wr w' : World} {e : G} {σ σ' : G.Sco} (h : ExI w wr e σ) (hg : wr.grownBy w' (some (w.heap.size + 2))) (hs : Sc w' (w.heap.size + 2) σ') (hv : G.VS nmB σ') : ExI w w' e σ' :=
  ⟨h.be.grown hg (by simp), h.br.grown hg (by simp), hs, hv, h.bel.grown hg h.bel.size (fun k e => by cases e; omega)⟩
theorem sc_made (w : World) : Sc (w.alloc (.map #[] 0)) w.heap.size [] := ⟨World.ownsMap_made w _ _ _, fun p hp => absurd hp (by simp)⟩
/-- a whole struct into the block that was made last -/
theorem wpList_store_new {P : Program} {ops : Array Oper} {rest : List Oper} {o : Oper} {a : Act} {Q : Exit → Act → World → Prop} (hgd : o.guard = none) (ty : TypeId) (x y : Operand) (ho : o.op = .store ty x y)
    (w : World) (c c' : Array Value) (hx : a.eval x = .pointer (some ⟨w.heap.size, 0, none⟩)) (hy : a.eval y = .agg c')
    (t : TypeId) (hi : (P.info? ty).map (·.size) = some c'.size) (hold : c.size = c'.size) (h1 : c'.all (·.oneCell') = true)
    (h : wpList P ops Q rest (a.put o.dst undef) (w.alloc (.cells c' t))) : wpList P ops Q (o :: rest) a (w.alloc (.cells c t)) := by
  refine wpList_store_row hgd ty x y ho w.heap.size c' hx hy t c (heap_alloc_last w _) hi hold h1 ?_
  rw [World.setRow_alloc_new]
  exact h
theorem infoDecl (d : Dc) : (Tryz.prog.info? 50).map (·.size) = some d.box.size := by
  have : (Tryz.prog.info? 50).map (·.size) = some 17 := by kernel_rfl
  exact this
theorem declOne (d : Dc) : d.box.all (·.oneCell') = true := by simp [Value.oneCell']
set_option maxRecDepth 100000 in
set_option maxHeartbeats 2000000 in
theorem expandAll_any (ds : List Dc) (A : Option Addr) (c : Nat) (e : G) (w : World) (hl : Dc.L w w.heap.size A ds) (hin : G.In w w.heap.size e) (hT : Tb w.heap.size w) (hn : ds.length ≤ 1000) :
    Calls Tryz.prog 13 #[.slice A ds.length c, e.val] w (NewTC (G.expD nmB ds e) w) := by
  have hmm := @run_makeMap Tryz.prog
  have hlen := hl.len
  have HX := Lib.hid (fun σ W (i : ExI w W e σ) => expand_any σ (w.heap.size + 2) e W i.sc i.vs (hin.at i.bel) (hT.at i.bel))
  have X0 : ExI w (((w.alloc (.cells e.box 26)).alloc (.cells zbox 26)).alloc (.map #[] 0)) e [] := ⟨((Blk.new_ _ _ _).alloc _).alloc _, by
    have := (Blk.new_ (w.alloc (.cells e.box 26)) zbox 26).alloc (.map #[] 0)
    rwa [World.size_alloc] at this, by
    have := sc_made ((w.alloc (.cells e.box 26)).alloc (.cells zbox 26))
    rwa [World.size_alloc, World.size_alloc] at this, fun p hp => absurd hp (by simp), ((al1 w _).alloc (by simp) _).alloc (by simp; omega) _⟩
  have hT2 := Lib.hid (fun W (hb : Below w.heap.size w W) => hT.at hb)
  obtain ⟨y, hy⟩ : ∃ y, Hid (G.expD nmB ds e = y) := ⟨_, Lib.hid rfl⟩
  have HY : Hid (y = if (G.knD nmB ds []).2 ≠ 0 then (G.zero, (G.knD nmB ds []).2) else G.expT nmB (G.knD nmB ds []).1 e) := Lib.hid (by rw [← hy.out]; rfl)
  rw [hy.out]
  clear hy hT hin
  go_enter Tryz.func13, Tryz.ntmps13
  go_wp2_with fail
  clear hmm
  go_loopw [13] (fun iv wr => ∃ (i : Nat) (σ : G.Sco), i ≤ ds.length ∧ iv = .int .i64 i ∧ Hid (G.knD nmB ds [] = G.knD nmB (ds.drop i) (G.bareS σ)) ∧ σ.length ≤ i ∧ ExI w wr e σ) (fun iv _ => ds.length - (intOf iv).toNat)
  case atStart => exact ⟨0, [], Nat.zero_le _, rfl, Lib.hid rfl, Nat.le_refl _, X0⟩
  case round =>
    clear X0
    obtain ⟨i, σ, hi, rfl, hk, hsl, I⟩ := hrel
    by_cases hlt : i < ds.length
    · obtain ⟨ab, off, d, rfl, hab, ⟨d0, d1, d2, d3, d4, d5, d6, d7, d8, d9, d10, d11, d12, d13, d14, d15, d16⟩, his, hdin⟩ := (hl.below I.bel).at_ hlt
      have HKN : Hid (G.knD nmB ds [] = if d.kd ≠ 0 then G.knD nmB (ds.drop (i + 1)) (G.bareS σ) else if G.dclC nmB σ d ≠ 0 then (G.bareS σ, G.dclC nmB σ d) else G.knD nmB (ds.drop (i + 1)) ((d.nm, (G.expT nmB σ d.t).1) :: G.bareS σ)) := Lib.hid (by
        obtain ⟨h1, h2⟩ := his.eq
        rw [hk.out, List.drop_eq_getElem_cons h1, h2, G.knD_cons, G.dclC_bareS, G.expT_bareS])
      have hal : Below wr.heap.size wr (wr.alloc (.cells d.box 50)) := al1 _ _
      have I2 := I.below hal
      have B2 := Blk.new_ wr d.box 50
      have hd2 := (hdin.more I.bel.size).at hal
      have HD := Lib.hid (declare_any σ (w.heap.size + 2) d _ I2.sc I2.vs hd2 (hT2.out _ I2.bel) (by omega))
      clear hdin hk
      go_upto_region 5 with (refine wpList_store_new rfl 50 _ _ rfl wr _ d.box rfl rfl 50 (infoDecl d) rfl (declOne d) ?_)
      clear d0 d1 d2 d3 d4 d5 d6 d7 d8 d9 d10 d11 d12 d13 d14 d15 d16
      revert I2 B2 hd2 HD
      generalize wr.alloc (.cells #[.int .i64 d.kd, .string d.nm, .int .i64 d.t.kd, .int .i64 d.t.lo, .int .i64 d.t.hi, .int .i64 d.t.sz, .string d.t.nm, .slice d.t.na d.t.ns.length d.t.nc, .slice d.t.ad d.t.ks.length d.t.cap, .int .i64 d.ini, .int .i64 d.vo, .int .i64 d.vn, .string d.vs, .slice d.a0 d.n0 d.p0, .slice d.a1 d.n1 d.p1, .slice d.a2 d.n2 d.p2, .slice d.a3 d.n3 d.p3] 50) = w2
      intro I2 B2 hd2 HD
      have g0 : w2.cell? ⟨wr.heap.size, 0, none⟩ = some (.int .i64 d.kd) := B2.c 0 rfl
      have g1 : w2.cell? ⟨wr.heap.size, 1, none⟩ = some (.string d.nm) := B2.c 1 rfl
      have g2 : w2.cell? ⟨wr.heap.size, 2, none⟩ = some (.int .i64 d.t.kd) := B2.c 2 rfl
      have g3 : w2.cell? ⟨wr.heap.size, 3, none⟩ = some (.int .i64 d.t.lo) := B2.c 3 rfl
      have g4 : w2.cell? ⟨wr.heap.size, 4, none⟩ = some (.int .i64 d.t.hi) := B2.c 4 rfl
      have g5 : w2.cell? ⟨wr.heap.size, 5, none⟩ = some (.int .i64 d.t.sz) := B2.c 5 rfl
      have g6 : w2.cell? ⟨wr.heap.size, 6, none⟩ = some (.string d.t.nm) := B2.c 6 rfl
      have g7 : w2.cell? ⟨wr.heap.size, 7, none⟩ = some (.slice d.t.na d.t.ns.length d.t.nc) := B2.c 7 rfl
      have g8 : w2.cell? ⟨wr.heap.size, 8, none⟩ = some (.slice d.t.ad d.t.ks.length d.t.cap) := B2.c 8 rfl
      have g9 : w2.cell? ⟨wr.heap.size, 9, none⟩ = some (.int .i64 d.ini) := B2.c 9 rfl
      have g10 : w2.cell? ⟨wr.heap.size, 10, none⟩ = some (.int .i64 d.vo) := B2.c 10 rfl
      have g11 : w2.cell? ⟨wr.heap.size, 11, none⟩ = some (.int .i64 d.vn) := B2.c 11 rfl
      have g12 : w2.cell? ⟨wr.heap.size, 12, none⟩ = some (.string d.vs) := B2.c 12 rfl
      have g13 : w2.cell? ⟨wr.heap.size, 13, none⟩ = some (.slice d.a0 d.n0 d.p0) := B2.c 13 rfl
      have g14 : w2.cell? ⟨wr.heap.size, 14, none⟩ = some (.slice d.a1 d.n1 d.p1) := B2.c 14 rfl
      have g15 : w2.cell? ⟨wr.heap.size, 15, none⟩ = some (.slice d.a2 d.n2 d.p2) := B2.c 15 rfl
      have g16 : w2.cell? ⟨wr.heap.size, 16, none⟩ = some (.slice d.a3 d.n3 d.p3) := B2.c 16 rfl
      by_cases h0 : d.kd = 0
      · have q0 : (d.kd != 0) = false := by rw [h0]; rfl
        have HK2 : Hid (G.knD nmB ds [] = if G.dclC nmB σ d ≠ 0 then (G.bareS σ, G.dclC nmB σ d) else G.knD nmB (ds.drop (i + 1)) ((d.nm, (G.expT nmB σ d.t).1) :: G.bareS σ)) := Lib.hid (by rw [HKN.out, if_neg (by rw [h0]; simp)])
        obtain ⟨q, hq⟩ : ∃ q, Hid (G.dclC nmB σ d = q) := ⟨_, Lib.hid rfl⟩
        rw [hq.out] at HD HK2
        clear h0 HKN hq
        go_wp2_with fail
        refine HD.out.mono ?_
        rintro r w3 ⟨σ', rfl, hg, hs, hv, hbs⟩
        clear g0 g1 g2 g3 g4 g5 g6 g7 g8 g9 g10 g11 g12 g13 g14 g15 g16
        have I3 := I2.next hg hs hv
        by_cases hq0 : q = 0
        · have q1 : (q != 0) = false := by rw [hq0]; rfl
          have HK3 : Hid (G.knD nmB ds [] = G.knD nmB (ds.drop (i + 1)) (G.bareS σ')) := Lib.hid (by rw [HK2.out, if_neg (by rw [hq0]; simp), hbs, if_pos hq0])
          have hsl2 : σ'.length ≤ i + 1 := by
            have := congrArg List.length hbs
            rw [G.bareS_len, if_pos hq0, List.length_cons, G.bareS_len] at this
            omega
          clear hq0 hbs HK2 hg hs hv I I2 B2 hd2 HD
          go_wp2_with fail
          go_roundw
          case rel => exact ⟨i + 1, σ', by omega, by go_num, HK3, hsl2, I3⟩
          case measure => simp [intOf]; omega
        · have q1 : (q != 0) = true := by simpa using hq0
          have HR : Hid (y = (G.zero, q)) := Lib.hid (by
            have := HK2.out
            rw [if_pos hq0] at this
            rw [HY.out, this, if_pos hq0])
          obtain ⟨z0, z1, z2, z3, z4, z5, z6⟩ := box_zero I3.br
          have f0 := I3.br.fr 0
          have f1 := I3.br.fr 1
          have f2 := I3.br.fr 2
          have f3 := I3.br.fr 3
          have f4 := I3.br.fr 4
          have f5 := I3.br.fr 5
          have f6 := I3.br.fr 6
          have HO := Lib.hid (seven_out (w := w) (wr := w3) (b := w.heap.size + 1) (x := G.zero) (by omega) I3.br.lt I3.bel.size I3.bel (zero_in _ _))
          have HP := Lib.hid (box_cells (e := G.zero) (seven_put I3.br (.int .i64 0) (.int .i64 0) (.int .i64 0) (.int .i64 0) (.string ⟨#[]⟩) (.slice none 0 0) (.slice none 0 0)))
          clear hq0 hbs HK2 hg hs hv I I2 B2 hd2 HD
          go_wp2_with fail
          obtain ⟨r0, r1, r2, r3, r4, r5, r6⟩ := HP.out
          refine bodyPost_ret (v := .tuple #[G.zero.val, .int .i64 q]) (by simp [results, Tryz.results13, go_sem, r0, r1, r2, r3, r4, r5, r6]) rfl ⟨G.zero, by rw [HR.out], (HO.out).1, by rw [HR.out]; exact zero_bare, (HO.out).2⟩
      · have q0 : (d.kd != 0) = true := by simpa using h0
        have HK2 : Hid (G.knD nmB ds [] = G.knD nmB (ds.drop (i + 1)) (G.bareS σ)) := Lib.hid (by rw [HKN.out, if_pos h0])
        clear h0 HKN HD hd2
        go_wp2_with fail
        go_roundw
        case rel => exact ⟨i + 1, σ, by omega, by go_num, HK2, by omega, I2⟩
        case measure => simp [intOf]; omega
    · obtain rfl : i = ds.length := by omega
      have HR : Hid (y = G.expT nmB σ e) := Lib.hid (by
        have := hk.out
        rw [List.drop_length] at this
        have h2 : G.knD nmB [] (G.bareS σ) = (G.bareS σ, 0) := rfl
        rw [h2] at this
        rw [HY.out, this, if_neg (by simp), G.expT_bareS])
      have HX2 := Lib.hid (HX.out σ _ I)
      rw [← HR.out] at HX2
      obtain ⟨k0, k1, k2, k3, k4, k5, k6⟩ := box_cells I.be
      clear HX hk
      go_wp2_with fail
      refine HX2.out.mono ?_
      rintro r w3 ⟨x, rfl, hx, hxb, b3⟩
      have I3 := I.below b3
      obtain ⟨z0, z1, z2, z3, z4, z5, z6⟩ := box_zero I3.br
      have f0 := I3.br.fr 0
      have f1 := I3.br.fr 1
      have f2 := I3.br.fr 2
      have f3 := I3.br.fr 3
      have f4 := I3.br.fr 4
      have f5 := I3.br.fr 5
      have f6 := I3.br.fr 6
      have HO := Lib.hid (seven_out (w := w) (wr := wr) (b := w.heap.size + 1) (x := x) (by omega) I.br.lt I.bel.size I3.bel hx)
      have HP := Lib.hid (box_cells (e := x) (seven_put I3.br (.int .i64 x.kd) (.int .i64 x.lo) (.int .i64 x.hi) (.int .i64 x.sz) (.string x.nm) (.slice x.na x.ns.length x.nc) (.slice x.ad x.ks.length x.cap)))
      clear I HX2
      go_wp2_with fail
      obtain ⟨r0, r1, r2, r3, r4, r5, r6⟩ := HP.out
      refine bodyPost_ret (v := .tuple #[x.val, .int .i64 y.2]) (by simp [results, Tryz.results13, go_sem, r0, r1, r2, r3, r4, r5, r6]) rfl ⟨x, rfl, (HO.out).1, hxb, (HO.out).2⟩
end Go.Proofs.YtlifnabeilnblaaGreatDoor
