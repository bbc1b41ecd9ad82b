/- Walks: declarations in memory; declare of package types. -/
import Derived.Test.YtlifnabeilnblaaGreatDoorEx
namespace Go.Proofs.YtlifnabeilnblaaGreatDoor
open Go.RowKit Go.Sort Go.Maps
set_option linter.unusedVariables false

namespace Dc
abbrev cells (d : Dc) : List Value := [.int .i64 d.kd, .string d.nm, .int .i64 d.t.kd, .int .i64 d.t.lo, .int .i64 d.t.hi, .int .i64 d.t.sz, .string d.t.nm, .slice d.t.na d.t.ns.length d.t.nc, .slice d.t.ad d.t.ks.length d.t.cap, .int .i64 d.ini, .int .i64 d.vo, .int .i64 d.vn, .string d.vs, .slice d.a0 d.n0 d.p0, .slice d.a1 d.n1 d.p1, .slice d.a2 d.n2 d.p2, .slice d.a3 d.n3 d.p3]
abbrev box (d : Dc) : Array Value := #[.int .i64 d.kd, .string d.nm, .int .i64 d.t.kd, .int .i64 d.t.lo, .int .i64 d.t.hi, .int .i64 d.t.sz, .string d.t.nm, .slice d.t.na d.t.ns.length d.t.nc, .slice d.t.ad d.t.ks.length d.t.cap, .int .i64 d.ini, .int .i64 d.vo, .int .i64 d.vn, .string d.vs, .slice d.a0 d.n0 d.p0, .slice d.a1 d.n1 d.p1, .slice d.a2 d.n2 d.p2, .slice d.a3 d.n3 d.p3]
abbrev val (d : Dc) : Value := .agg #[.int .i64 d.kd, .string d.nm, .int .i64 d.t.kd, .int .i64 d.t.lo, .int .i64 d.t.hi, .int .i64 d.t.sz, .string d.t.nm, .slice d.t.na d.t.ns.length d.t.nc, .slice d.t.ad d.t.ks.length d.t.cap, .int .i64 d.ini, .int .i64 d.vo, .int .i64 d.vn, .string d.vs, .slice d.a0 d.n0 d.p0, .slice d.a1 d.n1 d.p1, .slice d.a2 d.n2 d.p2, .slice d.a3 d.n3 d.p3]
/-- a declaration lies below block B -/
structure In (w : World) (B : Nat) (d : Dc) : Prop where
  kd : inI d.kd
  nm : d.nm.size ≤ 9223372036854775807
  t : G.In w B d.t
theorem In.below {w w' : World} {B : Nat} {d : Dc} (h : In w B d) (hb : Below B w w') : In w' B d := ⟨h.kd, h.nm, h.t.below hb⟩
theorem In.more {w : World} {B B' : Nat} {d : Dc} (h : In w B d) (hB : B ≤ B') : In w B' d := ⟨h.kd, h.nm, h.t.more hB⟩
theorem In.at {w w' : World} {d : Dc} (h : In w w.heap.size d) (hb : Below w.heap.size w w') : In w' w'.heap.size d := (h.below hb).more hb.size
/-- a list of declarations -/
structure L (w : World) (B : Nat) (A : Option Addr) (l : List Dc) : Prop where
  len : l.length ≤ 9223372036854775807
  row : Row w B A (l.flatMap cells)
  all : ∀ d ∈ l, In w B d
theorem L.below {w w' : World} {B : Nat} {A : Option Addr} {l : List Dc} (h : L w B A l) (hb : Below B w w') : L w' B A l := ⟨h.len, h.row.below hb, fun e he => (h.all e he).below hb⟩
theorem L.more {w : World} {B B' : Nat} {A : Option Addr} {l : List Dc} (h : L w B A l) (hB : B ≤ B') : L w B' A l := ⟨h.len, h.row.more hB, fun e he => (h.all e he).more hB⟩
theorem L.at {w w' : World} {A : Option Addr} {l : List Dc} (h : L w w.heap.size A l) (hb : Below w.heap.size w w') : L w' w'.heap.size A l := (h.below hb).more hb.size
/-- the cells of a declaration -/
structure Elt (w : World) (b o : Nat) (d : Dc) : Prop where
  c0 : w.cell? ⟨b, o, none⟩ = some (.int .i64 d.kd)
  c1 : w.cell? ⟨b, o + 1, none⟩ = some (.string d.nm)
  c2 : w.cell? ⟨b, o + 2, none⟩ = some (.int .i64 d.t.kd)
  c3 : w.cell? ⟨b, o + 3, none⟩ = some (.int .i64 d.t.lo)
  c4 : w.cell? ⟨b, o + 4, none⟩ = some (.int .i64 d.t.hi)
  c5 : w.cell? ⟨b, o + 5, none⟩ = some (.int .i64 d.t.sz)
  c6 : w.cell? ⟨b, o + 6, none⟩ = some (.string d.t.nm)
  c7 : w.cell? ⟨b, o + 7, none⟩ = some (.slice d.t.na d.t.ns.length d.t.nc)
  c8 : w.cell? ⟨b, o + 8, none⟩ = some (.slice d.t.ad d.t.ks.length d.t.cap)
  c9 : w.cell? ⟨b, o + 9, none⟩ = some (.int .i64 d.ini)
  c10 : w.cell? ⟨b, o + 10, none⟩ = some (.int .i64 d.vo)
  c11 : w.cell? ⟨b, o + 11, none⟩ = some (.int .i64 d.vn)
  c12 : w.cell? ⟨b, o + 12, none⟩ = some (.string d.vs)
  c13 : w.cell? ⟨b, o + 13, none⟩ = some (.slice d.a0 d.n0 d.p0)
  c14 : w.cell? ⟨b, o + 14, none⟩ = some (.slice d.a1 d.n1 d.p1)
  c15 : w.cell? ⟨b, o + 15, none⟩ = some (.slice d.a2 d.n2 d.p2)
  c16 : w.cell? ⟨b, o + 16, none⟩ = some (.slice d.a3 d.n3 d.p3)
/-- the k-th declaration, as a letter -/
structure Is (l : List Dc) (k : Nat) (d : Dc) : Prop where
  eq : ∃ h : k < l.length, l[k] = d
theorem L.at_ {w : World} {B : Nat} {A : Option Addr} {l : List Dc} (h : L w B A l) {k : Nat} (hk : k < l.length) :
    ∃ (b off : Nat) (d : Dc), A = some ⟨b, off, none⟩ ∧ b < B ∧ Elt w b (off + k * 17) d ∧ Is l k d ∧ In w B d := by
  obtain ⟨b, off, e, hb, hc⟩ := h.row.cells (by rw [flatLen cells 17 (fun _ => rfl)]; omega)
  have hf : ∀ j, j < 17 → (l.flatMap cells)[k * 17 + j]? = (cells l[k])[j]? := fun j hj => flatAt cells 17 (fun _ => rfl) l hk hj
  exact ⟨b, off, l[k], e, hb, ⟨hc _ _ (hf 0 (by omega)), hc _ _ (hf 1 (by omega)), hc _ _ (hf 2 (by omega)), hc _ _ (hf 3 (by omega)), hc _ _ (hf 4 (by omega)), hc _ _ (hf 5 (by omega)), hc _ _ (hf 6 (by omega)), hc _ _ (hf 7 (by omega)), hc _ _ (hf 8 (by omega)), hc _ _ (hf 9 (by omega)), hc _ _ (hf 10 (by omega)), hc _ _ (hf 11 (by omega)), hc _ _ (hf 12 (by omega)), hc _ _ (hf 13 (by omega)), hc _ _ (hf 14 (by omega)), hc _ _ (hf 15 (by omega)), hc _ _ (hf 16 (by omega))⟩, ⟨hk, rfl⟩, h.all _ (List.getElem_mem hk)⟩
end Dc
namespace G
/-- a scope without addresses -/
def bareS (σ : Sco) : Sco := σ.map fun p => (p.1, p.2.bare)
theorem look_bareS (σ : Sco) (n : ByteArray) : look (bareS σ) n = (look σ n).map bare := by
  induction σ with
  | nil => rfl
  | cons p σ ih =>
    obtain ⟨m, x⟩ := p
    show look ((m, x.bare) :: bareS σ) n = _
    by_cases h : m = n
    · subst h; rw [look_same, look_same]; rfl
    · rw [look_other _ _ h, look_other _ _ h, ih]
theorem repl_bareS (σ : Sco) (t : G) : repl (bareS σ) t = repl σ t := by
  induction t using G.ind with
  | h t ih =>
    by_cases h4 : t.kd = 4
    · rw [repl_eq, repl_eq, if_pos h4, if_pos h4, look_bareS]
      cases look σ t.nm with
      | none => rfl
      | some x => exact bare_bare x
    · rw [← rb_repl h4, ← rb_repl h4]
      unfold rb
      rw [show t.ks.map (repl (bareS σ)) = t.ks.map (repl σ) from List.map_congr_left fun k hk => ih k hk]
theorem unk_bareS (σ : Sco) : unk (bareS σ) = unk σ := by
  funext e
  unfold unk
  rw [look_bareS]
  cases look σ e.nm <;> rfl
theorem expT_bareS {nmB : ByteArray → Bool} (σ : Sco) (t : G) : expT nmB (bareS σ) t = expT nmB σ t := by
  unfold expT
  rw [unk_bareS, repl_bareS]
/-- the code of a declaration -/
def dclC (nmB : ByteArray → Bool) (σ : Sco) (d : Dc) : Int := if !nmB d.nm then 7 else if (look σ d.nm).isSome then 8 else (expT nmB σ d.t).2
end G
/-- a map's block has no cells -/
theorem map_cell {w : World} {M : Nat} (h : ∃ es c, w.heap[M]? = some (.map es c)) (o : Nat) : w.cell? ⟨M, o, none⟩ = none := by
  obtain ⟨es, c, h⟩ := h
  simp [World.cell?, h]
theorem Row.gm {w w' : World} {B B' M : Nat} {A : Option Addr} {xs : List Value} (h : Row w B A xs) (hm : ∃ es c, w.heap[M]? = some (.map es c)) (hg : w.grownBy w' (some M)) (hB : B ≤ w.heap.size) (hB' : B ≤ B') : Row w' B' A xs :=
  ⟨fun hn => by
    obtain ⟨b, off, e, hb, hc⟩ := h.cells hn
    have hne : b ≠ M := by
      rintro rfl
      have := hc 0 xs[0] (List.getElem?_eq_getElem hn)
      rw [map_cell hm] at this; cases this
    exact ⟨b, off, e, Nat.lt_of_lt_of_le hb hB', fun k u hu => (World.cell?_of_block (w := w) (hg.block b (by omega) (by simpa using hne))).trans (hc k u hu)⟩⟩
theorem G.In.gm {w w' : World} {M : Nat} {e : G} (h : G.In w w.heap.size e) (hm : ∃ es c, w.heap[M]? = some (.map es c)) (hg : w.grownBy w' (some M)) : G.In w' w'.heap.size e :=
  G.In.map (fun _ h => ⟨h.kd, h.lo, h.hi, h.sz, h.nm, h.nlen, h.names, h.nrow.gm hm hg (Nat.le_refl _) hg.size, h.len, h.row.gm hm hg (Nat.le_refl _) hg.size⟩) e h
theorem Sc.isMap {w : World} {M : Nat} {σ : G.Sco} (h : Sc w M σ) : ∃ es c, w.heap[M]? = some (.map es c) := by
  obtain ⟨es, c, hb, _⟩ := h.map
  exact ⟨es, c, hb⟩
/-- what a declaration leaves -/
def DclP (M : Nat) (σ : G.Sco) (n : ByteArray) (c : Int) (y : G × Int) (w : World) (r : Ending) (w' : World) : Prop := ∃ σ' : G.Sco, r = .returned (.int .i64 c) ∧ w.grownBy w' (some M) ∧ Sc w' M σ' ∧ G.VS nmB σ' ∧
  G.bareS σ' = if c = 0 then (n, y.1) :: G.bareS σ else G.bareS σ
set_option maxRecDepth 100000 in
set_option maxHeartbeats 2000000 in
theorem declare_any (σ : G.Sco) (M : Nat) (d : Dc) (w : World) (hS : Sc w M σ) (hV : G.VS nmB σ) (hin : Dc.In w w.heap.size d) (hT : Tb w.heap.size w) (hsz : σ.length < 1000000) :
    Calls Tryz.prog 35 #[.map (some M), d.val] w (DclP M σ d.nm (G.dclC nmB σ d) (G.expT nmB σ d.t) w) := by
  have X : Blk (w.alloc (.cells d.box 50)) w.heap.size d.box := Blk.new_ _ _ _
  have bl : Below w.heap.size w (w.alloc (.cells d.box 50)) := al1 _ _
  have HC := Lib.hid (fun W (hb : Below w.heap.size w W) => sisname_any d.nm hin.nm W (hT.at hb).s)
  have hkey : keyOf Tryz.prog 9 (.string d.nm) = some (.string (slt d.nm)) := WideMaps.keyOf_string_mk Tryz.underlying9 hin.nm
  have HX := Lib.hid (fun W (hb : Below w.heap.size w W) => expand_any σ M d.t W (hS.below hb) hV ((hin.at hb).t) (hT.at hb))
  have HSc := Lib.hid (fun W (hb : Below w.heap.size w W) => hS.below hb)
  have HD : Hid (G.dclC nmB σ d = if !nmB d.nm then 7 else if (G.look σ d.nm).isSome then 8 else (G.expT nmB σ d.t).2) := Lib.hid rfl
  have HVd := Lib.hid (fun (h : (G.expT nmB σ d.t).2 = 0) => G.expT_vd hV h)
  have hV2 := Lib.hid hV
  obtain ⟨v, hat⟩ : ∃ v : G, (Dm σ).atKey (.string (slt d.nm)) (.held zval) = .held v.val := by
    rw [Dm_at]
    cases G.look σ d.nm with
    | none => exact ⟨G.zero, rfl⟩
    | some x => exact ⟨x, rfl⟩
  have hok := Dm_has σ d.nm
  obtain ⟨ok, hokv⟩ : ∃ ok, Hid ((G.look σ d.nm).isSome = ok) := ⟨_, Lib.hid rfl⟩
  rw [hokv.out] at hok HD
  obtain ⟨nb, hnb⟩ : ∃ nb, Hid (nmB d.nm = nb) := ⟨_, Lib.hid rfl⟩
  have HC2 := HC.out
  unfold nmB at hnb
  rw [hnb.out] at HC2
  rw [show nmB d.nm = nb from hnb.out] at HD
  obtain ⟨y, hy⟩ : ∃ y, Hid (G.expT nmB σ d.t = y) := ⟨_, Lib.hid rfl⟩
  rw [hy.out] at HX HD HVd
  rw [hy.out]
  obtain ⟨c, hc⟩ : ∃ c, Hid (G.dclC nmB σ d = c) := ⟨_, Lib.hid rfl⟩
  rw [hc.out] at HD ⊢
  have HC3 := Lib.hid HC2
  clear hokv hnb hy hc hT hS hV hin HC HC2
  go_enter Tryz.func35, Tryz.ntmps35
  go_upto_region 1 with (fail)
  revert X bl
  generalize w.alloc (.cells #[.int .i64 d.kd, .string d.nm, .int .i64 d.t.kd, .int .i64 d.t.lo, .int .i64 d.t.hi, .int .i64 d.t.sz, .string d.t.nm, .slice d.t.na d.t.ns.length d.t.nc, .slice d.t.ad d.t.ks.length d.t.cap, .int .i64 d.ini, .int .i64 d.vo, .int .i64 d.vn, .string d.vs, .slice d.a0 d.n0 d.p0, .slice d.a1 d.n1 d.p1, .slice d.a2 d.n2 d.p2, .slice d.a3 d.n3 d.p3] 50) = w1
  intro X bl
  have k1 : w1.cell? ⟨w.heap.size, 1, none⟩ = some (.string d.nm) := X.c 1 rfl
  go_wp2_with fail
  refine (HC3.out _ bl).mono ?_
  rintro r w2 ⟨rfl, b2⟩
  replace X := X.below b2 X.lt
  replace bl := bTrans bl b2
  clear k1 b2
  have k1 : w2.cell? ⟨w.heap.size, 1, none⟩ = some (.string d.nm) := X.c 1 rfl
  cases nb with
  | false =>
    have HR : Hid (c = 7) := Lib.hid (by rw [HD.out]; rfl)
    have hS2 := HSc.out _ bl
    clear HD
    go_wp2_with fail
    go_ret
    exact ⟨σ, ret_int HR.out.symm, grown_of_below bl _, hS2, hV2.out, by rw [HR.out, if_neg (by decide)]⟩
  | true =>
    have HD2 : Hid (c = if ok then 8 else y.2) := Lib.hid (by rw [HD.out]; rfl)
    have hmap := (HSc.out _ bl).map
    clear HD
    cases ok with
    | true =>
      have HR : Hid (c = 8) := Lib.hid (by rw [HD2.out]; rfl)
      have b3 := bl.alloc bl.size (.cells v.box 26)
      have hS2 := HSc.out _ b3
      clear HD2
      go_wp2_with (at_lookup; refine wpList_lookup_held_ok _ rfl _ _ 78 rfl 9 26 lawStr Tryz.underlying78 zval (zeroType _) M σ.length _ rfl hmap _ _ rfl hkey v.val hat true hok ?_)
      go_ret
      exact ⟨σ, ret_int HR.out.symm, grown_of_below b3 _, hS2, hV2.out, by rw [HR.out, if_neg (by decide)]⟩
    | false =>
      have HD3 : Hid (c = y.2) := Lib.hid (by rw [HD2.out]; rfl)
      have b3 := bl.alloc bl.size (.cells v.box 26)
      have X3 := X.alloc (.cells v.box 26)
      clear HD2
      have j2 : (w2.alloc (.cells v.box 26)).cell? ⟨w.heap.size, 2, none⟩ = some (.int .i64 d.t.kd) := X3.c 2 rfl
      have j3 : (w2.alloc (.cells v.box 26)).cell? ⟨w.heap.size, 3, none⟩ = some (.int .i64 d.t.lo) := X3.c 3 rfl
      have j4 : (w2.alloc (.cells v.box 26)).cell? ⟨w.heap.size, 4, none⟩ = some (.int .i64 d.t.hi) := X3.c 4 rfl
      have j5 : (w2.alloc (.cells v.box 26)).cell? ⟨w.heap.size, 5, none⟩ = some (.int .i64 d.t.sz) := X3.c 5 rfl
      have j6 : (w2.alloc (.cells v.box 26)).cell? ⟨w.heap.size, 6, none⟩ = some (.string d.t.nm) := X3.c 6 rfl
      have j7 : (w2.alloc (.cells v.box 26)).cell? ⟨w.heap.size, 7, none⟩ = some (.slice d.t.na d.t.ns.length d.t.nc) := X3.c 7 rfl
      have j8 : (w2.alloc (.cells v.box 26)).cell? ⟨w.heap.size, 8, none⟩ = some (.slice d.t.ad d.t.ks.length d.t.cap) := X3.c 8 rfl
      go_wp2_with (at_lookup; refine wpList_lookup_held_ok _ rfl _ _ 78 rfl 9 26 lawStr Tryz.underlying78 zval (zeroType _) M σ.length _ rfl hmap _ _ rfl hkey v.val hat false hok ?_)
      refine (HX.out _ b3).mono ?_
      rintro r w4 ⟨x, rfl, hx, hxb, b4⟩
      clear j2 j3 j4 j5 j6 j7 j8 hmap
      have b5 := (bTrans b3 b4).alloc (bTrans b3 b4).size (.cells x.box 26)
      have X5 := (X3.below b4 X3.lt).alloc (.cells x.box 26)
      have hx5 := hx.below (al1 w4 (.cells x.box 26))
      have hS5 := HSc.out _ b5
      have hmap5 := hS5.map
      have m1 : (w4.alloc (.cells x.box 26)).cell? ⟨w.heap.size, 1, none⟩ = some (.string d.nm) := X5.c 1 rfl
      obtain ⟨n0, n1, n2, n3, n4, n5, n6⟩ := box_cells (Blk.new_ w4 x.box 26)
      have hil : σ.length < maxLen := by unfold maxLen; omega
      by_cases h0 : y.2 = 0
      · have q0 : (y.2 == 0) = true := by rw [h0]; rfl
        have HR : Hid (c = 0) := Lib.hid (HD3.out.trans h0)
        have HVx := Lib.hid (HVd.out h0)
        clear HD3 HVd
        go_wp2_with (at_mapUpdate; refine wpList_mapUpdate_own _ rfl _ _ _ 78 rfl 9 26 lawStr Tryz.underlying78 rh M σ.length _ rfl hmap5 hil _ _ _ rfl rfl hkey (.held x.val) [] rfl ?_; intro w6 hown6 hgrow6)
        go_ret
        refine ⟨(d.nm, x) :: σ, ret_int (by rw [HR.out]), grown_trans (grown_of_below b5 _) hgrow6, ⟨hown6, ?_⟩, ?_, ?_⟩
        · intro p hp
          rcases List.mem_cons.1 hp with rfl | hp
          · exact ⟨(G.InS.in_ _ hx5).gm hS5.isMap hgrow6, (G.Vd.of_bare (by rw [hxb]; exact HVx.out)).sm⟩
          · exact ⟨(hS5.all p hp).1.gm hS5.isMap hgrow6, (hS5.all p hp).2⟩
        · intro p hp
          rcases List.mem_cons.1 hp with rfl | hp
          · exact G.Vd.of_bare (by rw [hxb]; exact HVx.out)
          · exact hV2.out p hp
        · rw [HR.out, if_pos rfl]
          show (d.nm, x.bare) :: G.bareS σ = _
          rw [hxb]
      · have q0 : (y.2 == 0) = false := by simpa using h0
        have HR : Hid (c ≠ 0) := Lib.hid (by rw [HD3.out]; exact h0)
        go_wp2_with fail
        go_ret
        exact ⟨σ, ret_int HD3.out.symm, grown_of_below b5 _, hS5, hV2.out, by rw [if_neg HR.out]⟩
end Go.Proofs.YtlifnabeilnblaaGreatDoor
