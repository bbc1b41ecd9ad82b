/- My texts, packed: Q1, Q2, Q4, Row4, Q3, N3b. -/
import Derived.Test.YtpfaddgcfacgdaaGreatDoorPl1
import Derived.Test.YtpfaddgcfacgdaaGreatDoorPm1
import Derived.StillTailTactics
import Derived.IntWalk
import Derived.Deep.Slices
import Derived.Test.YtpfaddgcfacgdaaGreatDoorPk12
import Derived.Test.YtpfaddgcfacgdaaGreatDoorPk11
import Derived.Deep.AppendLies
import Derived.Deep.RegionLawGrows
/- Walks of package rational: lists of fractions in memory. -/
namespace Go.Proofs.YtpfaddgcfacgdaaGreatDoor
open Go.RowKit
set_option linter.unusedVariables false

/-- a fraction as it lies in memory -/
structure Fr where
  p : Bool
  A : Option Addr
  c : Nat
  l : List Nat
  q : Bool
  B : Option Addr
  d : Nat
  m : List Nat
namespace Fr
def cells (f : Fr) : List Value := [.bool f.p, .slice f.A f.l.length f.c, .bool f.q, .slice f.B f.m.length f.d]
def flat (l : List Fr) : List Value := l.flatMap cells
theorem flat_len (l : List Fr) : (flat l).length = l.length * 4 := by
  induction l with
  | nil => rfl
  | cons a l ih => show (a.cells ++ flat l).length = _; rw [List.length_append, ih, List.length_cons]; simp [cells]; omega
theorem flat_at (l : List Fr) {k j : Nat} (hk : k < l.length) (hj : j < 4) : (flat l)[k * 4 + j]? = (cells l[k])[j]? := by
  induction l generalizing k with
  | nil => exact absurd hk (Nat.not_lt_zero _)
  | cons a l ih =>
    show (a.cells ++ flat l)[k * 4 + j]? = _
    have ha : a.cells.length = 4 := rfl
    cases k with
    | zero => rw [Nat.zero_mul, Nat.zero_add, List.getElem?_append_left (by rw [ha]; exact hj)]; rfl
    | succ k =>
      rw [List.getElem?_append_right (by rw [ha]; omega), ha, show (k + 1) * 4 + j - 4 = k * 4 + j by omega]
      exact ih (k := k) (by simpa using hk)
/-- what it reads as -/
def rd (f : Fr) : Rat := Rat.divInt (Kn.iv f.p f.l) (Kn.iv f.q f.m)
/-- the sum of a list -/
def sumQ (l : List Fr) : Rat := l.foldl (fun z f => z + f.rd) 0
theorem sumQ_snoc (l : List Fr) (f : Fr) : sumQ (l ++ [f]) = sumQ l + f.rd := by unfold sumQ; rw [List.foldl_append]; rfl
/-- both lists of words are there -/
structure Ok (w : World) (f : Fr) : Prop where
  a : Sl w w.heap.size f.A f.c f.l
  b : Sl w w.heap.size f.B f.d f.m
/-- short enough for the laws -/
def few (f : Fr) : Prop := f.l.length ≤ 4 ∧ f.m.length ≤ 4
theorem Ok.rv {w : World} {f : Fr} (h : Ok w f) (hf : f.few) : Rv w f.p f.A f.c f.l f.q f.B f.d f.m f.rd 4 := ⟨_, _, ⟨h.a, rfl, hf.1⟩, ⟨h.b, rfl, hf.2⟩, rfl⟩
/-- a list of fractions in memory -/
structure L (w : World) (A : Option Addr) (l : List Fr) : Prop where
  len : l.length ≤ 9223372036854775807
  row : 0 < l.length → ∃ b off, A = some ⟨b, off, none⟩ ∧ b < w.heap.size ∧ ∀ k u, (flat l)[k]? = some u → w.cell? ⟨b, off + k, none⟩ = some u
  all : ∀ f ∈ l, Ok w f
/-- the k-th one -/
structure Is (l : List Fr) (k : Nat) (f : Fr) : Prop where
  eq : ∃ h : k < l.length, l[k] = f
theorem Is.mem {l : List Fr} {k : Nat} {f : Fr} (h : Is l k f) : f ∈ l := by obtain ⟨hk, rfl⟩ := h.eq; exact List.getElem_mem hk
theorem Is.take {l : List Fr} {k : Nat} {f : Fr} (h : Is l k f) : sumQ (l.take (k + 1)) = sumQ (l.take k) + f.rd := by
  obtain ⟨hk, rfl⟩ := h.eq
  rw [List.take_succ_eq_append_getElem hk, sumQ_snoc]
theorem L.at_ {w wr : World} {A : Option Addr} {l : List Fr} (h : L w A l) (hb : Below w.heap.size w wr) {k : Nat} (hk : k < l.length) :
    ∃ (b off : Nat) (p : Bool) (A1 : Option Addr) (c : Nat) (l1 : List Nat) (q : Bool) (B : Option Addr) (d : Nat) (m : List Nat), A = some ⟨b, off, none⟩ ∧ b < w.heap.size ∧ wr.cell? ⟨b, off + k * 4, none⟩ = some (.bool p) ∧ wr.cell? ⟨b, off + k * 4 + 1, none⟩ = some (.slice A1 l1.length c)
      ∧ wr.cell? ⟨b, off + k * 4 + 2, none⟩ = some (.bool q) ∧ wr.cell? ⟨b, off + k * 4 + 3, none⟩ = some (.slice B m.length d) ∧ Is l k ⟨p, A1, c, l1, q, B, d, m⟩ := by
  obtain ⟨b, off, e, hlt, hc⟩ := h.row (by omega)
  have hf : ∀ j, j < 4 → (flat l)[k * 4 + j]? = (cells l[k])[j]? := fun j hj => flat_at l hk hj
  have g : ∀ j u, j < 4 → (cells l[k])[j]? = some u → wr.cell? ⟨b, off + (k * 4 + j), none⟩ = some u := fun j u hj hu => (hb.cell (p := ⟨b, off + (k * 4 + j), none⟩) hlt).trans (hc _ _ ((hf j hj).trans hu))
  exact ⟨b, off, _, _, _, _, _, _, _, _, e, hlt, g 0 _ (by omega) rfl, g 1 _ (by omega) rfl, g 2 _ (by omega) rfl, g 3 _ (by omega) rfl, ⟨hk, rfl⟩⟩
end Fr
end Go.Proofs.YtpfaddgcfacgdaaGreatDoor
/- Walks of package rational: Sum of the reference. -/
namespace Go.Proofs.YtpfaddgcfacgdaaGreatDoor
open Go.RowKit
set_option linter.unusedVariables false

set_option maxRecDepth 100000 in
set_option maxHeartbeats 2000000 in
theorem rrsum (A : Option Addr) (c : Nat) (l : List Fr) (w : World) (hL : Fr.L w A l) (hn : l.length ≤ 8) (hf : ∀ f ∈ l, f.few) :
    Calls Tryz.prog 36 #[.slice A l.length c] w (GR (Fr.sumQ l) 41 w) := by
  obtain ⟨s, hs⟩ : ∃ s, Hid (Fr.sumQ l = s) := ⟨_, Lib.hid rfl⟩
  rw [hs.out]
  obtain ⟨z0, hz0⟩ : ∃ z : Rat, Hid (z = 0) := ⟨_, Lib.hid rfl⟩
  have HZ : Hid (∀ W, Calls Tryz.prog 50 #[] W (GR z0 1 W)) := Lib.hid (fun W => by rw [hz0.out]; exact grzero W)
  have HL := Lib.hid hL
  have HF := Lib.hid hf
  have HN := Lib.hid hn
  clear hL hf hn
  go_enter Tryz.func36, Tryz.ntmps36
  go_wp2_with fail
  have t1 : Four (w.alloc (.cells #[.bool false, .slice none 0 0, .bool false, .slice none 0 0] 26)) w.heap.size (.bool false) (.slice none 0 0) (.bool false) (.slice none 0 0) := Four.new_ w (.bool false) (.slice none 0 0) (.bool false) (.slice none 0 0) 26
  have bel : Below w.heap.size w (w.alloc (.cells #[.bool false, .slice none 0 0, .bool false, .slice none 0 0] 26)) := (Below.refl _ _).alloc (Nat.le_refl _) _
  generalize (w.alloc (.cells #[.bool false, .slice none 0 0, .bool false, .slice none 0 0] 26)) = wx at t1 bel ⊢
  refine (HZ.out _).mono ?_
  rintro e w2 ⟨A3, c3, l3, B3, d3, m3, rfl, E3, hb⟩
  replace t1 := t1.below hb t1.lt
  replace bel := bel.trans (hb.mono bel.size)
  clear hb
  go_upto_region 1 with (fail)
  have hg2 : w.heap.size < w2.heap.size := t1.lt
  have t2 : Four (w2.alloc (.cells #[.bool (decide (z0.num < 0)), .slice A3 l3.length c3, .bool false, .slice B3 m3.length d3] 26)) w2.heap.size (.bool (decide (z0.num < 0))) (.slice A3 l3.length c3) (.bool false) (.slice B3 m3.length d3) := Four.new_ w2 (.bool (decide (z0.num < 0))) (.slice A3 l3.length c3) (.bool false) (.slice B3 m3.length d3) 26
  have bn : Below w2.heap.size w2 (w2.alloc (.cells #[.bool (decide (z0.num < 0)), .slice A3 l3.length c3, .bool false, .slice B3 m3.length d3] 26)) := (Below.refl _ _).alloc (Nat.le_refl _) _
  replace t1 := t1.below bn t1.lt
  replace bel := bel.trans (bn.mono bel.size)
  replace E3 := E3.below bn
  clear bn
  generalize (w2.alloc (.cells #[.bool (decide (z0.num < 0)), .slice A3 l3.length c3, .bool false, .slice B3 m3.length d3] 26)) = v1 at t1 bel E3 t2 ⊢
  generalize w2.heap.size = g2 at t1 bel E3 t2 hg2 ⊢
  go_wp2_with fail
  go_loopw [4] (fun iv wr => ∃ (k : Nat) (z : Rat) (A4 : Option Addr) (c4 : Nat) (l4 : List Nat) (B4 : Option Addr) (d4 : Nat) (m4 : List Nat), k ≤ l.length ∧ iv = .int .i64 (k : Int) ∧ Hid (z = Fr.sumQ (l.take k)) ∧ Four wr w.heap.size (.bool false) (.slice none 0 0) (.bool false) (.slice none 0 0) ∧ Four wr g2 (.bool (decide (z.num < 0))) (.slice A4 l4.length c4) (.bool false) (.slice B4 m4.length d4) ∧ Cr wr A4 c4 l4 B4 d4 m4 z (5 * k + 1) ∧ Below w.heap.size w wr) (fun iv _ => l.length - (intOf iv).toNat)
  case atStart => exact ⟨0, z0, _, _, _, _, _, _, Nat.zero_le _, rfl, Lib.hid (by rw [hz0.out]; rfl), t1, t2, E3, bel⟩
  case round =>
    clear t1 t2 E3 bel
    obtain ⟨k, z, A4, c4, l4, B4, d4, m4, hk, rfl, hz, t1, t2, E4, bel⟩ := hrel
    by_cases hlt : k < l.length
    · obtain ⟨b, off, p5, A5, c5, l5, q5, B5, d5, m5, rfl, hbl, e0, e1, e2, e3, his⟩ := HL.out.at_ bel hlt
      obtain ⟨z2, hz2⟩ : ∃ z2, Hid (z + Fr.rd ⟨p5, A5, c5, l5, q5, B5, d5, m5⟩ = z2) := ⟨_, Lib.hid rfl⟩
      have HS2 : Hid (z2 = Fr.sumQ (l.take (k + 1))) := Lib.hid (by rw [his.take, ← hz.out, hz2.out])
      have X : Rv wr p5 A5 c5 l5 q5 B5 d5 m5 (Fr.rd ⟨p5, A5, c5, l5, q5, B5, d5, m5⟩) 4 := ((HL.out.all _ his.mem).rv (HF.out _ his.mem)).below bel
      have HAD := Lib.hid (fun (h : Cr wr.drew A4 c4 l4 B4 d4 m4 z (5 * k + 1)) (h' : Rv wr.drew p5 A5 c5 l5 q5 B5 d5 m5 (Fr.rd ⟨p5, A5, c5, l5, q5, B5, d5, m5⟩) 4) => (by have h := rradd h.rv h' (by have := HN.out; omega) (by omega) (by decide) (by decide); rw [hz2.out] at h; exact h : Calls Tryz.prog 24 #[.agg #[.bool (decide (z.num < 0)), .slice A4 l4.length c4, .bool false, .slice B4 m4.length d4], .agg #[.bool p5, .slice A5 l5.length c5, .bool q5, .slice B5 m5.length d5]] wr.drew (GR z2 (5 * k + 1 + 4 + 1) wr.drew)))
      have HK := Lib.hid (show k + 1 ≤ l.length from hlt)
      have hwk : IntKind.i64.wrap ((k : Int) + 1) = ((k + 1 : Nat) : Int) := (IntWalk.i64_in _ (by have := HN.out; omega)).trans (by omega)
      have hkl : (k : Int) < (l.length : Int) := by omega
      clear his hz2
      have t2_0 := t2.c0
      have t2_1 := t2.c1
      have t2_2 := t2.c2
      have t2_3 := t2.c3
      go_wp2_with fail
      go_still_tail 5, (by kernel_rfl)
      repeat still_step
      change wpList _ _ _ _ _ wr.drew
      replace E4 := E4.drew
      replace X := X.drew
      replace t1 := t1.drew
      replace t2 := t2.drew
      replace bel := bDrew1 bel
      clear e0 e1 e2 e3
      clear t2_0 t2_1 t2_2 t2_3
      go_wp2_with fail
      refine (HAD.out E4 X).mono ?_
      rintro e w9 ⟨A6, c6, l6, B6, d6, m6, rfl, E6, hb⟩
      clear E4 X HAD
      replace t1 := t1.below hb t1.lt
      replace t2 := t2.below hb t2.lt
      replace bel := bel.trans (hb.mono bel.size)
      have d0 := t2.c0
      have d1 := t2.c1
      have d2 := t2.c2
      have d3 := t2.c3
      have f0 := t2.fr 0
      have f1 := t2.fr 1
      have f2 := t2.fr 2
      have f3 := t2.fr 3
      have R1 := Lib.hid (t1.far4 (g := g2) (by omega) (.bool (decide (z2.num < 0))) (.slice A6 l6.length c6) (.bool false) (.slice B6 m6.length d6))
      have R2 := Lib.hid (t2.put (.bool (decide (z2.num < 0))) (.slice A6 l6.length c6) (.bool false) (.slice B6 m6.length d6))
      have R3 := Lib.hid (E6.put4 t2 (.bool (decide (z2.num < 0))) (.slice A6 l6.length c6) (.bool false) (.slice B6 m6.length d6))
      have R4 := Lib.hid (below_set4 bel (b := g2) (by omega) (.bool (decide (z2.num < 0))) (.slice A6 l6.length c6) (.bool false) (.slice B6 m6.length d6))
      clear t1 t2 E6 bel hb
      go_wp2_with fail
      go_roundw
      case rel => exact ⟨k + 1, z2, _, _, _, _, _, _, HK.out, by first | go_num | rfl, HS2, R1.out, R2.out, R3.out, R4.out⟩
      case measure => (have := HK.out; first | (simp [intOf]; omega) | (simp [intOf, hwk]; omega))
    · obtain rfl : k = l.length := by omega
      obtain rfl : z = s := by rw [hz.out, List.take_length, hs.out]
      replace E4 := E4.more_ (show 5 * l.length + 1 ≤ 41 by have := HN.out; omega)
      have t2_0 := t2.c0
      have t2_1 := t2.c1
      have t2_2 := t2.c2
      have t2_3 := t2.c3
      have d0 := t1.c0
      have d1 := t1.c1
      have d2 := t1.c2
      have d3 := t1.c3
      have f0 := t1.fr 0
      have f1 := t1.fr 1
      have f2 := t1.fr 2
      have f3 := t1.fr 3
      have R := Lib.hid (t1.put (.bool (decide (z.num < 0))) (.slice A4 l4.length c4) (.bool false) (.slice B4 m4.length d4))
      have CR := Lib.hid (E4.put4 t1 (.bool (decide (z.num < 0))) (.slice A4 l4.length c4) (.bool false) (.slice B4 m4.length d4))
      have BL := Lib.hid (below_set4 bel (b := w.heap.size) (by omega) (.bool (decide (z.num < 0))) (.slice A4 l4.length c4) (.bool false) (.slice B4 m4.length d4))
      clear t1 t2 bel E4
      go_wp2_with fail
      have r0 := R.out.c0
      have r1 := R.out.c1
      have r2 := R.out.c2
      have r3 := R.out.c3
      unfold set4 at r0 r1 r2 r3
      refine bodyPost_ret (v := .agg #[.bool (decide (z.num < 0)), .slice A4 l4.length c4, .bool false, .slice B4 m4.length d4]) (by simp [results, Tryz.results36, go_sem, r0, r1, r2, r3]) rfl ?_
      exact ⟨_, _, _, _, _, _, rfl, CR.out, BL.out⟩
end Go.Proofs.YtpfaddgcfacgdaaGreatDoor
/- Walks of package rational: RationalFloor, plain. -/
namespace Go.Proofs.YtpfaddgcfacgdaaGreatDoor
open Go.RowKit
set_option linter.unusedVariables false

theorem Fr.L.below {w wr : World} {A : Option Addr} {l : List Fr} (h : Fr.L w A l) (hb : Below w.heap.size w wr) : Fr.L wr A l :=
  ⟨h.len, fun hl => by
    obtain ⟨b, off, e, hlt, hc⟩ := h.row hl
    exact ⟨b, off, e, Nat.lt_of_lt_of_le hlt hb.size, fun k u hu => (hb.cell (p := ⟨b, off + k, none⟩) hlt).trans (hc k u hu)⟩, fun f hf => ⟨(h.all f hf).a.at_ hb (Nat.le_refl _), (h.all f hf).b.at_ hb (Nat.le_refl _)⟩⟩
theorem Fr.Is.take_ {l : List Fr} {k : Nat} {f : Fr} (h : Fr.Is l k f) : l.take (k + 1) = l.take k ++ [f] := by
  obtain ⟨hk, rfl⟩ := h.eq
  rw [List.take_succ_eq_append_getElem hk]
theorem floor_facts {q s o zn z9 : Rat} {N : Int} (_ : q = s) (ho : Rat.divInt 1 1 = o) (hN : rqfl s = N) (hzn : Rat.divInt N o.num = zn) (hz9 : zn + o = z9) : (zn - s).num.sign ≤ 0 ∧ (s - z9).num.sign < 0 ∧ (zn.num = N ∧ (zn.den : Int) = o.num) := by
  have o1 : o = 1 := by rw [← ho]; decide
  subst o1
  have e : zn = (N : Rat) := by
    rw [← hzn]
    have h := rq_self (N : Rat)
    rw [Rat.num_intCast, Rat.den_intCast] at h
    exact h
  have f1 : s.floor = N := by rw [← rq_fl_floor, hN]
  have h1 : (N : Rat) ≤ s := by rw [← f1]; exact Rat.floor_le s
  have h2 : s < (N : Rat) + 1 := by
    have h := Rat.lt_floor_add_one s
    rw [f1] at h
    first | exact h | (rw [Rat.intCast_add] at h; exact h) | (simp at h; exact h) | (push_cast at h; exact h)
  refine ⟨rq_sub_nonpos.2 (e ▸ h1), ?_, ?_⟩
  · have h3 : (z9 - s).num.sign > 0 := rq_sub_pos.2 (by rw [← hz9, e]; exact h2)
    rw [rq_sub_neg]; omega
  · rw [e]; exact ⟨Rat.num_intCast N, by rw [Rat.den_intCast]; rfl⟩
theorem same_floor {W : World} {p q : Bool} {A B A' B' : Option Addr} {c d c' d' : Nat} {l m l' m' : List Nat} {N y : Int} {z : Rat} (h : Cn W p A c l N 42) (h' : Cn W q B d m y 2) (hz : Cr W A' c' l' B' d' m' z 42) (e : z.num = N ∧ (z.den : Int) = y) :
    Calls Tryz.prog 14 #[ratV p A l.length c q B m.length d, ratV (decide (z.num < 0)) A' l'.length c' false B' m'.length d'] W fun e w' => e = .returned (.bool true) ∧ Below W.heap.size W w' := by
  obtain ⟨rfl, rfl⟩ := e
  have g := same_raw (p := p) (q := q) (p' := decide (z.num < 0)) (q' := false) h.iv.sl h'.iv.sl hz.a.iv.sl hz.b.iv.sl (by have := h.iv.len; omega) (by have := h'.iv.len; omega) (by have := hz.a.iv.len; omega) (by have := hz.b.iv.len; omega)
  rwa [decide_eq_true (show (p = decide (z.num < 0) ∧ l = l') ∧ (q = false ∧ m = m') from ⟨⟨h.can.1, h.can.2.trans hz.a.can.2.symm⟩, h'.can.1.trans (decide_eq_false (by have := rq_den_pos z; omega)), h'.can.2.trans hz.b.can.2.symm⟩)] at g
end Go.Proofs.YtpfaddgcfacgdaaGreatDoor
/- From a walk to a row: an argument that is a list of fractions. -/
namespace Go.Proofs.YtpfaddgcfacgdaaGreatDoor
open Go.ChangeShapes Go.WideShapes Go.ChangeAt Go.RowKit
set_option linter.unusedVariables false

instance : Inhabited Fr := ⟨⟨false, none, 0, [], false, none, 0, []⟩⟩
section
variable {H : Type} {enc : TypeId × Value → H} {W : World}
set_option maxRecDepth 100000 in
/-- four cells that are a fraction -/
theorem fr_of_cells {n : Nat} {cs : List Value} {x : DataW H × List MemPlace} (h : DataW.trod enc Tryz.prog W 0 (fun _ => true) true n 26 cs = some x) : ∃ f : Fr, cs = f.cells ∧ Fr.Ok W f := by
  obtain ⟨xs, m, rfl, -, hl, hxl, hf⟩ := DataW.trod_struct Tryz.underlying26 h
  rw [cellsRat] at hl
  obtain ⟨c0, c1, c2, c3, rfl⟩ : ∃ a b c d, cs = [a, b, c, d] := by
    match cs, hl with
    | [a, b, c, d], _ => exact ⟨a, b, c, d, rfl⟩
  obtain ⟨y0, y1, rfl⟩ : ∃ a b, xs = [a, b] := by
    match xs, (show xs.length = 2 from hxl) with
    | [a, b], _ => exact ⟨a, b, rfl⟩
  have g0 : DataW.trod enc Tryz.prog W 0 (fun _ => true) true m 24 [c0, c1] = some y0 := hf 0 _ rfl
  have g1 : DataW.trod enc Tryz.prog W 0 (fun _ => true) true m 24 [c2, c3] = some y1 := hf 1 _ rfl
  obtain ⟨s, A, w, c, rfl, rfl, ha⟩ := int_of_cells g0
  obtain ⟨t, B, u, e, rfl, rfl, hb⟩ := int_of_cells g1
  exact ⟨⟨s, A, c, w, t, B, e, u⟩, rfl, ⟨ha, hb⟩⟩
set_option maxRecDepth 100000 in
theorem rats_of (fuel : Nat) {cs : List Value} {x : DataW H × List MemPlace} (h : DataW.trod enc Tryz.prog W 0 (fun _ => true) true fuel 42 cs = some x) : ∃ (A : Option Addr) (l : List Fr) (c : Nat), cs = [.slice A l.length c] ∧ Fr.L W A l := by
  rcases DataW.trod_slice Tryz.underlying42 h with ⟨rfl, -⟩ | ⟨a, len, cap, elems, rest, m, rfl, rfl, -, -, hlc, hcm, hel, hi, -, -⟩
  · exact ⟨none, [], 0, rfl, by simp, fun h => absurd h (by simp), fun e he => by cases he⟩
  rw [cellsRat] at hi
  have each : ∀ i, i < len → ∃ e : Fr, (∀ j, j < 4 → W.cell? ((a.add (i * 4)).add j) = e.cells[j]?) ∧ Fr.Ok W e := by
    intro i hlt
    have h1 := hi i hlt
    rw [List.getElem?_eq_getElem (by omega)] at h1
    obtain ⟨ci, h2, h3⟩ := Option.bind_eq_some_iff.1 h1
    obtain ⟨e, rfl, hin⟩ := fr_of_cells h3
    exact ⟨e, (World.cells?_some h2).2.2, hin⟩
  obtain ⟨q, hq⟩ := Go.Deep.choose_lt each
  have hll : ((List.range len).map q).length = len := by simp
  have hget : ∀ i, (hi : i < ((List.range len).map q).length) → ((List.range len).map q)[i] = q i := fun i hi => by simp
  have hmx : maxLen = 9223372036854775807 := by decide
  rw [hmx] at hcm
  refine ⟨some a, (List.range len).map q, cap, by rw [hll], ?_⟩
  refine ⟨by rw [hll]; omega, fun hp => ?_, fun e he => ?_⟩
  · have hp' : 0 < len := by rw [hll] at hp; omega
    obtain ⟨b, off, spot⟩ := a
    have h0 := (hq 0 hp').1 0 (by omega)
    have hs : spot = none := by
      have := World.cell?_spot (h0.trans (show (Fr.cells (q 0))[0]? = some (.bool (q 0).p) from rfl))
      simpa [Addr.add] using this
    subst hs
    refine ⟨b, off, rfl, ?_, fun k u hu => ?_⟩
    · have := World.block_lt_of_cell? W _ (h0.trans (show (Fr.cells (q 0))[0]? = some (.bool (q 0).p) from rfl))
      simpa [Addr.add] using this
    · have hk : k < len * 4 := by
        have := (List.getElem?_eq_some_iff.1 hu).1
        rw [Fr.flat_len, hll] at this; exact this
      obtain ⟨i, j, hij, hi, hj⟩ : ∃ i j, k = i * 4 + j ∧ i < len ∧ j < 4 := ⟨k / 4, k % 4, by omega, by omega, by omega⟩
      subst hij
      have h1 := Fr.flat_at ((List.range len).map q) (k := i) (j := j) (by rw [hll]; exact hi) hj
      rw [hget] at h1
      have h2 := (hq i hi).1 j hj
      have h3 : (Fr.flat ((List.range len).map q))[i * 4 + j]? = some u := hu
      rw [h1] at h3
      have ea : ∀ (b o n : Nat), (⟨b, o, none⟩ : Addr).add n = ⟨b, o + n, none⟩ := fun b o n => by unfold Addr.add; split <;> simp_all
      rw [h3, ea, ea] at h2
      rw [← Nat.add_assoc]
      exact h2
  · obtain ⟨i, hi, rfl⟩ := List.mem_map.1 he
    exact (hq i (by have := List.mem_range.1 hi; omega)).2
set_option maxRecDepth 100000 in
/-- an argument that is a list of fractions -/
theorem open_rats {base : Nat} {v : Value} {d : DataW H} {p : List MemPlace} (hv : Value.okWide Tryz.prog W .any base 42 v) (h : DataW.Trod enc Tryz.prog W 0 (fun _ => true) true 42 v d p) :
    ∃ (A : Option Addr) (l : List Fr) (c : Nat), v = .slice A l.length c ∧ Fr.L W A l := by
  obtain ⟨A0, l0, c0, rfl⟩ := okWide_slice Tryz.underlying42 hv
  obtain ⟨fuel, hf⟩ := h
  obtain ⟨A, l, c, he, hL⟩ := rats_of fuel hf
  have he' : [Value.slice A0 l0 c0] = [.slice A l.length c] := he
  simp only [List.cons.injEq, and_true] at he'
  exact ⟨A, l, c, he', hL⟩
end
end Go.Proofs.YtpfaddgcfacgdaaGreatDoor
/- Walks of package rational: Sum of the package. -/
namespace Go.Proofs.YtpfaddgcfacgdaaGreatDoor
open Go.RowKit
set_option linter.unusedVariables false

theorem lcm_parts {L y G : Int} (hL : 0 < L) (hy : 0 < y) (hG : ((Nat.gcd L.natAbs y.natAbs : Nat) : Int) = G) : y = G * y.fdiv G ∧ L = G * L.fdiv G ∧ 0 < y.fdiv G ∧ 0 < L.fdiv G := by
  have g0 : 0 < G := by have h9 : 0 < Nat.gcd L.natAbs y.natAbs := Nat.gcd_pos_of_pos_left _ (by omega); omega
  have d1 : G ∣ y := by rw [← hG]; exact Int.ofNat_dvd_left.2 (Nat.gcd_dvd_right _ _)
  have d2 : G ∣ L := by rw [← hG]; exact Int.ofNat_dvd_left.2 (Nat.gcd_dvd_left _ _)
  rw [Int.fdiv_eq_ediv_of_nonneg _ (by omega), Int.fdiv_eq_ediv_of_nonneg _ (by omega)]
  have e1 := Int.mul_ediv_cancel' d1
  have e2 := Int.mul_ediv_cancel' d2
  refine ⟨e1.symm, e2.symm, ?_, ?_⟩
  · rcases Int.lt_or_le 0 (y / G) with h | h
    · exact h
    · have := Int.mul_le_mul_of_nonneg_left h (show 0 ≤ G by omega); omega
  · rcases Int.lt_or_le 0 (L / G) with h | h
    · exact h
    · have := Int.mul_le_mul_of_nonneg_left h (show 0 ≤ G by omega); omega
theorem sum_step {S L x y G u v : Int} (hL : L = G * v) (hy : y = G * u) (hG : 0 < G) (hu : 0 < u) (hv : 0 < v) : Rat.divInt (S * u + x * v) (L * u) = Rat.divInt S L + Rat.divInt x y := by
  have hL0 : 0 < L := by rw [hL]; exact Int.mul_pos hG hv
  rw [rq_addS (Int.mul_pos hL0 hu), rq_com1 hu]
  have e : L * u = y * v := by rw [hL, hy, Int.mul_right_comm]
  rw [e, rq_com1 hv]
theorem rratio {w : World} {p : Bool} {A : Option Addr} {c : Nat} {l : List Nat} {q : Bool} {B : Option Addr} {d : Nat} {m : List Nat} {z : Rat} {n : Nat} (h : Rv w p A c l q B d m z n) (hn : n ≤ 100) (hn1 : 1 ≤ n) :
    Calls Tryz.prog 48 #[.agg #[.bool p, .slice A l.length c, .bool q, .slice B m.length d]] w (Ra z n w) := by
  obtain ⟨x, y, hx, hy, hz⟩ := h
  rw [← hz]; exact gratio hx hy hn hn1
set_option maxRecDepth 100000 in
set_option maxHeartbeats 2000000 in
theorem psum (A : Option Addr) (c : Nat) (l : List Fr) (w : World) (hL : Fr.L w A l) (hn : l.length ≤ 8) (hf : ∀ f ∈ l, f.few) :
    Calls Tryz.prog 35 #[.slice A l.length c] w (GR (Fr.sumQ l) 42 w) := by
  obtain ⟨s, hs⟩ : ∃ s, Hid (Fr.sumQ l = s) := ⟨_, Lib.hid rfl⟩
  rw [hs.out]
  have HL := Lib.hid hL
  have HF := Lib.hid hf
  have HN := Lib.hid hn
  clear hL hf hn
  have HO : Hid (∀ W, Calls Tryz.prog 60 #[.int .i64 1] W (GI 1 2 W)) := Lib.hid (fun W => gofi (by decide) W)
  go_enter Tryz.func35, Tryz.ntmps35
  go_wp2_with fail
  have t1 : Four (w.alloc (.cells #[.bool false, .slice none 0 0, .bool false, .slice none 0 0] 26)) w.heap.size (.bool false) (.slice none 0 0) (.bool false) (.slice none 0 0) := Four.new_ w (.bool false) (.slice none 0 0) (.bool false) (.slice none 0 0) 26
  have bel : Below w.heap.size w (w.alloc (.cells #[.bool false, .slice none 0 0, .bool false, .slice none 0 0] 26)) := (Below.refl _ _).alloc (Nat.le_refl _) _
  generalize (w.alloc (.cells #[.bool false, .slice none 0 0, .bool false, .slice none 0 0] 26)) = wx at t1 bel ⊢
  refine (HO.out _).mono ?_
  rintro e w2 ⟨p3, A3, c3, l3, rfl, E3, hb⟩
  replace t1 := t1.below hb t1.lt
  replace bel := bel.trans (hb.mono bel.size)
  clear hb
  go_upto_region 2 with (fail)
  have hg2 : w.heap.size < w2.heap.size := t1.lt
  have t2 : Two ((w2.alloc (.cells #[.bool false, .slice none 0 0] 24)).alloc (.cells #[.bool p3, .slice A3 l3.length c3] 24)) w2.heap.size (.bool false) (.slice none 0 0) := (Two.new_ w2 (.bool false) (.slice none 0 0) 24).alloc _
  have t3 : Two ((w2.alloc (.cells #[.bool false, .slice none 0 0] 24)).alloc (.cells #[.bool p3, .slice A3 l3.length c3] 24)) (w2.heap.size + 1) (.bool p3) (.slice A3 l3.length c3) := by simpa only [World.size_alloc, Nat.add_assoc, Nat.reduceAdd] using Two.new_ (w2.alloc (.cells #[.bool false, .slice none 0 0] 24)) (.bool p3) (.slice A3 l3.length c3) 24
  have bn : Below w2.heap.size w2 ((w2.alloc (.cells #[.bool false, .slice none 0 0] 24)).alloc (.cells #[.bool p3, .slice A3 l3.length c3] 24)) := ((Below.refl _ _).alloc (Nat.le_refl _) _).alloc (by simp only [World.size_alloc]; omega) _
  replace t1 := t1.below bn t1.lt
  replace bel := bel.trans (bn.mono bel.size)
  replace E3 := E3.below bn
  clear bn
  generalize ((w2.alloc (.cells #[.bool false, .slice none 0 0] 24)).alloc (.cells #[.bool p3, .slice A3 l3.length c3] 24)) = v1 at t1 bel E3 t2 t3 ⊢
  generalize w2.heap.size = g2 at t1 bel E3 t2 t3 hg2 ⊢
  go_wp2_with fail
  go_loopw [14] (fun iv wr => ∃ (k : Nat) (p1 : Bool) (A1 : Option Addr) (c1 : Nat) (l1 : List Nat) (p2 : Bool) (A2 : Option Addr) (c2 : Nat) (l2 : List Nat) (S L : Int), k ≤ l.length ∧ iv = .int .i64 (k : Int) ∧ 0 < L ∧ Hid (Rat.divInt S L = Fr.sumQ (l.take k)) ∧ Four wr w.heap.size (.bool false) (.slice none 0 0) (.bool false) (.slice none 0 0) ∧ Two wr g2 (.bool p1) (.slice A1 l1.length c1) ∧ Two wr (g2 + 1) (.bool p2) (.slice A2 l2.length c2) ∧ Iv wr p1 A1 c1 l1 S (5 * k + 2) ∧ Iv wr p2 A2 c2 l2 L (4 * k + 2) ∧ Below w.heap.size w wr) (fun iv _ => l.length - (intOf iv).toNat)
  case atStart => exact ⟨0, _, _, _, [], _, _, _, _, 0, 1, Nat.zero_le _, rfl, by decide, Lib.hid (by rw [Rat.zero_divInt]; rfl), t1, t2, t3, ⟨Sl.nil _ _, rfl, Nat.zero_le _⟩, E3.iv, bel⟩
  case round =>
    clear t1 t2 t3 E3 bel
    obtain ⟨k, p1, A1, c1, l1, p2, A2, c2, l2, S, L, hk, rfl, hL0, hz, t1, t2, t3, I1, I2, bel⟩ := hrel
    by_cases hlt : k < l.length
    · obtain ⟨b, off, p5, A5, c5, l5, q5, B5, d5, m5, rfl, hbl, e0, e1, e2, e3, his⟩ := HL.out.at_ bel hlt
      obtain ⟨zf, hzf⟩ : ∃ z, Hid (Fr.rd ⟨p5, A5, c5, l5, q5, B5, d5, m5⟩ = z) := ⟨_, Lib.hid rfl⟩
      have X : Rv wr p5 A5 c5 l5 q5 B5 d5 m5 zf 4 := hzf.out ▸ ((HL.out.all _ his.mem).rv (HF.out _ his.mem)).below bel
      have HT : Hid (Fr.sumQ (l.take (k + 1)) = Rat.divInt S L + zf) := Lib.hid (by rw [his.take, ← hzf.out, ← hz.out])
      have HK := Lib.hid (show k + 1 ≤ l.length from hlt)
      have hkl : (k : Int) < (l.length : Int) := by omega
      have HL0 := Lib.hid hL0
      have hkk : k ≤ 7 := by have := HN.out; omega
      have HKK := Lib.hid hkk
      clear his hzf hz hL0 hkk
      go_upto_region 5 with (fail)
      have hg5 : g2 + 1 < wr.heap.size := t3.lt
      have x5 : Four (wr.alloc (.cells #[.bool p5, .slice A5 l5.length c5, .bool q5, .slice B5 m5.length d5] 26)) wr.heap.size (.bool p5) (.slice A5 l5.length c5) (.bool q5) (.slice B5 m5.length d5) := Four.new_ wr (.bool p5) (.slice A5 l5.length c5) (.bool q5) (.slice B5 m5.length d5) 26
      have bn : Below wr.heap.size wr (wr.alloc (.cells #[.bool p5, .slice A5 l5.length c5, .bool q5, .slice B5 m5.length d5] 26)) := (Below.refl _ _).alloc (Nat.le_refl _) _
      replace t1 := t1.below bn t1.lt
      replace t2 := t2.below bn t2.lt
      replace t3 := t3.below bn t3.lt
      replace bel := bel.trans (bn.mono bel.size)
      replace I1 := I1.below bn
      replace I2 := I2.below bn
      replace X := X.below bn
      clear bn
      generalize (wr.alloc (.cells #[.bool p5, .slice A5 l5.length c5, .bool q5, .slice B5 m5.length d5] 26)) = v1 at t1 t2 t3 bel I1 I2 X x5 ⊢
      generalize wr.heap.size = g5 at t1 t2 t3 bel I1 I2 X x5 hg5 ⊢
      clear e0 e1 e2 e3
      have x5_0 := x5.c0
      have x5_1 := x5.c1
      have x5_2 := x5.c2
      have x5_3 := x5.c3
      go_wp2_with fail
      refine (rratio X (by decide) (by decide)).mono ?_
      rintro e w2 ⟨p7, A7, c7, l7, p8, A8, c8, l8, x, y, rfl, I7, I8, hy, hq, hb⟩
      clear x5_0 x5_1 x5_2 x5_3
      replace t1 := t1.below hb t1.lt
      replace t2 := t2.below hb t2.lt
      replace t3 := t3.below hb t3.lt
      replace bel := bel.trans (hb.mono bel.size)
      replace I1 := I1.below hb
      replace I2 := I2.below hb
      replace X := X.below hb
      replace x5 := x5.below hb x5.lt
      clear hb
      have HY := Lib.hid hy
      have HQ := Lib.hid hq
      clear hy hq
      clear X
      go_upto_region 6 with (fail)
      have hg7 : g5 < w2.heap.size := x5.lt
      have t7 : Two ((w2.alloc (.cells #[.bool p7, .slice A7 l7.length c7] 24)).alloc (.cells #[.bool p8, .slice A8 l8.length c8] 24)) w2.heap.size (.bool p7) (.slice A7 l7.length c7) := (Two.new_ w2 (.bool p7) (.slice A7 l7.length c7) 24).alloc _
      have t8 : Two ((w2.alloc (.cells #[.bool p7, .slice A7 l7.length c7] 24)).alloc (.cells #[.bool p8, .slice A8 l8.length c8] 24)) (w2.heap.size + 1) (.bool p8) (.slice A8 l8.length c8) := by simpa only [World.size_alloc, Nat.add_assoc, Nat.reduceAdd] using Two.new_ (w2.alloc (.cells #[.bool p7, .slice A7 l7.length c7] 24)) (.bool p8) (.slice A8 l8.length c8) 24
      have bn : Below w2.heap.size w2 ((w2.alloc (.cells #[.bool p7, .slice A7 l7.length c7] 24)).alloc (.cells #[.bool p8, .slice A8 l8.length c8] 24)) := ((Below.refl _ _).alloc (Nat.le_refl _) _).alloc (by simp only [World.size_alloc]; omega) _
      replace t1 := t1.below bn t1.lt
      replace t2 := t2.below bn t2.lt
      replace t3 := t3.below bn t3.lt
      replace bel := bel.trans (bn.mono bel.size)
      replace I1 := I1.below bn
      replace I2 := I2.below bn
      replace x5 := x5.below bn x5.lt
      replace I7 := I7.below bn
      replace I8 := I8.below bn
      clear bn
      generalize ((w2.alloc (.cells #[.bool p7, .slice A7 l7.length c7] 24)).alloc (.cells #[.bool p8, .slice A8 l8.length c8] 24)) = v2 at t1 t2 t3 bel I1 I2 x5 I7 I8 t7 t8 ⊢
      generalize w2.heap.size = g7 at t1 t2 t3 bel I1 I2 x5 I7 I8 t7 t8 hg7 ⊢
      obtain ⟨G, hG⟩ : ∃ G : Int, Hid (((Nat.gcd L.natAbs y.natAbs : Nat) : Int) = G) := ⟨_, Lib.hid rfl⟩
      have HGC := Lib.hid (fun (W : World) (h : Iv W p2 A2 c2 l2 L (4 * k + 2)) (h' : Iv W p8 A8 c8 l8 y 4) => (by have h := ggcd h h' (by have := HKK.out; omega) (by decide); rw [hG.out] at h; exact h : Calls Tryz.prog 54 #[.agg #[.bool p2, .slice A2 l2.length c2], .agg #[.bool p8, .slice A8 l8.length c8]] W (GI G (max (4 * k + 2) 4) W)))
      have t3_0 := t3.c0
      have t3_1 := t3.c1
      have t8_0 := t8.c0
      have t8_1 := t8.c1
      go_wp2_with fail
      refine (HGC.out _ I2 I8).mono ?_
      rintro e w3 ⟨p9, A9, c9, l9, rfl, E9, hb⟩
      clear t3_0 t3_1 t8_0 t8_1
      replace t1 := t1.below hb t1.lt
      replace t2 := t2.below hb t2.lt
      replace t3 := t3.below hb t3.lt
      replace bel := bel.trans (hb.mono bel.size)
      replace I1 := I1.below hb
      replace I2 := I2.below hb
      replace x5 := x5.below hb x5.lt
      replace I7 := I7.below hb
      replace I8 := I8.below hb
      replace t7 := t7.below hb t7.lt
      replace t8 := t8.below hb t8.lt
      clear hb
      have I9 := E9.iv
      clear E9
      go_upto_region 7 with (fail)
      have hg9 : g7 + 1 < w3.heap.size := t8.lt
      have t9 : Two (w3.alloc (.cells #[.bool p9, .slice A9 l9.length c9] 24)) w3.heap.size (.bool p9) (.slice A9 l9.length c9) := Two.new_ w3 (.bool p9) (.slice A9 l9.length c9) 24
      have bn : Below w3.heap.size w3 (w3.alloc (.cells #[.bool p9, .slice A9 l9.length c9] 24)) := (Below.refl _ _).alloc (Nat.le_refl _) _
      replace t1 := t1.below bn t1.lt
      replace t2 := t2.below bn t2.lt
      replace t3 := t3.below bn t3.lt
      replace bel := bel.trans (bn.mono bel.size)
      replace I1 := I1.below bn
      replace I2 := I2.below bn
      replace x5 := x5.below bn x5.lt
      replace I7 := I7.below bn
      replace I8 := I8.below bn
      replace t7 := t7.below bn t7.lt
      replace t8 := t8.below bn t8.lt
      replace I9 := I9.below bn
      clear bn
      generalize (w3.alloc (.cells #[.bool p9, .slice A9 l9.length c9] 24)) = v3 at t1 t2 t3 bel I1 I2 x5 I7 I8 t7 t8 I9 t9 ⊢
      generalize w3.heap.size = g9 at t1 t2 t3 bel I1 I2 x5 I7 I8 t7 t8 I9 t9 hg9 ⊢
      have HGP : Hid (0 < G) := Lib.hid (by have := HL0.out; have h9 : 0 < Nat.gcd L.natAbs y.natAbs := Nat.gcd_pos_of_pos_left _ (by omega); have := hG.out; omega)
      obtain ⟨u, hu⟩ : ∃ u : Int, Hid (y.fdiv G = u) := ⟨_, Lib.hid rfl⟩
      obtain ⟨v, hv⟩ : ∃ v : Int, Hid (L.fdiv G = v) := ⟨_, Lib.hid rfl⟩
      have HQ1 := Lib.hid (fun (W : World) (h : Iv W p8 A8 c8 l8 y 4) (h' : Iv W p9 A9 c9 l9 G (max (4 * k + 2) 4)) => (by have h := gquot h h' (by have := HGP.out; omega) (by decide) (by have := HKK.out; omega); rw [hu.out] at h; exact h : Calls Tryz.prog 70 #[.agg #[.bool p8, .slice A8 l8.length c8], .agg #[.bool p9, .slice A9 l9.length c9]] W (GI u 4 W)))
      have HQ2 := Lib.hid (fun (W : World) (h : Iv W p2 A2 c2 l2 L (4 * k + 2)) (h' : Iv W p9 A9 c9 l9 G (max (4 * k + 2) 4)) => (by have h := gquot h h' (by have := HGP.out; omega) (by have := HKK.out; omega) (by have := HKK.out; omega); rw [hv.out] at h; exact h : Calls Tryz.prog 70 #[.agg #[.bool p2, .slice A2 l2.length c2], .agg #[.bool p9, .slice A9 l9.length c9]] W (GI v (4 * k + 2) W)))
      obtain ⟨S1, hS1⟩ : ∃ S1 : Int, Hid (S * u = S1) := ⟨_, Lib.hid rfl⟩
      have HM1 := Lib.hid (fun (W : World) (p : Bool) (A : Option Addr) (c : Nat) (l : List Nat) (h : Iv W p1 A1 c1 l1 S (5 * k + 2)) (h' : Iv W p A c l u 4) => (by have h := gmul h h' (by have := HKK.out; omega) (by decide); rw [hS1.out] at h; exact h : Calls Tryz.prog 62 #[.agg #[.bool p1, .slice A1 l1.length c1], .agg #[.bool p, .slice A l.length c]] W (GI S1 (5 * k + 6) W)))
      clear x5
      skip
      go_upto_region 7 with (fail)
      go_cut [30] (fun s wx => ∃ (p0 : Bool) (A0 : Option Addr) (c0 : Nat) (l0 : List Nat), Four wx w.heap.size (.bool false) (.slice none 0 0) (.bool false) (.slice none 0 0) ∧ Two wx (g2) (.bool p0) (.slice A0 l0.length c0) ∧ Two wx (g2 + 1) (.bool p2) (.slice A2 l2.length c2) ∧ Two wx (g7) (.bool p7) (.slice A7 l7.length c7) ∧ Two wx (g7 + 1) (.bool p8) (.slice A8 l8.length c8) ∧ Two wx (g9) (.bool p9) (.slice A9 l9.length c9) ∧ Iv wx p0 A0 c0 l0 S1 (5 * k + 6) ∧ Iv wx p2 A2 c2 l2 L (4 * k + 2) ∧ Iv wx p7 A7 c7 l7 x 4 ∧ Iv wx p8 A8 c8 l8 y 4 ∧ Iv wx p9 A9 c9 l9 G (max (4 * k + 2) 4) ∧ Below w.heap.size w wx)
      case first =>
        have xt20 := t2.c0
        have xt21 := t2.c1
        have xt80 := t8.c0
        have xt81 := t8.c1
        have xt90 := t9.c0
        have xt91 := t9.c1
        have f0 := t2.fr 0
        have f1 := t2.fr 1
        replace t1 := t1.drew
        replace t2 := t2.drew
        replace t3 := t3.drew
        replace bel := bDrew1 bel
        replace I1 := I1.drew
        replace I2 := I2.drew
        replace I7 := I7.drew
        replace I8 := I8.drew
        replace t7 := t7.drew
        replace t8 := t8.drew
        replace I9 := I9.drew
        replace t9 := t9.drew
        have xt20 := t2.c0
        have xt21 := t2.c1
        have xt80 := t8.c0
        have xt81 := t8.c1
        have xt90 := t9.c0
        have xt91 := t9.c1
        have f0 := t2.fr 0
        have f1 := t2.fr 1
        go_region_law (first
            | (go_simp; go_at_call 70; ((with_reducible refine (HQ1.out _ I8 I9).mono ?_)); rintro e wa ⟨p6, A6, c6, l6, rfl, E6, hb⟩; replace t1 := t1.below hb t1.lt; replace t2 := t2.below hb t2.lt; replace t3 := t3.below hb t3.lt; replace bel := bel.trans (hb.mono bel.size); replace I1 := I1.below hb; replace I2 := I2.below hb; replace I7 := I7.below hb; replace I8 := I8.below hb; replace t7 := t7.below hb t7.lt; replace t8 := t8.below hb t8.lt; replace I9 := I9.below hb; replace t9 := t9.below hb t9.lt; clear hb; have xt20 := t2.c0; have xt21 := t2.c1; have xt80 := t8.c0; have xt81 := t8.c1; have xt90 := t9.c0; have xt91 := t9.c1; have f0 := t2.fr 0; have f1 := t2.fr 1)
            | (go_simp; go_at_call 62; ((with_reducible refine (HM1.out _ _ _ _ _ I1 E6.iv).mono ?_)); rintro e wa ⟨p4, A4, c4, l4, rfl, E4, hb⟩; replace t1 := t1.below hb t1.lt; replace t2 := t2.below hb t2.lt; replace t3 := t3.below hb t3.lt; replace bel := bel.trans (hb.mono bel.size); replace I1 := I1.below hb; replace I2 := I2.below hb; replace I7 := I7.below hb; replace I8 := I8.below hb; replace t7 := t7.below hb t7.lt; replace t8 := t8.below hb t8.lt; replace I9 := I9.below hb; replace t9 := t9.below hb t9.lt; replace E6 := E6.below hb; clear hb; have xt20 := t2.c0; have xt21 := t2.c1; have xt80 := t8.c0; have xt81 := t8.c1; have xt90 := t9.c0; have xt91 := t9.c1; have f0 := t2.fr 0; have f1 := t2.fr 1))
        all_goals
          go_wp2_with fail
          go_meet
          exact ⟨_, _, _, _, t1.far2 (g := g2) (by omega) (.bool p4) (.slice A4 l4.length c4), t2.put2 (.bool p4) (.slice A4 l4.length c4), t3.far2 (g := g2) (by omega) (.bool p4) (.slice A4 l4.length c4), t7.far2 (g := g2) (by omega) (.bool p4) (.slice A4 l4.length c4), t8.far2 (g := g2) (by omega) (.bool p4) (.slice A4 l4.length c4), t9.far2 (g := g2) (by omega) (.bool p4) (.slice A4 l4.length c4), E4.iv.put2 t2 (.bool p4) (.slice A4 l4.length c4), I2.put2 t2 (.bool p4) (.slice A4 l4.length c4), I7.put2 t2 (.bool p4) (.slice A4 l4.length c4), I8.put2 t2 (.bool p4) (.slice A4 l4.length c4), I9.put2 t2 (.bool p4) (.slice A4 l4.length c4), below_set2 bel (b := g2) (by omega) (.bool p4) (.slice A4 l4.length c4)⟩
      clear t1 t2 t3 bel I1 I2 I7 I8 t7 t8 I9 t9
      obtain ⟨p07, A07, c07, l07, t1, t2, t3, t7, t8, t9, I1, I2, I7, I8, I9, bel⟩ := hcut
      obtain ⟨x1, hx1⟩ : ∃ x1 : Int, Hid (x * v = x1) := ⟨_, Lib.hid rfl⟩
      obtain ⟨S2, hS2⟩ : ∃ S2 : Int, Hid (S1 + x1 = S2) := ⟨_, Lib.hid rfl⟩
      obtain ⟨L2, hL2⟩ : ∃ L2 : Int, Hid (L * u = L2) := ⟨_, Lib.hid rfl⟩
      have HM2 := Lib.hid (fun (W : World) (p : Bool) (A : Option Addr) (c : Nat) (l : List Nat) (h : Iv W p7 A7 c7 l7 x 4) (h' : Iv W p A c l v (4 * k + 2)) => (by have h := gmul h h' (by decide) (by have := HKK.out; omega); rw [hx1.out] at h; exact h : Calls Tryz.prog 62 #[.agg #[.bool p7, .slice A7 l7.length c7], .agg #[.bool p, .slice A l.length c]] W (GI x1 (4 + (4 * k + 2)) W)))
      have HAD := Lib.hid (fun (W : World) (p : Bool) (A : Option Addr) (c : Nat) (l : List Nat) (h : Iv W p07 A07 c07 l07 S1 (5 * k + 6)) (h' : Iv W p A c l x1 (4 + (4 * k + 2))) => (by have h := gadd h h' (by have := HKK.out; omega) (by have := HKK.out; omega); rw [hS2.out] at h; exact h : Calls Tryz.prog 65 #[.agg #[.bool p07, .slice A07 l07.length c07], .agg #[.bool p, .slice A l.length c]] W (GI S2 (max (5 * k + 6) (4 + (4 * k + 2)) + 1) W)))
      go_upto_region 8 with (fail)
      go_cut [37] (fun s wx => ∃ (p0 : Bool) (A0 : Option Addr) (c0 : Nat) (l0 : List Nat), Four wx w.heap.size (.bool false) (.slice none 0 0) (.bool false) (.slice none 0 0) ∧ Two wx (g2) (.bool p0) (.slice A0 l0.length c0) ∧ Two wx (g2 + 1) (.bool p2) (.slice A2 l2.length c2) ∧ Two wx (g7) (.bool p7) (.slice A7 l7.length c7) ∧ Two wx (g7 + 1) (.bool p8) (.slice A8 l8.length c8) ∧ Two wx (g9) (.bool p9) (.slice A9 l9.length c9) ∧ Iv wx p0 A0 c0 l0 S2 (max (5 * k + 6) (4 + (4 * k + 2)) + 1) ∧ Iv wx p2 A2 c2 l2 L (4 * k + 2) ∧ Iv wx p7 A7 c7 l7 x 4 ∧ Iv wx p8 A8 c8 l8 y 4 ∧ Iv wx p9 A9 c9 l9 G (max (4 * k + 2) 4) ∧ Below w.heap.size w wx)
      case first =>
        have xt20 := t2.c0
        have xt21 := t2.c1
        have xt70 := t7.c0
        have xt71 := t7.c1
        have xt30 := t3.c0
        have xt31 := t3.c1
        have xt90 := t9.c0
        have xt91 := t9.c1
        have f0 := t2.fr 0
        have f1 := t2.fr 1
        replace t1 := t1.drew
        replace t2 := t2.drew
        replace t3 := t3.drew
        replace bel := bDrew1 bel
        replace I1 := I1.drew
        replace I2 := I2.drew
        replace I7 := I7.drew
        replace I8 := I8.drew
        replace t7 := t7.drew
        replace t8 := t8.drew
        replace I9 := I9.drew
        replace t9 := t9.drew
        have xt20 := t2.c0
        have xt21 := t2.c1
        have xt70 := t7.c0
        have xt71 := t7.c1
        have xt30 := t3.c0
        have xt31 := t3.c1
        have xt90 := t9.c0
        have xt91 := t9.c1
        have f0 := t2.fr 0
        have f1 := t2.fr 1
        go_region_law (first
            | (go_simp; go_at_call 70; ((with_reducible refine (HQ2.out _ I2 I9).mono ?_)); rintro e wa ⟨p6, A6, c6, l6, rfl, E6, hb⟩; replace t1 := t1.below hb t1.lt; replace t2 := t2.below hb t2.lt; replace t3 := t3.below hb t3.lt; replace bel := bel.trans (hb.mono bel.size); replace I1 := I1.below hb; replace I2 := I2.below hb; replace I7 := I7.below hb; replace I8 := I8.below hb; replace t7 := t7.below hb t7.lt; replace t8 := t8.below hb t8.lt; replace I9 := I9.below hb; replace t9 := t9.below hb t9.lt; clear hb; have xt20 := t2.c0; have xt21 := t2.c1; have xt70 := t7.c0; have xt71 := t7.c1; have xt30 := t3.c0; have xt31 := t3.c1; have xt90 := t9.c0; have xt91 := t9.c1; have f0 := t2.fr 0; have f1 := t2.fr 1)
            | (go_simp; go_at_call 62; ((with_reducible refine (HM2.out _ _ _ _ _ I7 E6.iv).mono ?_)); rintro e wa ⟨p4, A4, c4, l4, rfl, E4, hb⟩; replace t1 := t1.below hb t1.lt; replace t2 := t2.below hb t2.lt; replace t3 := t3.below hb t3.lt; replace bel := bel.trans (hb.mono bel.size); replace I1 := I1.below hb; replace I2 := I2.below hb; replace I7 := I7.below hb; replace I8 := I8.below hb; replace t7 := t7.below hb t7.lt; replace t8 := t8.below hb t8.lt; replace I9 := I9.below hb; replace t9 := t9.below hb t9.lt; replace E6 := E6.below hb; clear hb; have xt20 := t2.c0; have xt21 := t2.c1; have xt70 := t7.c0; have xt71 := t7.c1; have xt30 := t3.c0; have xt31 := t3.c1; have xt90 := t9.c0; have xt91 := t9.c1; have f0 := t2.fr 0; have f1 := t2.fr 1)
            | (go_simp; go_at_call 65; ((with_reducible refine (HAD.out _ _ _ _ _ I1 E4.iv).mono ?_)); rintro e wa ⟨p5x, A5x, c5x, l5x, rfl, E5x, hb⟩; replace t1 := t1.below hb t1.lt; replace t2 := t2.below hb t2.lt; replace t3 := t3.below hb t3.lt; replace bel := bel.trans (hb.mono bel.size); replace I1 := I1.below hb; replace I2 := I2.below hb; replace I7 := I7.below hb; replace I8 := I8.below hb; replace t7 := t7.below hb t7.lt; replace t8 := t8.below hb t8.lt; replace I9 := I9.below hb; replace t9 := t9.below hb t9.lt; replace E6 := E6.below hb; replace E4 := E4.below hb; clear hb; have xt20 := t2.c0; have xt21 := t2.c1; have xt70 := t7.c0; have xt71 := t7.c1; have xt30 := t3.c0; have xt31 := t3.c1; have xt90 := t9.c0; have xt91 := t9.c1; have f0 := t2.fr 0; have f1 := t2.fr 1))
        all_goals
          go_wp2_with fail
          go_meet
          exact ⟨_, _, _, _, t1.far2 (g := g2) (by omega) (.bool p5x) (.slice A5x l5x.length c5x), t2.put2 (.bool p5x) (.slice A5x l5x.length c5x), t3.far2 (g := g2) (by omega) (.bool p5x) (.slice A5x l5x.length c5x), t7.far2 (g := g2) (by omega) (.bool p5x) (.slice A5x l5x.length c5x), t8.far2 (g := g2) (by omega) (.bool p5x) (.slice A5x l5x.length c5x), t9.far2 (g := g2) (by omega) (.bool p5x) (.slice A5x l5x.length c5x), E5x.iv.put2 t2 (.bool p5x) (.slice A5x l5x.length c5x), I2.put2 t2 (.bool p5x) (.slice A5x l5x.length c5x), I7.put2 t2 (.bool p5x) (.slice A5x l5x.length c5x), I8.put2 t2 (.bool p5x) (.slice A5x l5x.length c5x), I9.put2 t2 (.bool p5x) (.slice A5x l5x.length c5x), below_set2 bel (b := g2) (by omega) (.bool p5x) (.slice A5x l5x.length c5x)⟩
      clear t1 t2 t3 bel I1 I2 I7 I8 t7 t8 I9 t9
      obtain ⟨p08, A08, c08, l08, t1, t2, t3, t7, t8, t9, I1, I2, I7, I8, I9, bel⟩ := hcut
      have HM3 := Lib.hid (fun (W : World) (p : Bool) (A : Option Addr) (c : Nat) (l : List Nat) (h : Iv W p2 A2 c2 l2 L (4 * k + 2)) (h' : Iv W p A c l u 4) => (by have h := gmul h h' (by have := HKK.out; omega) (by decide); rw [hL2.out] at h; exact h : Calls Tryz.prog 62 #[.agg #[.bool p2, .slice A2 l2.length c2], .agg #[.bool p, .slice A l.length c]] W (GI L2 (4 * k + 2 + 4) W)))
      have HP := Lib.hid (lcm_parts HL0.out HY.out hG.out)
      skip
      have HF1 : Hid (0 < L2 ∧ Rat.divInt S2 L2 = Fr.sumQ (l.take (k + 1))) := Lib.hid (by
        obtain ⟨e1, e2, e3, e4⟩ := HP.out
        rw [hu.out] at e1 e3; rw [hv.out] at e2 e4
        rw [← hL2.out, ← hS2.out, ← hS1.out, ← hx1.out, HT.out, ← HQ.out]
        exact ⟨Int.mul_pos HL0.out e3, sum_step e2 e1 HGP.out e3 e4⟩)
      replace I1 := I1.more (show max (5 * k + 6) (4 + (4 * k + 2)) + 1 ≤ 5 * (k + 1) + 2 by omega)
      have hwk : IntKind.i64.wrap ((k : Int) + 1) = ((k + 1 : Nat) : Int) := (IntWalk.i64_in _ (by have := HKK.out; omega)).trans (by omega)
      go_upto_region 9 with (fail)
      have xt30 := t3.c0
      have xt31 := t3.c1
      have xt80 := t8.c0
      have xt81 := t8.c1
      have xt90 := t9.c0
      have xt91 := t9.c1
      have f0 := t3.fr 0
      have f1 := t3.fr 1
      replace t1 := t1.drew
      replace t2 := t2.drew
      replace t3 := t3.drew
      replace bel := bDrew1 bel
      replace I1 := I1.drew
      replace I2 := I2.drew
      replace I7 := I7.drew
      replace I8 := I8.drew
      replace t7 := t7.drew
      replace t8 := t8.drew
      replace I9 := I9.drew
      replace t9 := t9.drew
      have xt30 := t3.c0
      have xt31 := t3.c1
      have xt80 := t8.c0
      have xt81 := t8.c1
      have xt90 := t9.c0
      have xt91 := t9.c1
      have f0 := t3.fr 0
      have f1 := t3.fr 1
      go_region_law (first
          | (go_simp; go_at_call 70; ((with_reducible refine (HQ1.out _ I8 I9).mono ?_)); rintro e wa ⟨p6, A6, c6, l6, rfl, E6, hb⟩; replace t1 := t1.below hb t1.lt; replace t2 := t2.below hb t2.lt; replace t3 := t3.below hb t3.lt; replace bel := bel.trans (hb.mono bel.size); replace I1 := I1.below hb; replace I2 := I2.below hb; replace I7 := I7.below hb; replace I8 := I8.below hb; replace t7 := t7.below hb t7.lt; replace t8 := t8.below hb t8.lt; replace I9 := I9.below hb; replace t9 := t9.below hb t9.lt; clear hb; have xt30 := t3.c0; have xt31 := t3.c1; have xt80 := t8.c0; have xt81 := t8.c1; have xt90 := t9.c0; have xt91 := t9.c1; have f0 := t3.fr 0; have f1 := t3.fr 1)
          | (go_simp; go_at_call 62; ((with_reducible refine (HM3.out _ _ _ _ _ I2 E6.iv).mono ?_)); rintro e wa ⟨p4, A4, c4, l4, rfl, E4, hb⟩; replace t1 := t1.below hb t1.lt; replace t2 := t2.below hb t2.lt; replace t3 := t3.below hb t3.lt; replace bel := bel.trans (hb.mono bel.size); replace I1 := I1.below hb; replace I2 := I2.below hb; replace I7 := I7.below hb; replace I8 := I8.below hb; replace t7 := t7.below hb t7.lt; replace t8 := t8.below hb t8.lt; replace I9 := I9.below hb; replace t9 := t9.below hb t9.lt; replace E6 := E6.below hb; clear hb; have xt30 := t3.c0; have xt31 := t3.c1; have xt80 := t8.c0; have xt81 := t8.c1; have xt90 := t9.c0; have xt91 := t9.c1; have f0 := t3.fr 0; have f1 := t3.fr 1))
      all_goals
        have J2 := Lib.hid ((E4.iv.put2 t3 (.bool p4) (.slice A4 l4.length c4)).more (show 4 * k + 2 + 4 ≤ 4 * (k + 1) + 2 by omega))
        have J1 := Lib.hid (I1.put2 t3 (.bool p4) (.slice A4 l4.length c4))
        have U1 := Lib.hid (t1.far2 (g := (g2 + 1)) (by omega) (.bool p4) (.slice A4 l4.length c4))
        have U2 := Lib.hid (t2.far2 (g := (g2 + 1)) (by omega) (.bool p4) (.slice A4 l4.length c4))
        have U3 := Lib.hid (t3.put2 (.bool p4) (.slice A4 l4.length c4))
        have UB := Lib.hid (below_set2 bel (b := (g2 + 1)) (by omega) (.bool p4) (.slice A4 l4.length c4))
        go_wp2_with fail
        go_roundw
        case rel => exact ⟨k + 1, _, _, _, _, _, _, _, _, S2, L2, HK.out, by first | go_num | rfl, HF1.out.1, Lib.hid HF1.out.2, U1.out, U2.out, U3.out, J1.out, J2.out, UB.out⟩
        case measure => (have := HK.out; first | (simp [intOf]; omega) | (simp [intOf, hwk]; omega))
    · obtain rfl : k = l.length := by omega
      have HR := Lib.hid (fun (h : Iv wr p1 A1 c1 l1 S (5 * l.length + 2)) (h' : Iv wr p2 A2 c2 l2 L (4 * l.length + 2)) => (by have h := greduced (h.more (show 5 * l.length + 2 ≤ 42 by have := HN.out; omega)) (h'.more (show 4 * l.length + 2 ≤ 42 by have := HN.out; omega)) hL0 (by decide); rw [hz.out, List.take_length, hs.out] at h; exact h : Calls Tryz.prog 47 #[.agg #[.bool p1, .slice A1 l1.length c1], .agg #[.bool p2, .slice A2 l2.length c2]] wr (GR s 42 wr)))
      clear hz hL0
      have t2_0 := t2.c0
      have t2_1 := t2.c1
      have t3_0 := t3.c0
      have t3_1 := t3.c1
      go_wp2_with fail
      refine (HR.out I1 I2).mono ?_
      rintro e w2 ⟨A6, c6, l6, B6, d6, m6, rfl, E6, hb⟩
      clear t2_0 t2_1 t3_0 t3_1
      replace t1 := t1.below hb t1.lt
      replace t2 := t2.below hb t2.lt
      replace t3 := t3.below hb t3.lt
      replace bel := bel.trans (hb.mono bel.size)
      replace I1 := I1.below hb
      replace I2 := I2.below hb
      clear hb
      have d0 := t1.c0
      have d1 := t1.c1
      have d2 := t1.c2
      have d3 := t1.c3
      have f0 := t1.fr 0
      have f1 := t1.fr 1
      have f2 := t1.fr 2
      have f3 := t1.fr 3
      have R := Lib.hid (t1.put (.bool (decide (s.num < 0))) (.slice A6 l6.length c6) (.bool false) (.slice B6 m6.length d6))
      have CR := Lib.hid (E6.put4 t1 (.bool (decide (s.num < 0))) (.slice A6 l6.length c6) (.bool false) (.slice B6 m6.length d6))
      have BL := Lib.hid (below_set4 bel (b := w.heap.size) (by omega) (.bool (decide (s.num < 0))) (.slice A6 l6.length c6) (.bool false) (.slice B6 m6.length d6))
      clear t1 t2 t3 bel I1 I2 E6
      go_wp2_with fail
      have r0 := R.out.c0
      have r1 := R.out.c1
      have r2 := R.out.c2
      have r3 := R.out.c3
      unfold set4 at r0 r1 r2 r3
      refine bodyPost_ret (v := .agg #[.bool (decide (s.num < 0)), .slice A6 l6.length c6, .bool false, .slice B6 m6.length d6]) (by simp [results, Tryz.results35, go_sem, r0, r1, r2, r3]) rfl ?_
      exact ⟨_, _, _, _, _, _, rfl, CR.out, BL.out⟩
end Go.Proofs.YtpfaddgcfacgdaaGreatDoor
/- Walks of package rational: Add of the reference. -/
namespace Go.Proofs.YtpfaddgcfacgdaaGreatDoor
open Go.RowKit
set_option linter.unusedVariables false

set_option maxRecDepth 100000 in
set_option maxHeartbeats 2000000 in
theorem rradd45 {p1 : Bool} {A1 : Option Addr} {c1 : Nat} {l1 : List Nat} {q1 : Bool} {B1 : Option Addr} {d1 : Nat} {m1 : List Nat} {z1 : Rat} {p2 : Bool} {A2 : Option Addr} {c2 : Nat} {l2 : List Nat} {q2 : Bool} {B2 : Option Addr} {d2 : Nat} {m2 : List Nat} {z2 : Rat} {n k : Nat} {w : World} (h1 : Rv w p1 A1 c1 l1 q1 B1 d1 m1 z1 n) (h2 : Rv w p2 A2 c2 l2 q2 B2 d2 m2 z2 k) (hn : n ≤ 45) (hn1 : 1 ≤ n) (hk : k ≤ 45) (hk1 : 1 ≤ k) :
    Calls Tryz.prog 24 #[ratV p1 A1 l1.length c1 q1 B1 m1.length d1, ratV p2 A2 l2.length c2 q2 B2 m2.length d2] w (GR (z1 + z2) (n + k + 1) w) := by
  have HN1 := Lib.hid hn1
  obtain ⟨z, hz⟩ : ∃ z, z = z1 + z2 := ⟨_, rfl⟩
  rw [← hz]
  have HZ := Lib.hid hz
  clear hz
  have HN := Lib.hid hn
  have HK := Lib.hid hk
  have HM1 := Lib.hid (fun (W : World) (A : Option Addr) (c : Nat) (l : List Nat) (Bb : Option Addr) (d : Nat) (m : List Nat) (h : Cn W (decide (z1.num < 0)) A c l z1.num n) (h' : Cn W false Bb d m (z2.den : Int) k) => grmul h.iv h'.iv (by have := HN.out; have := HK.out; omega) (by have := HN.out; have := HK.out; omega))
  have HM2 := Lib.hid (fun (W : World) (A : Option Addr) (c : Nat) (l : List Nat) (Bb : Option Addr) (d : Nat) (m : List Nat) (h : Cn W (decide (z2.num < 0)) A c l z2.num k) (h' : Cn W false Bb d m (z1.den : Int) n) => grmul h.iv h'.iv (by have := HN.out; have := HK.out; omega) (by have := HN.out; have := HK.out; omega))
  have HM3 := Lib.hid (fun (W : World) (A : Option Addr) (c : Nat) (l : List Nat) (Bb : Option Addr) (d : Nat) (m : List Nat) (h : Cn W false A c l (z1.den : Int) n) (h' : Cn W false Bb d m (z2.den : Int) k) => grmul h.iv h'.iv (by have := HN.out; have := HK.out; omega) (by have := HN.out; have := HK.out; omega))
  have HAD := Lib.hid (fun (W : World) (pa : Bool) (Aa : Option Addr) (ca : Nat) (la : List Nat) (pb : Bool) (Ab : Option Addr) (cb : Nat) (lb : List Nat) (h : Cn W pa Aa ca la (z1.num * (z2.den : Int)) (n + k)) (h' : Cn W pb Ab cb lb (z2.num * (z1.den : Int)) (k + n)) => (by have h := gradd h.iv h'.iv (by have := HN.out; have := HK.out; omega) (by have := HN.out; have := HK.out; omega); rw [show max (n + k) (k + n) + 1 = n + k + 1 by omega] at h; exact h : Calls Tryz.prog 66 #[.agg #[.bool pa, .slice Aa la.length ca], .agg #[.bool pb, .slice Ab lb.length cb]] W (GI (z1.num * (z2.den : Int) + z2.num * (z1.den : Int)) (n + k + 1) W)))
  have HNW := Lib.hid (fun (W : World) (pa : Bool) (Aa : Option Addr) (ca : Nat) (la : List Nat) (pb : Bool) (Ab : Option Addr) (cb : Nat) (lb : List Nat) (h : Cn W pa Aa ca la (z1.num * (z2.den : Int) + z2.num * (z1.den : Int)) (n + k + 1)) (h' : Cn W pb Ab cb lb ((z1.den : Int) * (z2.den : Int)) (n + k)) => (by have h := grnew h.iv (h'.iv.more (Nat.le_succ _)) (Int.ne_of_gt (Int.mul_pos (rq_den_pos z1) (rq_den_pos z2))) (by have := HN.out; have := HK.out; omega) (by omega); rw [← Rat.divInt_add_divInt _ _ (by have := rq_den_pos z1; omega) (by have := rq_den_pos z2; omega), rq_self, rq_self, ← HZ.out] at h; exact h : Calls Tryz.prog 18 #[.agg #[.bool pa, .slice Aa la.length ca], .agg #[.bool pb, .slice Ab lb.length cb]] W (GRc z (n + k + 1) W)))
  obtain ⟨N, hN⟩ : ∃ N : Int, N = z1.num * (z2.den : Int) + z2.num * (z1.den : Int) := ⟨_, rfl⟩
  rw [← hN] at HAD HNW
  clear hN
  clear HN HK
  have HC1 := Lib.hid (fun (W : World) (h : Rv W p1 A1 c1 l1 q1 B1 d1 m1 z1 n) => rrcln h (by omega) hn1)
  have HC2 := Lib.hid (fun (W : World) (h : Rv W p2 A2 c2 l2 q2 B2 d2 m2 z2 k) => rrcln h (by omega) hk1)
  have HN := Lib.hid hn
  have HK := Lib.hid hk
  clear hn hn1 hk hk1
  unfold ratV
  go_enter Tryz.func24, Tryz.ntmps24
  go_wp2_with fail
  have t1 : Four (((w.alloc (.cells #[.bool p1, .slice A1 l1.length c1, .bool q1, .slice B1 m1.length d1] 26)).alloc (.cells #[.bool p2, .slice A2 l2.length c2, .bool q2, .slice B2 m2.length d2] 26)).alloc (.cells #[.bool false, .slice none 0 0, .bool false, .slice none 0 0] 26)) w.heap.size (.bool p1) (.slice A1 l1.length c1) (.bool q1) (.slice B1 m1.length d1) := ((Four.new_ w (.bool p1) (.slice A1 l1.length c1) (.bool q1) (.slice B1 m1.length d1) 26).alloc _).alloc _
  have t2 : Four (((w.alloc (.cells #[.bool p1, .slice A1 l1.length c1, .bool q1, .slice B1 m1.length d1] 26)).alloc (.cells #[.bool p2, .slice A2 l2.length c2, .bool q2, .slice B2 m2.length d2] 26)).alloc (.cells #[.bool false, .slice none 0 0, .bool false, .slice none 0 0] 26)) (w.heap.size + 1) (.bool p2) (.slice A2 l2.length c2) (.bool q2) (.slice B2 m2.length d2) := by simpa only [World.size_alloc, Nat.add_assoc, Nat.reduceAdd] using (Four.new_ (w.alloc (.cells #[.bool p1, .slice A1 l1.length c1, .bool q1, .slice B1 m1.length d1] 26)) (.bool p2) (.slice A2 l2.length c2) (.bool q2) (.slice B2 m2.length d2) 26).alloc _
  have t3 : Four (((w.alloc (.cells #[.bool p1, .slice A1 l1.length c1, .bool q1, .slice B1 m1.length d1] 26)).alloc (.cells #[.bool p2, .slice A2 l2.length c2, .bool q2, .slice B2 m2.length d2] 26)).alloc (.cells #[.bool false, .slice none 0 0, .bool false, .slice none 0 0] 26)) (w.heap.size + 2) (.bool false) (.slice none 0 0) (.bool false) (.slice none 0 0) := by simpa only [World.size_alloc, Nat.add_assoc, Nat.reduceAdd] using Four.new_ ((w.alloc (.cells #[.bool p1, .slice A1 l1.length c1, .bool q1, .slice B1 m1.length d1] 26)).alloc (.cells #[.bool p2, .slice A2 l2.length c2, .bool q2, .slice B2 m2.length d2] 26)) (.bool false) (.slice none 0 0) (.bool false) (.slice none 0 0) 26
  have bel : Below w.heap.size w (((w.alloc (.cells #[.bool p1, .slice A1 l1.length c1, .bool q1, .slice B1 m1.length d1] 26)).alloc (.cells #[.bool p2, .slice A2 l2.length c2, .bool q2, .slice B2 m2.length d2] 26)).alloc (.cells #[.bool false, .slice none 0 0, .bool false, .slice none 0 0] 26)) := (((Below.refl _ _).alloc (Nat.le_refl _) _).alloc (by simp only [World.size_alloc]; omega) _).alloc (by simp only [World.size_alloc]; omega) _
  generalize (((w.alloc (.cells #[.bool p1, .slice A1 l1.length c1, .bool q1, .slice B1 m1.length d1] 26)).alloc (.cells #[.bool p2, .slice A2 l2.length c2, .bool q2, .slice B2 m2.length d2] 26)).alloc (.cells #[.bool false, .slice none 0 0, .bool false, .slice none 0 0] 26)) = wx at t1 t2 t3 bel ⊢
  have X := h1.below bel
  have t1_0 := t1.c0
  have t1_1 := t1.c1
  have t1_2 := t1.c2
  have t1_3 := t1.c3
  go_wp2_with fail
  refine (HC1.out _ X).mono ?_
  rintro e w2 ⟨A5, c5, l5, B5, d5, m5, rfl, C1, hb⟩
  clear t1_0 t1_1 t1_2 t1_3
  clear t1
  replace t2 := t2.below hb t2.lt
  replace t3 := t3.below hb t3.lt
  replace bel := bel.trans (hb.mono bel.size)
  clear hb
  clear X
  go_upto_region 2 with (fail)
  have hg5 : w.heap.size + 2 < w2.heap.size := t3.lt
  have t5 : Four (w2.alloc (.cells #[.bool (decide (z1.num < 0)), .slice A5 l5.length c5, .bool false, .slice B5 m5.length d5] 26)) w2.heap.size (.bool (decide (z1.num < 0))) (.slice A5 l5.length c5) (.bool false) (.slice B5 m5.length d5) := Four.new_ w2 (.bool (decide (z1.num < 0))) (.slice A5 l5.length c5) (.bool false) (.slice B5 m5.length d5) 26
  have bn : Below w2.heap.size w2 (w2.alloc (.cells #[.bool (decide (z1.num < 0)), .slice A5 l5.length c5, .bool false, .slice B5 m5.length d5] 26)) := (Below.refl _ _).alloc (Nat.le_refl _) _
  replace t2 := t2.below bn t2.lt
  replace t3 := t3.below bn t3.lt
  replace bel := bel.trans (bn.mono bel.size)
  replace C1 := C1.below bn
  clear bn
  generalize (w2.alloc (.cells #[.bool (decide (z1.num < 0)), .slice A5 l5.length c5, .bool false, .slice B5 m5.length d5] 26)) = v1 at t2 t3 bel C1 t5 ⊢
  generalize w2.heap.size = g5 at t2 t3 bel C1 t5 hg5 ⊢
  have Y := h2.below bel
  have t2_0 := t2.c0
  have t2_1 := t2.c1
  have t2_2 := t2.c2
  have t2_3 := t2.c3
  go_wp2_with fail
  refine (HC2.out _ Y).mono ?_
  rintro e w3 ⟨A6, c6, l6, B6, d6, m6, rfl, C2, hb⟩
  clear t2_0 t2_1 t2_2 t2_3
  clear t2
  replace t3 := t3.below hb t3.lt
  replace bel := bel.trans (hb.mono bel.size)
  replace C1 := C1.below hb
  replace t5 := t5.below hb t5.lt
  clear hb
  clear Y
  go_upto_region 3 with (fail)
  have hg6 : g5 < w3.heap.size := t5.lt
  have t6 : Four (w3.alloc (.cells #[.bool (decide (z2.num < 0)), .slice A6 l6.length c6, .bool false, .slice B6 m6.length d6] 26)) w3.heap.size (.bool (decide (z2.num < 0))) (.slice A6 l6.length c6) (.bool false) (.slice B6 m6.length d6) := Four.new_ w3 (.bool (decide (z2.num < 0))) (.slice A6 l6.length c6) (.bool false) (.slice B6 m6.length d6) 26
  have bn : Below w3.heap.size w3 (w3.alloc (.cells #[.bool (decide (z2.num < 0)), .slice A6 l6.length c6, .bool false, .slice B6 m6.length d6] 26)) := (Below.refl _ _).alloc (Nat.le_refl _) _
  replace t3 := t3.below bn t3.lt
  replace bel := bel.trans (bn.mono bel.size)
  replace C1 := C1.below bn
  replace t5 := t5.below bn t5.lt
  replace C2 := C2.below bn
  clear bn
  generalize (w3.alloc (.cells #[.bool (decide (z2.num < 0)), .slice A6 l6.length c6, .bool false, .slice B6 m6.length d6] 26)) = v2 at t3 bel C1 t5 C2 t6 ⊢
  generalize w3.heap.size = g6 at t3 bel C1 t5 C2 t6 hg6 ⊢
  go_cut [7] (fun s wx => Bn g6 N (n + k + 1) s wx ∧ Four wx (w.heap.size + 2) (.bool false) (.slice none 0 0) (.bool false) (.slice none 0 0) ∧ Four wx g5 (.bool (decide (z1.num < 0))) (.slice A5 l5.length c5) (.bool false) (.slice B5 m5.length d5) ∧ Four wx g6 (.bool (decide (z2.num < 0))) (.slice A6 l6.length c6) (.bool false) (.slice B6 m6.length d6) ∧ Cr wx A5 c5 l5 B5 d5 m5 z1 n ∧ Cr wx A6 c6 l6 B6 d6 m6 z2 k ∧ Below w.heap.size w wx)
  case first =>
    have zz := t6.lt
    have zzt5 := t5.lt
    go_region_held3 (fun w' => w'.cell? ⟨g5, 0, none⟩ = some (.bool (decide (z1.num < 0))) ∧ w'.cell? ⟨g5, 1, none⟩ = some (.slice A5 l5.length c5) ∧ w'.cell? ⟨g5, 2, none⟩ = some (.bool false) ∧ w'.cell? ⟨g5, 3, none⟩ = some (.slice B5 m5.length d5) ∧ w'.cell? ⟨g6, 0, none⟩ = some (.bool (decide (z2.num < 0))) ∧ w'.cell? ⟨g6, 1, none⟩ = some (.slice A6 l6.length c6) ∧ w'.cell? ⟨g6, 2, none⟩ = some (.bool false) ∧ w'.cell? ⟨g6, 3, none⟩ = some (.slice B6 m6.length d6))
      ((repeat' (first | (with_reducible refine And.intro ?_ ?_) | (with_reducible refine far4c ?_ ?_) | (with_reducible refine far2c ?_ ?_) | (with_reducible refine cell_allocc ?_) | (with_reducible refine cell_drewc ?_))) <;> (first | (with_reducible exact t5.c0) | (with_reducible exact t5.c1) | (with_reducible exact t5.c2) | (with_reducible exact t5.c3) | (with_reducible exact t6.c0) | (with_reducible exact t6.c1) | (with_reducible exact t6.c2) | (with_reducible exact t6.c3) | omega | (simp; omega)))
      (first
        | (go_at_call 63; (first | ((with_reducible refine (HM1.out _ _ _ _ _ _ _ (C1.below (bq_d _)).a (C2.below (bq_d _)).b).mono ?_); rintro e wa ⟨p7, A7, c7, l7, rfl, E7, hb⟩; have hq := bq (bq_d _) hb; replace t3 := t3.below hq t3.lt; replace t5 := t5.below hq t5.lt; replace t6 := t6.below hq t6.lt; replace C1 := C1.below hq; replace C2 := C2.below hq; replace bel := bel.trans (hq.mono bel.size); have zzt50 := t5.lt; have zzt60 := t6.lt; clear hb hq) | ((with_reducible refine (HM1.out _ _ _ _ _ _ _ (C1.below (bq_da _ _)).a (C2.below (bq_da _ _)).b).mono ?_); rintro e wa ⟨p7, A7, c7, l7, rfl, E7, hb⟩; have tN := ((Two.new_ _ (.bool false) (.slice none 0 0) 24).drew).below hb ((Two.new_ _ (.bool false) (.slice none 0 0) 24).drew).lt; have hq := bq (bq_da _ _) hb; replace t3 := t3.below hq t3.lt; replace t5 := t5.below hq t5.lt; replace t6 := t6.below hq t6.lt; replace C1 := C1.below hq; replace C2 := C2.below hq; replace bel := bel.trans (hq.mono bel.size); have zzt50 := t5.lt; have zzt60 := t6.lt; clear hb hq)))
        | (go_at_call 63; (first | ((with_reducible refine (HM2.out _ _ _ _ _ _ _ (C2.below (bq_r _)).a (C1.below (bq_r _)).b).mono ?_); rintro e wa ⟨p8, A8, c8, l8, rfl, E8, hb⟩; have hq := bq (bq_r _) hb; replace t3 := t3.below hq t3.lt; replace t5 := t5.below hq t5.lt; replace t6 := t6.below hq t6.lt; replace C1 := C1.below hq; replace C2 := C2.below hq; replace bel := bel.trans (hq.mono bel.size); replace E7 := E7.below hq; (try replace tN := tN.below hb tN.lt); have zzt51 := t5.lt; have zzt61 := t6.lt; clear hb hq) | ((with_reducible refine (HM2.out _ _ _ _ _ _ _ (C2.below (al1 _ _)).a (C1.below (al1 _ _)).b).mono ?_); rintro e wa ⟨p8, A8, c8, l8, rfl, E8, hb⟩; have tN := ((Two.new_ _ (.bool false) (.slice none 0 0) 24)).below hb ((Two.new_ _ (.bool false) (.slice none 0 0) 24)).lt; have hq := bq (al1 _ _) hb; replace t3 := t3.below hq t3.lt; replace t5 := t5.below hq t5.lt; replace t6 := t6.below hq t6.lt; replace C1 := C1.below hq; replace C2 := C2.below hq; replace bel := bel.trans (hq.mono bel.size); replace E7 := E7.below hq; have zzt51 := t5.lt; have zzt61 := t6.lt; clear hb hq)))
        | (go_at_call 66; (first | ((with_reducible refine (HAD.out _ _ _ _ _ _ _ _ _ (E7.below (bq_r _)) (E8.below (bq_r _))).mono ?_); rintro e wa ⟨p9, A9, c9, l9, rfl, CC, hb⟩; have hq := bq (bq_r _) hb; replace t3 := t3.below hq t3.lt; replace t5 := t5.below hq t5.lt; replace t6 := t6.below hq t6.lt; replace C1 := C1.below hq; replace C2 := C2.below hq; replace bel := bel.trans (hq.mono bel.size); replace E7 := E7.below hq; replace E8 := E8.below hq; (try replace tN := tN.below hb tN.lt); have zzt52 := t5.lt; have zzt62 := t6.lt; (try have n0 := tN.c0); (try have n1 := tN.c1); (try have m0 := tN.fr 0); (try have m1 := tN.fr 1); (try have hg := tN.lt); clear hb hq) | ((with_reducible refine (HAD.out _ _ _ _ _ _ _ _ _ (E7.below (al1 _ _)) (E8.below (al1 _ _))).mono ?_); rintro e wa ⟨p9, A9, c9, l9, rfl, CC, hb⟩; have tN := ((Two.new_ _ (.bool false) (.slice none 0 0) 24)).below hb ((Two.new_ _ (.bool false) (.slice none 0 0) 24)).lt; have hq := bq (al1 _ _) hb; replace t3 := t3.below hq t3.lt; replace t5 := t5.below hq t5.lt; replace t6 := t6.below hq t6.lt; replace C1 := C1.below hq; replace C2 := C2.below hq; replace bel := bel.trans (hq.mono bel.size); replace E7 := E7.below hq; replace E8 := E8.below hq; have zzt52 := t5.lt; have zzt62 := t6.lt; (try have n0 := tN.c0); (try have n1 := tN.c1); (try have m0 := tN.fr 0); (try have m1 := tN.fr 1); (try have hg := tN.lt); clear hb hq))))
    all_goals
      go_wp2_with fail
      go_meet
      first
        | exact ⟨⟨_, _, _, _, _, rfl, by omega, Two.new_ _ _ _ _, CC.alloc _⟩, t3.alloc _, t5.alloc _, t6.alloc _, C1.alloc _, C2.alloc _, bel.alloc bel.size _⟩
        | exact ⟨⟨_, _, _, _, _, rfl, by omega, tN.put2 _ _, CC.put2 tN _ _⟩, t3.far2 (by omega) _ _, t5.far2 (by omega) _ _, t6.far2 (by omega) _ _, C1.put2 tN _ _, C2.put2 tN _ _, below_set2 bel (by omega) _ _⟩
  case rest =>
    obtain ⟨⟨g7, p7, A7, c7, l7, rfl, hg7, t7, E7⟩, t3, t5, t6, C1, C2, bel⟩ := hcut
    go_upto_region 4 with (fail)
    go_cut [8] (fun s wx => Bx (w.heap.size + 2) z (n + k + 1) s wx ∧ Four wx (w.heap.size + 2) (.bool false) (.slice none 0 0) (.bool false) (.slice none 0 0) ∧ Below w.heap.size w wx)
    case first =>
      have zz := t7.lt
      have zzt5 := t5.lt
      have zzt6 := t6.lt
      go_region_held3 (fun w' => w'.cell? ⟨g5, 0, none⟩ = some (.bool (decide (z1.num < 0))) ∧ w'.cell? ⟨g5, 1, none⟩ = some (.slice A5 l5.length c5) ∧ w'.cell? ⟨g5, 2, none⟩ = some (.bool false) ∧ w'.cell? ⟨g5, 3, none⟩ = some (.slice B5 m5.length d5) ∧ w'.cell? ⟨g6, 0, none⟩ = some (.bool (decide (z2.num < 0))) ∧ w'.cell? ⟨g6, 1, none⟩ = some (.slice A6 l6.length c6) ∧ w'.cell? ⟨g6, 2, none⟩ = some (.bool false) ∧ w'.cell? ⟨g6, 3, none⟩ = some (.slice B6 m6.length d6) ∧ w'.cell? ⟨g7, 0, none⟩ = some (.bool p7) ∧ w'.cell? ⟨g7, 1, none⟩ = some (.slice A7 l7.length c7))
        ((repeat' (first | (with_reducible refine And.intro ?_ ?_) | (with_reducible refine far4c ?_ ?_) | (with_reducible refine far2c ?_ ?_) | (with_reducible refine cell_allocc ?_) | (with_reducible refine cell_drewc ?_))) <;> (first | (with_reducible exact t5.c0) | (with_reducible exact t5.c1) | (with_reducible exact t5.c2) | (with_reducible exact t5.c3) | (with_reducible exact t6.c0) | (with_reducible exact t6.c1) | (with_reducible exact t6.c2) | (with_reducible exact t6.c3) | (with_reducible exact t7.c0) | (with_reducible exact t7.c1) | omega | (simp; omega)))
        (first
          | (go_at_call 63; (first | ((with_reducible refine (HM3.out _ _ _ _ _ _ _ (C1.below (bq_d _)).b (C2.below (bq_d _)).b).mono ?_); rintro e wa ⟨p8, A8, c8, l8, rfl, E8, hb⟩; have hq := bq (bq_d _) hb; replace t7 := t7.below hq t7.lt; replace t3 := t3.below hq t3.lt; replace t5 := t5.below hq t5.lt; replace t6 := t6.below hq t6.lt; replace E7 := E7.below hq; replace C1 := C1.below hq; replace C2 := C2.below hq; replace bel := bel.trans (hq.mono bel.size); have zzt50 := t5.lt; have zzt60 := t6.lt; have zzt70 := t7.lt; clear hb hq) | ((with_reducible refine (HM3.out _ _ _ _ _ _ _ (C1.below (bq_da _ _)).b (C2.below (bq_da _ _)).b).mono ?_); rintro e wa ⟨p8, A8, c8, l8, rfl, E8, hb⟩; have tN := ((Four.new_ _ (.bool false) (.slice none 0 0) (.bool false) (.slice none 0 0) 26).drew).below hb ((Four.new_ _ (.bool false) (.slice none 0 0) (.bool false) (.slice none 0 0) 26).drew).lt; have hq := bq (bq_da _ _) hb; replace t7 := t7.below hq t7.lt; replace t3 := t3.below hq t3.lt; replace t5 := t5.below hq t5.lt; replace t6 := t6.below hq t6.lt; replace E7 := E7.below hq; replace C1 := C1.below hq; replace C2 := C2.below hq; replace bel := bel.trans (hq.mono bel.size); have zzt50 := t5.lt; have zzt60 := t6.lt; have zzt70 := t7.lt; clear hb hq)))
          | (go_at_call 18; (first | ((with_reducible refine (HNW.out _ _ _ _ _ _ _ _ _ (E7.below (bq_r _)) (E8.below (bq_r _))).mono ?_); rintro e wa ⟨A9, c9, l9, B9, d9, m9, rfl, CC, hb⟩; have hq := bq (bq_r _) hb; replace t7 := t7.below hq t7.lt; replace t3 := t3.below hq t3.lt; replace t5 := t5.below hq t5.lt; replace t6 := t6.below hq t6.lt; replace E7 := E7.below hq; replace C1 := C1.below hq; replace C2 := C2.below hq; replace bel := bel.trans (hq.mono bel.size); replace E8 := E8.below hq; (try replace tN := tN.below hb tN.lt); have zzt51 := t5.lt; have zzt61 := t6.lt; have zzt71 := t7.lt; (try have n0 := tN.c0); (try have n1 := tN.c1); (try have m0 := tN.fr 0); (try have m1 := tN.fr 1); (try have n2 := tN.c2); (try have n3 := tN.c3); (try have m2 := tN.fr 2); (try have m3 := tN.fr 3); (try have hg := tN.lt); clear hb hq) | ((with_reducible refine (HNW.out _ _ _ _ _ _ _ _ _ (E7.below (al1 _ _)) (E8.below (al1 _ _))).mono ?_); rintro e wa ⟨A9, c9, l9, B9, d9, m9, rfl, CC, hb⟩; have tN := ((Four.new_ _ (.bool false) (.slice none 0 0) (.bool false) (.slice none 0 0) 26)).below hb ((Four.new_ _ (.bool false) (.slice none 0 0) (.bool false) (.slice none 0 0) 26)).lt; have hq := bq (al1 _ _) hb; replace t7 := t7.below hq t7.lt; replace t3 := t3.below hq t3.lt; replace t5 := t5.below hq t5.lt; replace t6 := t6.below hq t6.lt; replace E7 := E7.below hq; replace C1 := C1.below hq; replace C2 := C2.below hq; replace bel := bel.trans (hq.mono bel.size); replace E8 := E8.below hq; have zzt51 := t5.lt; have zzt61 := t6.lt; have zzt71 := t7.lt; (try have n0 := tN.c0); (try have n1 := tN.c1); (try have m0 := tN.fr 0); (try have m1 := tN.fr 1); (try have n2 := tN.c2); (try have n3 := tN.c3); (try have m2 := tN.fr 2); (try have m3 := tN.fr 3); (try have hg := tN.lt); clear hb hq))))
      all_goals
        go_wp2_with fail
        go_meet
        first
          | exact ⟨⟨_, _, _, _, _, _, _, rfl, by omega, Four.new_ _ _ _ _ _ _, CC.alloc _⟩, t3.alloc _, bel.alloc bel.size _⟩
          | exact ⟨⟨_, _, _, _, _, _, _, rfl, by omega, tN.put _ _ _ _, CC.put4 tN _ _ _ _⟩, t3.far4 (by omega) _ _ _ _, below_set4 bel (by omega) _ _ _ _⟩
    case rest =>
      obtain ⟨⟨g9, A9, c9, l9, B9, d9, m9, rfl, hg9, t9, C9⟩, t3, bel⟩ := hcut
      have e0 := t9.c0
      have e1 := t9.c1
      have e2 := t9.c2
      have e3 := t9.c3
      have d0 := t3.c0
      have d1 := t3.c1
      have d2 := t3.c2
      have d3 := t3.c3
      have f0 := t3.fr 0
      have f1 := t3.fr 1
      have f2 := t3.fr 2
      have f3 := t3.fr 3
      have R := Lib.hid (t3.put (.bool (decide (z.num < 0))) (.slice A9 l9.length c9) (.bool false) (.slice B9 m9.length d9))
      have CR := Lib.hid (C9.put4 t3 (.bool (decide (z.num < 0))) (.slice A9 l9.length c9) (.bool false) (.slice B9 m9.length d9))
      have BL := Lib.hid (below_set4 bel (b := w.heap.size + 2) (by omega) (.bool (decide (z.num < 0))) (.slice A9 l9.length c9) (.bool false) (.slice B9 m9.length d9))
      clear t9 t3 C9 bel
      go_wp2_with fail
      have r0 := R.out.c0
      have r1 := R.out.c1
      have r2 := R.out.c2
      have r3 := R.out.c3
      unfold set4 at r0 r1 r2 r3
      refine bodyPost_ret (v := .agg #[.bool (decide (z.num < 0)), .slice A9 l9.length c9, .bool false, .slice B9 m9.length d9]) (by simp [results, Tryz.results24, go_sem, r0, r1, r2, r3]) rfl ?_
      exact ⟨A9, c9, l9, B9, d9, m9, rfl, CR.out, BL.out⟩
end Go.Proofs.YtpfaddgcfacgdaaGreatDoor
