/- My texts, packed: Rd, Re, Rf, Ri, Rj, Rk, Rl, P1, Tx, P0, P2, P3, R2, Rg. -/
import Derived.Test.YtkpomjdablopaaaGreatDoorZ10
import Derived.Test.YtkpomjdablopaaaGreatDoorZ3
import Derived.Lib.SmallJoins
import Derived.Lib.ItoaMem
import Derived.Lib.SlTrimSet
import Derived.Shelf.Strings.SlTrimAscii
import Derived.Test.YtkpomjdablopaaaGreatDoorZ1
import Derived.Laws.IdiomStrings
import Derived.Shelf.Strconv.AtoiAll
/- Walks of package rational: reduced. -/
namespace Go.Proofs.YtkpomjdablopaaaGreatDoor
open Go.RowKit
set_option linter.unusedVariables false

/-- the world behind a store into a fraction's box -/
def set4 (w : World) (b : Nat) (x y u v : Value) : World := (((w.setCell ⟨b, 0, none⟩ x).setCell ⟨b, 1, none⟩ y).setCell ⟨b, 2, none⟩ u).setCell ⟨b, 3, none⟩ v
theorem Four.put {w : World} {b : Nat} {x y u v : Value} (h : Four w b x y u v) (x' y' u' v' : Value) : Four (set4 w b x' y' u' v') b x' y' u' v' := by
  obtain ⟨T, h⟩ := h.blk
  exact ⟨T, by simp [set4, World.setCell, Array.getElem?_modify, h]⟩
theorem below_set4 {B : Nat} {w wr : World} {b : Nat} (h : Below B w wr) (hb : B ≤ b) (x y u v : Value) : Below B w (set4 wr b x y u v) :=
  (((h.setCell (p := ⟨b, 0, none⟩) hb _).setCell (p := ⟨b, 1, none⟩) hb _).setCell (p := ⟨b, 2, none⟩) hb _).setCell (p := ⟨b, 3, none⟩) hb _
theorem Two.far4 {w : World} {b g : Nat} {x y : Value} (h : Two w b x y) (hb : b ≠ g) (x' y' u' v' : Value) : Two (set4 w g x' y' u' v') b x y :=
  (((h.far (p := ⟨g, 0, none⟩) hb _).far (p := ⟨g, 1, none⟩) hb _).far (p := ⟨g, 2, none⟩) hb _).far (p := ⟨g, 3, none⟩) hb _
theorem set4_size (w : World) (b : Nat) (x y u v : Value) : (set4 w b x y u v).heap.size = w.heap.size := by simp [set4, World.setCell]
theorem Four.apart {w : World} {b : Nat} {p q : Bool} {A B : Option Addr} {n c m d : Nat} (ht : Four w b (.bool p) (.slice A n c) (.bool q) (.slice B m d)) {g k : Nat} {x : Nat} (h : w.cell? ⟨g, k, none⟩ = some (.int .u32 (x : Int))) : g ≠ b := by
  rintro rfl
  obtain ⟨T, hb⟩ := ht.blk
  rw [cell_of_row w g k _ _ _ hb] at h
  rcases k with _ | _ | _ | _ | k
  · cases h
  · cases h
  · cases h
  · cases h
  · simp at h
theorem Sl.put4 {w : World} {B : Nat} {A : Option Addr} {c : Nat} {ws : List Nat} (h : Sl w B A c ws) {b : Nat} {p q : Bool} {A' B' : Option Addr} {n' c' m' d' : Nat} (ht : Four w b (.bool p) (.slice A' n' c') (.bool q) (.slice B' m' d')) (x y u v : Value) :
    Sl (set4 w b x y u v) B A c ws := by
  refine ⟨⟨⟨fun hn => ?_⟩⟩, h.wd, h.cap, h.nil0⟩
  obtain ⟨g, off, e, hb, hc⟩ := h.nums.row.cells hn
  refine ⟨g, off, e, hb, fun k u' hu => ?_⟩
  have hk := hc k u' hu
  obtain ⟨x, hx⟩ : ∃ x : Nat, u' = .int .u32 (x : Int) := by
    rw [List.getElem?_map] at hu
    cases hh : ws[k]? with
    | none => rw [hh] at hu; cases hu
    | some y => rw [hh] at hu; exact ⟨y, by injection hu with hu; exact hu.symm⟩
  subst hx
  have hne := ht.apart hk
  unfold set4
  rw [World.cell?_setCell_other _ _ _ _ (fun e => hne (Addr.mk.inj e).1.symm), World.cell?_setCell_other _ _ _ _ (fun e => hne (Addr.mk.inj e).1.symm), World.cell?_setCell_other _ _ _ _ (fun e => hne (Addr.mk.inj e).1.symm), World.cell?_setCell_other _ _ _ _ (fun e => hne (Addr.mk.inj e).1.symm)]
  exact hk
theorem Cn.put4 {W : World} {p : Bool} {A : Option Addr} {c : Nat} {l : List Nat} {x : Int} {n b : Nat} {p' q' : Bool} {A' B' : Option Addr} {n' c' m' d' : Nat} (h : Cn W p A c l x n) (t : Four W b (.bool p') (.slice A' n' c') (.bool q') (.slice B' m' d')) (x' y' u' v' : Value) : Cn (set4 W b x' y' u' v') p A c l x n :=
  ⟨⟨(h.iv.sl.put4 t _ _ _ _).more (by rw [set4_size]; exact Nat.le_refl _), h.iv.val, h.iv.len⟩, h.can⟩
theorem Cr.put4 {W : World} {A : Option Addr} {c : Nat} {l : List Nat} {B : Option Addr} {d : Nat} {m : List Nat} {z : Rat} {n b : Nat} {p' q' : Bool} {A' B' : Option Addr} {n' c' m' d' : Nat} (h : Cr W A c l B d m z n) (t : Four W b (.bool p') (.slice A' n' c') (.bool q') (.slice B' m' d')) (x' y' u' v' : Value) : Cr (set4 W b x' y' u' v') A c l B d m z n :=
  ⟨h.a.put4 t _ _ _ _, h.b.put4 t _ _ _ _⟩
/-- the world of a function of two integers that makes a fraction -/
structure Re (w wr : World) (p : Bool) (A : Option Addr) (n c : Nat) (q : Bool) (B : Option Addr) (m d : Nat) : Prop where
  t1 : Two wr w.heap.size (.bool p) (.slice A n c)
  t2 : Two wr (w.heap.size + 1) (.bool q) (.slice B m d)
  t3 : Four wr (w.heap.size + 2) (.bool false) (.slice none 0 0) (.bool false) (.slice none 0 0)
  bel : Below w.heap.size w wr
section
variable {w wr wx : World} {p q : Bool} {A B : Option Addr} {n m c d : Nat}
theorem Re.below (h : Re w wr p A n c q B m d) (hb : Below wr.heap.size wr wx) : Re w wx p A n c q B m d := ⟨h.t1.below hb h.t1.lt, h.t2.below hb h.t2.lt, h.t3.below hb h.t3.lt, h.bel.trans (hb.mono h.bel.size)⟩
theorem Re.drew (h : Re w wr p A n c q B m d) : Re w wr.drew p A n c q B m d := ⟨h.t1.drew, h.t2.drew, h.t3.drew, bDrew1 h.bel⟩
theorem Re.new_ (w : World) (p : Bool) (A : Option Addr) (n c : Nat) (q : Bool) (B : Option Addr) (m d : Nat) (T U : TypeId) :
    Re w (((w.alloc (.cells #[.bool p, .slice A n c] T)).alloc (.cells #[.bool q, .slice B m d] T)).alloc (.cells #[.bool false, .slice none 0 0, .bool false, .slice none 0 0] U)) p A n c q B m d :=
  ⟨((Two.new_ _ _ _ _).alloc _).alloc _, by simpa using (Two.new_ (w.alloc (.cells #[.bool p, .slice A n c] T)) (.bool q) (.slice B m d) T).alloc (.cells #[.bool false, .slice none 0 0, .bool false, .slice none 0 0] U),
    by simpa using Four.new_ ((w.alloc (.cells #[.bool p, .slice A n c] T)).alloc (.cells #[.bool q, .slice B m d] T)) (.bool false) (.slice none 0 0) (.bool false) (.slice none 0 0) U,
    (((Below.refl _ _).alloc (Nat.le_refl _) _).alloc (by simp) _).alloc (by simp; omega) _⟩
end

set_option maxRecDepth 100000 in
set_option maxHeartbeats 2000000 in
theorem greduced {x y : Int} {n : Nat} {p : Bool} {A : Option Addr} {c : Nat} {l : List Nat} {q : Bool} {B : Option Addr} {d : Nat} {m : List Nat} {w : World} (h1 : Iv w p A c l x n) (h2 : Iv w q B d m y n) (hy : 0 < y) (hn : n ≤ 100) :
    Calls Tryz.prog 48 #[.agg #[.bool p, .slice A l.length c], .agg #[.bool q, .slice B m.length d]] w (GR (Rat.divInt x y) n w) := by
  obtain ⟨z, hz⟩ : ∃ z, z = Rat.divInt x y := ⟨_, rfl⟩
  rw [← hz]
  obtain ⟨G, hG⟩ : ∃ G : Int, G = (Nat.gcd x.natAbs y.natAbs : Int) := ⟨_, rfl⟩
  have hpar := rq_parts (n := x) hy
  rw [← hz, ← hG] at hpar
  have hG0 : G ≠ 0 := by
    have : 0 < Nat.gcd x.natAbs y.natAbs := Nat.gcd_pos_of_pos_right _ (by omega)
    omega
  have HG := Lib.hid (fun (W : World) (h1 : Iv W p A c l x n) (h2 : Iv W q B d m y n) => (by have h := ggcd h1 h2 hn hn; rw [← hG, Nat.max_self] at h; exact h : Calls Tryz.prog 84 #[.agg #[.bool p, .slice A l.length c], .agg #[.bool q, .slice B m.length d]] W (GI G n W)))
  have HQ1 := Lib.hid (fun (W : World) (p5 : Bool) (A5 : Option Addr) (c5 : Nat) (l5 : List Nat) (h : Iv W p A c l x n) (h5 : Cn W p5 A5 c5 l5 G n) => (by have h := gquot h h5.iv hG0 hn hn; rw [← hpar.1] at h; exact h : Calls Tryz.prog 85 #[.agg #[.bool p, .slice A l.length c], .agg #[.bool p5, .slice A5 l5.length c5]] W (GI z.num n W)))
  have HQ2 := Lib.hid (fun (W : World) (p5 : Bool) (A5 : Option Addr) (c5 : Nat) (l5 : List Nat) (h : Iv W q B d m y n) (h5 : Cn W p5 A5 c5 l5 G n) => (by have h := gquot h h5.iv hG0 hn hn; rw [← hpar.2] at h; exact h : Calls Tryz.prog 85 #[.agg #[.bool q, .slice B m.length d], .agg #[.bool p5, .slice A5 l5.length c5]] W (GI (z.den : Int) n W)))
  clear hz hG hpar hG0 hy hn
  go_enter Tryz.func48, Tryz.ntmps48
  go_wp2_with fail
  have i := Re.new_ w p A l.length c q B m.length d 24 26
  revert i
  generalize ((w.alloc (.cells #[.bool p, .slice A l.length c] 24)).alloc (.cells #[.bool q, .slice B m.length d] 24)).alloc (.cells #[.bool false, .slice none 0 0, .bool false, .slice none 0 0] 26) = wx
  intro i
  have X := h1.below i.bel
  have Y := h2.below i.bel
  have c10 := i.t1.c0
  have c11 := i.t1.c1
  have c20 := i.t2.c0
  have c21 := i.t2.c1
  go_wp2_with fail
  refine (HG.out _ X Y).mono ?_
  rintro e w2 ⟨p5, A5, c5, l5, rfl, C5, hb⟩
  replace i := i.below hb
  replace X := X.below hb
  replace Y := Y.below hb
  clear c10 c11 c20 c21 hb
  go_wp2_with fail
  have hgt : w.heap.size + 2 < w2.heap.size := i.t3.lt
  have t5 := Two.new_ w2 (.bool p5) (.slice A5 l5.length c5) 24
  replace C5 := C5.alloc (.cells #[.bool p5, .slice A5 l5.length c5] 24)
  replace i := i.below (al1 w2 (.cells #[.bool p5, .slice A5 l5.length c5] 24))
  replace X := X.below (al1 w2 (.cells #[.bool p5, .slice A5 l5.length c5] 24))
  replace Y := Y.below (al1 w2 (.cells #[.bool p5, .slice A5 l5.length c5] 24))
  revert i X Y C5 t5 hgt
  generalize w2.alloc (.cells #[.bool p5, .slice A5 l5.length c5] 24) = w3
  generalize w2.heap.size = g
  intro hgt t5 C5 i X Y
  replace i := i.drew
  replace X := X.drew
  replace Y := Y.drew
  replace C5 := C5.drew
  replace t5 := t5.drew
  have HGT := Lib.hid hgt
  clear hgt
  go_region_held3 (fun w' => w'.cell? ⟨w.heap.size, 0, none⟩ = some (.bool p) ∧ w'.cell? ⟨w.heap.size, 1, none⟩ = some (.slice A l.length c) ∧ w'.cell? ⟨w.heap.size + 1, 0, none⟩ = some (.bool q) ∧ w'.cell? ⟨w.heap.size + 1, 1, none⟩ = some (.slice B m.length d) ∧ w'.cell? ⟨g, 0, none⟩ = some (.bool p5) ∧ w'.cell? ⟨g, 1, none⟩ = some (.slice A5 l5.length c5))
    (first | with_reducible exact ⟨i.t1.c0, i.t1.c1, i.t2.c0, i.t2.c1, t5.c0, t5.c1⟩ | exact ⟨P1.out.c0, P1.out.c1, P2.out.c0, P2.out.c1, P5.out.c0, P5.out.c1⟩)
    (first
      | (go_at_call 85; (with_reducible refine (HQ1.out _ _ _ _ _ X C5).mono ?_); rintro e w5 ⟨p3, A3, c3, l3, rfl, C3, hb⟩; replace i := i.below hb; replace X := X.below hb; replace Y := Y.below hb; replace C5 := C5.below hb; replace t5 := t5.below hb t5.lt; clear hb; obtain rfl : p3 = decide (z.num < 0) := C3.can.1)
      | (go_at_call 85; (with_reducible refine (HQ2.out _ _ _ _ _ Y C5).mono ?_); rintro e w6 ⟨p4, A4, c4, l4, rfl, C4, hb⟩; replace i := i.below hb; replace C3 := C3.below hb; replace t5 := t5.below hb t5.lt; clear hb X Y C5
         obtain rfl : p4 = false := by rw [C4.can.1]; exact decide_eq_false (by have := rq_den_pos z; omega)
         have d0 := i.t3.c0
         have d1 := i.t3.c1
         have d2 := i.t3.c2
         have d3 := i.t3.c3
         have f0 := i.t3.fr 0
         have f1 := i.t3.fr 1
         have f2 := i.t3.fr 2
         have f3 := i.t3.fr 3
         have P1 := Lib.hid (i.t1.far4 (g := w.heap.size + 2) (by omega) (.bool (decide (z.num < 0))) (.slice A3 l3.length c3) (.bool false) (.slice A4 l4.length c4))
         have P2 := Lib.hid (i.t2.far4 (g := w.heap.size + 2) (by omega) (.bool (decide (z.num < 0))) (.slice A3 l3.length c3) (.bool false) (.slice A4 l4.length c4))
         have P5 := Lib.hid (t5.far4 (g := w.heap.size + 2) (by have := HGT.out; omega) (.bool (decide (z.num < 0))) (.slice A3 l3.length c3) (.bool false) (.slice A4 l4.length c4))
         have R := Lib.hid (i.t3.put (.bool (decide (z.num < 0))) (.slice A3 l3.length c3) (.bool false) (.slice A4 l4.length c4))
         have CR := Lib.hid ((⟨C3, C4⟩ : Cr w6 A3 c3 l3 A4 c4 l4 z n).put4 i.t3 (.bool (decide (z.num < 0))) (.slice A3 l3.length c3) (.bool false) (.slice A4 l4.length c4))
         have BL := Lib.hid (below_set4 i.bel (b := w.heap.size + 2) (by omega) (.bool (decide (z.num < 0))) (.slice A3 l3.length c3) (.bool false) (.slice A4 l4.length c4))))
  go_wp2_with fail
  have r0 := R.out.c0
  have r1 := R.out.c1
  have r2 := R.out.c2
  have r3 := R.out.c3
  unfold set4 at r0 r1 r2 r3
  refine bodyPost_ret (v := .agg #[.bool (decide (z.num < 0)), .slice A3 l3.length c3, .bool false, .slice A4 l4.length c4]) (by simp [results, Tryz.results48, go_sem, r0, r1, r2, r3]) rfl ?_
  exact ⟨A3, c3, l3, A4, c4, l4, rfl, CR.out, BL.out⟩
end Go.Proofs.YtkpomjdablopaaaGreatDoor
/- Walks of package rational: Clean, New. -/
namespace Go.Proofs.YtkpomjdablopaaaGreatDoor
open Go.RowKit
set_option linter.unusedVariables false

/-- the world of a function of one fraction that makes a fraction -/
structure Rx (w wr : World) (p : Bool) (A : Option Addr) (n c : Nat) (q : Bool) (B : Option Addr) (m d : Nat) : Prop where
  t1 : Four wr w.heap.size (.bool p) (.slice A n c) (.bool q) (.slice B m d)
  t3 : Four wr (w.heap.size + 1) (.bool false) (.slice none 0 0) (.bool false) (.slice none 0 0)
  bel : Below w.heap.size w wr
section
variable {w wr wx : World} {p q : Bool} {A B : Option Addr} {n m c d : Nat}
theorem Rx.below (h : Rx w wr p A n c q B m d) (hb : Below wr.heap.size wr wx) : Rx w wx p A n c q B m d := ⟨h.t1.below hb h.t1.lt, h.t3.below hb h.t3.lt, h.bel.trans (hb.mono h.bel.size)⟩
theorem Rx.drew (h : Rx w wr p A n c q B m d) : Rx w wr.drew p A n c q B m d := ⟨h.t1.drew, h.t3.drew, bDrew1 h.bel⟩
theorem Rx.new_ (w : World) (p : Bool) (A : Option Addr) (n c : Nat) (q : Bool) (B : Option Addr) (m d : Nat) (U : TypeId) :
    Rx w ((w.alloc (.cells #[.bool p, .slice A n c, .bool q, .slice B m d] U)).alloc (.cells #[.bool false, .slice none 0 0, .bool false, .slice none 0 0] U)) p A n c q B m d :=
  ⟨(Four.new_ _ _ _ _ _ _).alloc _, by simpa using Four.new_ (w.alloc (.cells #[.bool p, .slice A n c, .bool q, .slice B m d] U)) (.bool false) (.slice none 0 0) (.bool false) (.slice none 0 0) U,
    ((Below.refl _ _).alloc (Nat.le_refl _) _).alloc (by simp) _⟩
end

set_option maxRecDepth 100000 in
set_option maxHeartbeats 2000000 in
theorem grcl {x y : Int} {n : Nat} {p : Bool} {A : Option Addr} {c : Nat} {l : List Nat} {q : Bool} {B : Option Addr} {d : Nat} {m : List Nat} {w : World} (h1 : Iv w p A c l x n) (h2 : Iv w q B d m y n) (hn : n ≤ 100) (hn1 : 1 ≤ n) :
    Calls Tryz.prog 21 #[ratV p A l.length c q B m.length d] w (GR (Rat.divInt x y) n w) := by
  obtain ⟨z, hz⟩ : ∃ z, z = Rat.divInt x y := ⟨_, rfl⟩
  rw [← hz]
  have HR := Lib.hid (fun (W : World) (h1 : Iv W p A c l x n) (h2 : Iv W q B d m y n) => (by have h := gratio h1 h2 hn hn1; rw [← hz] at h; exact h : Calls Tryz.prog 39 #[.agg #[.bool p, .slice A l.length c, .bool q, .slice B m.length d]] W (Ra z n W)))
  have HN := Lib.hid hn
  clear hz hn hn1
  unfold ratV
  go_enter Tryz.func21, Tryz.ntmps21
  go_wp2_with fail
  have i := Rx.new_ w p A l.length c q B m.length d 26
  revert i
  generalize (w.alloc (.cells #[.bool p, .slice A l.length c, .bool q, .slice B m.length d] 26)).alloc (.cells #[.bool false, .slice none 0 0, .bool false, .slice none 0 0] 26) = wx
  intro i
  have X := h1.below i.bel
  have Y := h2.below i.bel
  have c0 := i.t1.c0
  have c1 := i.t1.c1
  have c2 := i.t1.c2
  have c3 := i.t1.c3
  go_wp2_with fail
  refine (HR.out _ X Y).mono ?_
  rintro e w2 ⟨p1, A1, c1', l1, q1, B1, d1, m1, x1, y1, rfl, X1, Y1, h0, hz, hb⟩
  replace i := i.below hb
  have H0 := Lib.hid h0
  have HZ := Lib.hid hz
  clear c0 c1 c2 c3 X Y hb h0 hz
  go_wp2_with fail
  refine (greduced X1 Y1 H0.out HN.out).mono ?_
  rw [HZ.out]
  rintro e w6 ⟨A3, c3, l3, A4, c4, l4, rfl, C3, hb⟩
  replace i := i.below hb
  clear X1 Y1 hb
  have d0 := i.t3.c0
  have d1 := i.t3.c1
  have d2 := i.t3.c2
  have d3 := i.t3.c3
  have f0 := i.t3.fr 0
  have f1 := i.t3.fr 1
  have f2 := i.t3.fr 2
  have f3 := i.t3.fr 3
  have R := Lib.hid (i.t3.put (.bool (decide (z.num < 0))) (.slice A3 l3.length c3) (.bool false) (.slice A4 l4.length c4))
  have CR := Lib.hid (C3.put4 i.t3 (.bool (decide (z.num < 0))) (.slice A3 l3.length c3) (.bool false) (.slice A4 l4.length c4))
  have BL := Lib.hid (below_set4 i.bel (b := w.heap.size + 1) (by omega) (.bool (decide (z.num < 0))) (.slice A3 l3.length c3) (.bool false) (.slice A4 l4.length c4))
  clear C3 i
  go_wp2_with fail
  have r0 := R.out.c0
  have r1 := R.out.c1
  have r2 := R.out.c2
  have r3 := R.out.c3
  unfold set4 at r0 r1 r2 r3
  refine bodyPost_ret (v := .agg #[.bool (decide (z.num < 0)), .slice A3 l3.length c3, .bool false, .slice A4 l4.length c4]) (by simp [results, Tryz.results21, go_sem, r0, r1, r2, r3]) rfl ?_
  exact ⟨A3, c3, l3, A4, c4, l4, rfl, CR.out, BL.out⟩
end Go.Proofs.YtkpomjdablopaaaGreatDoor
/- Walks of package rational: New. -/
namespace Go.Proofs.YtkpomjdablopaaaGreatDoor
open Go.RowKit
set_option linter.unusedVariables false

set_option maxRecDepth 100000 in
set_option maxHeartbeats 2000000 in
theorem gnew {x y : Int} {n : Nat} {p : Bool} {A : Option Addr} {c : Nat} {l : List Nat} {q : Bool} {B : Option Addr} {d : Nat} {m : List Nat} {w : World} (h1 : Iv w p A c l x n) (h2 : Iv w q B d m y n) (hy : y ≠ 0) (hn : n ≤ 100) (hn1 : 1 ≤ n) :
    Calls Tryz.prog 29 #[.agg #[.bool p, .slice A l.length c], .agg #[.bool q, .slice B m.length d]] w (GRc (Rat.divInt x y) n w) := by
  obtain ⟨z, hz⟩ : ∃ z, z = Rat.divInt x y := ⟨_, rfl⟩
  rw [← hz]
  obtain ⟨s, hs⟩ : ∃ s : Int, s = y.sign := ⟨_, rfl⟩
  have gs : (s == 0) = false := by rw [beq_eq_false_iff_ne, hs]; exact fun e => hy (Int.sign_eq_zero_iff_zero.1 e)
  have HS := Lib.hid (fun (W : World) (h : Iv W q B d m y n) => (by have h := gsign h (by omega); rw [← hs] at h; exact h : Calls Tryz.prog 51 #[.agg #[.bool q, .slice B m.length d]] W fun e w' => e = .returned (.int .i64 s) ∧ Below W.heap.size W w'))
  have HC := Lib.hid (fun (W : World) (h1 : Iv W p A c l x n) (h2 : Iv W q B d m y n) => (by have h := grcl h1 h2 hn hn1; rw [← hz] at h; exact h : Calls Tryz.prog 21 #[.agg #[.bool p, .slice A l.length c, .bool q, .slice B m.length d]] W (GR z n W)))
  clear hz hs hn hn1 hy
  go_enter Tryz.func29, Tryz.ntmps29
  go_wp2_with fail
  have i := Re.new_ w p A l.length c q B m.length d 24 26
  revert i
  generalize ((w.alloc (.cells #[.bool p, .slice A l.length c] 24)).alloc (.cells #[.bool q, .slice B m.length d] 24)).alloc (.cells #[.bool false, .slice none 0 0, .bool false, .slice none 0 0] 26) = wx
  intro i
  have X := h1.below i.bel
  have Y := h2.below i.bel
  have c20 := i.t2.c0
  have c21 := i.t2.c1
  go_wp2_with fail
  refine (HS.out _ Y).mono ?_
  rintro e w2 ⟨rfl, hb⟩
  replace i := i.below hb
  replace X := X.below hb
  replace Y := Y.below hb
  clear c20 c21 hb
  have c10 := i.t1.c0
  have c11 := i.t1.c1
  have c20 := i.t2.c0
  have c21 := i.t2.c1
  go_wp2_with fail
  refine (HC.out _ X Y).mono ?_
  rintro e w6 ⟨A3, c3, l3, A4, c4, l4, rfl, C3, hb⟩
  replace i := i.below hb
  clear X Y hb c10 c11 c20 c21
  have d0 := i.t3.c0
  have d1 := i.t3.c1
  have d2 := i.t3.c2
  have d3 := i.t3.c3
  have f0 := i.t3.fr 0
  have f1 := i.t3.fr 1
  have f2 := i.t3.fr 2
  have f3 := i.t3.fr 3
  have R := Lib.hid (i.t3.put (.bool (decide (z.num < 0))) (.slice A3 l3.length c3) (.bool false) (.slice A4 l4.length c4))
  have CR := Lib.hid (C3.put4 i.t3 (.bool (decide (z.num < 0))) (.slice A3 l3.length c3) (.bool false) (.slice A4 l4.length c4))
  have BL := Lib.hid (below_set4 i.bel (b := w.heap.size + 2) (by omega) (.bool (decide (z.num < 0))) (.slice A3 l3.length c3) (.bool false) (.slice A4 l4.length c4))
  clear C3 i
  go_wp2_with fail
  have r0 := R.out.c0
  have r1 := R.out.c1
  have r2 := R.out.c2
  have r3 := R.out.c3
  unfold set4 at r0 r1 r2 r3
  refine bodyPost_ret (v := .tuple #[.agg #[.bool (decide (z.num < 0)), .slice A3 l3.length c3, .bool false, .slice A4 l4.length c4], .int .i64 0]) (by simp [results, Tryz.results29, go_sem, r0, r1, r2, r3]) rfl ?_
  exact ⟨A3, c3, l3, A4, c4, l4, rfl, CR.out, BL.out⟩

set_option maxRecDepth 100000 in
set_option maxHeartbeats 2000000 in
theorem gnew0 {n : Nat} {p : Bool} {A : Option Addr} {c : Nat} {l : List Nat} {q : Bool} {B : Option Addr} {d : Nat} {m : List Nat} {w : World} (h2 : Iv w q B d m 0 n) (hn : n ≤ 100) :
    Calls Tryz.prog 29 #[.agg #[.bool p, .slice A l.length c], .agg #[.bool q, .slice B m.length d]] w fun e w' => e = .returned (.tuple #[ratV false none 0 0 false none 0 0, .int .i64 3]) ∧ Below w.heap.size w w' := by
  have HS := Lib.hid (fun (W : World) (h : Iv W q B d m 0 n) => (by have h := gsign h (by omega); exact h : Calls Tryz.prog 51 #[.agg #[.bool q, .slice B m.length d]] W fun e w' => e = .returned (.int .i64 0) ∧ Below W.heap.size W w'))
  clear hn
  unfold ratV
  go_enter Tryz.func29, Tryz.ntmps29
  go_wp2_with fail
  have i := Re.new_ w p A l.length c q B m.length d 24 26
  revert i
  generalize ((w.alloc (.cells #[.bool p, .slice A l.length c] 24)).alloc (.cells #[.bool q, .slice B m.length d] 24)).alloc (.cells #[.bool false, .slice none 0 0, .bool false, .slice none 0 0] 26) = wx
  intro i
  have Y := h2.below i.bel
  have c20 := i.t2.c0
  have c21 := i.t2.c1
  go_wp2_with fail
  refine (HS.out _ Y).mono ?_
  rintro e w2 ⟨rfl, hb⟩
  replace i := i.below hb
  clear c20 c21 hb Y
  have d0 := i.t3.c0
  have d1 := i.t3.c1
  have d2 := i.t3.c2
  have d3 := i.t3.c3
  have f0 := i.t3.fr 0
  have f1 := i.t3.fr 1
  have f2 := i.t3.fr 2
  have f3 := i.t3.fr 3
  have R := Lib.hid (i.t3.put (.bool false) (.slice none 0 0) (.bool false) (.slice none 0 0))
  have BL := Lib.hid (below_set4 i.bel (b := w.heap.size + 2) (by omega) (.bool false) (.slice none 0 0) (.bool false) (.slice none 0 0))
  clear i
  go_wp2_with fail
  have r0 := R.out.c0
  have r1 := R.out.c1
  have r2 := R.out.c2
  have r3 := R.out.c3
  unfold set4 at r0 r1 r2 r3
  refine bodyPost_ret (v := .tuple #[.agg #[.bool false, .slice none 0 0, .bool false, .slice none 0 0], .int .i64 3]) (by simp [results, Tryz.results29, go_sem, r0, r1, r2, r3]) rfl ?_
  exact ⟨rfl, BL.out⟩
end Go.Proofs.YtkpomjdablopaaaGreatDoor
/- Walks of package rational: Neg. -/
namespace Go.Proofs.YtkpomjdablopaaaGreatDoor
open Go.RowKit
set_option linter.unusedVariables false

end Go.Proofs.YtkpomjdablopaaaGreatDoor
/- Walks of package rational: Mul. -/
namespace Go.Proofs.YtkpomjdablopaaaGreatDoor
open Go.RowKit
set_option linter.unusedVariables false

/-- the world of a function of two fractions that makes a fraction -/
structure Rw (w wr : World) (p : Bool) (A : Option Addr) (n c : Nat) (q : Bool) (B : Option Addr) (m d : Nat) (p' : Bool) (A' : Option Addr) (n' c' : Nat) (q' : Bool) (B' : Option Addr) (m' d' : Nat) : Prop where
  t1 : Four wr w.heap.size (.bool p) (.slice A n c) (.bool q) (.slice B m d)
  t2 : Four wr (w.heap.size + 1) (.bool p') (.slice A' n' c') (.bool q') (.slice B' m' d')
  t3 : Four wr (w.heap.size + 2) (.bool false) (.slice none 0 0) (.bool false) (.slice none 0 0)
  bel : Below w.heap.size w wr
section
variable {w wr wx : World} {p q p' q' : Bool} {A B A' B' : Option Addr} {n m c d n' m' c' d' : Nat}
theorem Rw.below (h : Rw w wr p A n c q B m d p' A' n' c' q' B' m' d') (hb : Below wr.heap.size wr wx) : Rw w wx p A n c q B m d p' A' n' c' q' B' m' d' := ⟨h.t1.below hb h.t1.lt, h.t2.below hb h.t2.lt, h.t3.below hb h.t3.lt, h.bel.trans (hb.mono h.bel.size)⟩
theorem Rw.drew (h : Rw w wr p A n c q B m d p' A' n' c' q' B' m' d') : Rw w wr.drew p A n c q B m d p' A' n' c' q' B' m' d' := ⟨h.t1.drew, h.t2.drew, h.t3.drew, bDrew1 h.bel⟩
theorem Rw.new_ (w : World) (p : Bool) (A : Option Addr) (n c : Nat) (q : Bool) (B : Option Addr) (m d : Nat) (p' : Bool) (A' : Option Addr) (n' c' : Nat) (q' : Bool) (B' : Option Addr) (m' d' : Nat) (U : TypeId) :
    Rw w (((w.alloc (.cells #[.bool p, .slice A n c, .bool q, .slice B m d] U)).alloc (.cells #[.bool p', .slice A' n' c', .bool q', .slice B' m' d'] U)).alloc (.cells #[.bool false, .slice none 0 0, .bool false, .slice none 0 0] U)) p A n c q B m d p' A' n' c' q' B' m' d' :=
  ⟨((Four.new_ _ _ _ _ _ _).alloc _).alloc _, by simpa using (Four.new_ (w.alloc (.cells #[.bool p, .slice A n c, .bool q, .slice B m d] U)) (.bool p') (.slice A' n' c') (.bool q') (.slice B' m' d') U).alloc (.cells #[.bool false, .slice none 0 0, .bool false, .slice none 0 0] U),
    by simpa using Four.new_ ((w.alloc (.cells #[.bool p, .slice A n c, .bool q, .slice B m d] U)).alloc (.cells #[.bool p', .slice A' n' c', .bool q', .slice B' m' d'] U)) (.bool false) (.slice none 0 0) (.bool false) (.slice none 0 0) U,
    (((Below.refl _ _).alloc (Nat.le_refl _) _).alloc (by simp) _).alloc (by simp; omega) _⟩
end
/-- two boxes side by side, behind ratio -/
structure Pr (w0 W : World) (g : Nat) (p : Bool) (A : Option Addr) (c : Nat) (l : List Nat) (q : Bool) (B : Option Addr) (d : Nat) (m : List Nat) (x y : Int) (n : Nat) : Prop where
  t : Two W g (.bool p) (.slice A l.length c)
  u : Two W (g + 1) (.bool q) (.slice B m.length d)
  x : Iv W p A c l x n
  y : Iv W q B d m y n
  hg : w0.heap.size + 2 < g
section
variable {w0 W W' : World} {g : Nat} {p q : Bool} {A B : Option Addr} {c d n : Nat} {l m : List Nat} {x y : Int}
theorem Pr.below (h : Pr w0 W g p A c l q B d m x y n) (hb : Below W.heap.size W W') : Pr w0 W' g p A c l q B d m x y n := ⟨h.t.below hb h.t.lt, h.u.below hb h.u.lt, h.x.below hb, h.y.below hb, h.hg⟩
theorem Pr.drew (h : Pr w0 W g p A c l q B d m x y n) : Pr w0 W.drew g p A c l q B d m x y n := ⟨h.t.drew, h.u.drew, h.x.drew, h.y.drew, h.hg⟩
theorem pr_below (W : World) (p : Bool) (A : Option Addr) (n c : Nat) (q : Bool) (B : Option Addr) (m d : Nat) (T : TypeId) : Below W.heap.size W ((W.alloc (.cells #[.bool p, .slice A n c] T)).alloc (.cells #[.bool q, .slice B m d] T)) := (al1 _ _).alloc (by simp) _
theorem Pr.new_ (hx : Iv W p A c l x n) (hy : Iv W q B d m y n) (hg : w0.heap.size + 2 < W.heap.size) (T : TypeId) :
    Pr w0 ((W.alloc (.cells #[.bool p, .slice A l.length c] T)).alloc (.cells #[.bool q, .slice B m.length d] T)) W.heap.size p A c l q B d m x y n :=
  ⟨(Two.new_ _ _ _ _).alloc _, by simpa using Two.new_ (W.alloc (.cells #[.bool p, .slice A l.length c] T)) (.bool q) (.slice B m.length d) T, hx.below (pr_below _ _ _ _ _ _ _ _ _ _), hy.below (pr_below _ _ _ _ _ _ _ _ _ _), hg⟩
end
end Go.Proofs.YtkpomjdablopaaaGreatDoor
/- Walks of package rational: Mul. -/
namespace Go.Proofs.YtkpomjdablopaaaGreatDoor
open Go.RowKit
set_option linter.unusedVariables false

end Go.Proofs.YtkpomjdablopaaaGreatDoor
/- Plain laws of fractions; words for boxes that are written. -/
namespace Go.Proofs.YtkpomjdablopaaaGreatDoor
open Go.RowKit
set_option linter.unusedVariables false

theorem rq_div {x1 y1 x2 y2 : Int} : Rat.divInt x1 y1 / Rat.divInt x2 y2 = Rat.divInt (x1 * y2) (y1 * x2) := by
  rw [Rat.div_def, Rat.inv_divInt, Rat.divInt_mul_divInt]
theorem rq_zero_iff {x y : Int} (hy : 0 < y) : Rat.divInt x y = 0 ↔ x = 0 := by
  constructor
  · intro h
    have h2 := rq_sign x y
    rw [h, Int.sign_eq_one_of_pos hy] at h2
    have h3 : x.sign = 0 := by
      have : ((0 : Rat).num.sign : Int) = 0 := by decide
      omega
    exact Int.sign_eq_zero_iff_zero.1 h3
  · intro h; rw [h]; exact Rat.zero_divInt y
theorem rq_cmp {x1 y1 x2 y2 : Int} (h1 : 0 < y1) (h2 : 0 < y2) : (Rat.divInt x1 y1 - Rat.divInt x2 y2).num.sign = (x1 * y2 - x2 * y1).sign := by
  rw [Rat.divInt_sub_divInt _ _ (by omega) (by omega), rq_sign, Int.sign_eq_one_of_pos (Int.mul_pos h1 h2), Int.mul_one]
theorem rq_com1 {x1 y1 y2 : Int} (h2 : 0 < y2) : Rat.divInt (x1 * y2) (y1 * y2) = Rat.divInt x1 y1 := Rat.divInt_mul_right (by omega)
theorem rq_com2 {x2 y1 y2 : Int} (h1 : 0 < y1) : Rat.divInt (x2 * y1) (y1 * y2) = Rat.divInt x2 y2 := by rw [Int.mul_comm y1 y2]; exact Rat.divInt_mul_right (by omega)
theorem rq_addS {a b d : Int} (h : 0 < d) : Rat.divInt (a + b) d = Rat.divInt a d + Rat.divInt b d := by
  rw [Rat.divInt_add_divInt _ _ (by omega) (by omega), ← Int.add_mul, Rat.divInt_mul_right (by omega)]
theorem rq_subS {a b d : Int} (h : 0 < d) : Rat.divInt (a - b) d = Rat.divInt a d - Rat.divInt b d := by
  rw [Rat.divInt_sub_divInt _ _ (by omega) (by omega), ← Int.sub_mul, Rat.divInt_mul_right (by omega)]
/-- the floor -/
def rqfl (z : Rat) : Int := z.num.fdiv (z.den : Int)
theorem rq_fl {x y : Int} (hy : 0 < y) : rqfl (Rat.divInt x y) = x.fdiv y := by
  obtain ⟨m, hm, e1, e2⟩ := Rat.divInt_num_den (n' := (Rat.divInt x y).num) (d' := (Rat.divInt x y).den) (z' := (Rat.divInt x y).den_nz) (c := (Rat.divInt x y).reduced) (by omega : y ≠ 0) rfl
  have hd : (0 : Int) < ((Rat.divInt x y).den : Int) := by have := (Rat.divInt x y).den_nz; omega
  have hm0 : 0 < m := by
    rcases Int.lt_or_gt_of_ne hm with h | h
    · exfalso
      have : ((Rat.divInt x y).den : Int) * m < 0 := Int.mul_neg_of_pos_of_neg hd h
      omega
    · exact h
  unfold rqfl
  generalize (Rat.divInt x y).num = u at *
  generalize ((Rat.divInt x y).den : Int) = v at *
  rw [e1, e2, Int.fdiv_eq_ediv_of_nonneg _ (by omega), Int.fdiv_eq_ediv_of_nonneg _ (Int.le_of_lt (Int.mul_pos hd hm0)), Int.mul_comm u m, Int.mul_comm v m, Int.mul_ediv_mul_of_pos _ _ hm0]
theorem rq_fl_floor (z : Rat) : rqfl z = z.floor := by
  unfold rqfl; rw [Rat.floor_def, Int.fdiv_eq_ediv_of_nonneg _ (by omega)]
theorem rq_eq_of_sub {a b : Rat} : (a - b).num.sign = 0 ↔ a = b := by
  rw [Int.sign_eq_zero_iff_zero, Rat.num_eq_zero]
  constructor <;> intro h <;> grind
theorem rq_sub_pos {a b : Rat} : 0 < (a - b).num.sign ↔ b < a := by
  rw [Int.sign_pos_iff]
  have h := @Rat.num_nonneg (b - a)
  have e : (b - a).num = -(a - b).num := by
    have : b - a = -(a - b) := by grind
    rw [this, Rat.neg_num]
  rw [e] at h
  constructor
  · intro h1
    have h2 : ¬ 0 ≤ b - a := fun h3 => by have := h.2 h3; omega
    grind
  · intro h1
    have h2 : ¬ 0 ≤ b - a := by grind
    have h3 : ¬ 0 ≤ -(a - b).num := fun h4 => h2 (h.1 h4)
    omega
theorem rq_sub_nonpos {a b : Rat} : (a - b).num.sign ≤ 0 ↔ a ≤ b := by
  have := @rq_sub_pos a b
  constructor
  · intro h; have h2 : ¬ 0 < (a - b).num.sign := by omega
    rw [this] at h2; grind
  · intro h
    have h2 : ¬ b < a := by grind
    rw [← this] at h2; omega
theorem rq_sub_neg (a b : Rat) : (b - a).num.sign = -(a - b).num.sign := by
  have : b - a = -(a - b) := by grind
  rw [this, Rat.neg_num, Int.sign_neg]
theorem rq_add_sub (a b c : Rat) : a + c - (b + c) = a - b := by grind
theorem cmpI_sign (a b : Int) : cmpI a b = (a - b).sign := by
  unfold cmpI
  rcases Int.lt_trichotomy a b with h | h | h
  · rw [if_pos h, Int.sign_eq_neg_one_of_neg (by omega)]
  · subst h; rw [if_neg (by omega), if_neg (by omega), Int.sub_self]; rfl
  · rw [if_neg (by omega), if_pos h, Int.sign_eq_one_of_pos (by omega)]
/-- the world behind a store into an integer's box -/
abbrev set2 (w : World) (b : Nat) (x y : Value) : World := (w.setCell ⟨b, 0, none⟩ x).setCell ⟨b, 1, none⟩ y
section
variable {w wr : World} {b g : Nat} {x y u v x' y' u' v' : Value}
theorem Two.put2 (h : Two w b x y) (u v : Value) : Two (set2 w b u v) b u v := h.put u v
theorem Two.far2 (h : Two w b x y) (hb : b ≠ g) (u v : Value) : Two (set2 w g u v) b x y := (h.far (p := ⟨g, 0, none⟩) hb _).far (p := ⟨g, 1, none⟩) hb _
theorem Four.far2 (h : Four w b x y u v) (hb : b ≠ g) (s t : Value) : Four (set2 w g s t) b x y u v := (h.far (p := ⟨g, 0, none⟩) hb _).far (p := ⟨g, 1, none⟩) hb _
theorem Four.far4 (h : Four w b x y u v) (hb : b ≠ g) (x' y' u' v' : Value) : Four (set4 w g x' y' u' v') b x y u v :=
  (((h.far (p := ⟨g, 0, none⟩) hb _).far (p := ⟨g, 1, none⟩) hb _).far (p := ⟨g, 2, none⟩) hb _).far (p := ⟨g, 3, none⟩) hb _
theorem below_set2 {B : Nat} (h : Below B w wr) (hb : B ≤ b) (x y : Value) : Below B w (set2 wr b x y) := (h.setCell (p := ⟨b, 0, none⟩) hb _).setCell (p := ⟨b, 1, none⟩) hb _
end
theorem set2_size (w : World) (b : Nat) (x y : Value) : (set2 w b x y).heap.size = w.heap.size := by simp [set2, World.setCell]
section
variable {W : World} {p : Bool} {A : Option Addr} {c : Nat} {l : List Nat} {x : Int} {n b : Nat} {p' q' : Bool} {A' B' : Option Addr} {n' c' m' d' : Nat}
theorem Iv.put2 (h : Iv W p A c l x n) (t : Two W b (.bool p') (.slice A' n' c')) (u v : Value) : Iv (set2 W b u v) p A c l x n := h.put t u v
theorem Cn.put2 (h : Cn W p A c l x n) (t : Two W b (.bool p') (.slice A' n' c')) (u v : Value) : Cn (set2 W b u v) p A c l x n := ⟨h.iv.put t u v, h.can⟩
theorem Iv.put4 (h : Iv W p A c l x n) (t : Four W b (.bool p') (.slice A' n' c') (.bool q') (.slice B' m' d')) (x' y' u' v' : Value) : Iv (set4 W b x' y' u' v') p A c l x n :=
  ⟨(h.sl.put4 t _ _ _ _).more (by rw [set4_size]; exact Nat.le_refl _), h.val, h.len⟩
end
theorem Cr.put2 {W : World} {A : Option Addr} {c : Nat} {l : List Nat} {B : Option Addr} {d : Nat} {m : List Nat} {z : Rat} {n b : Nat} {p' : Bool} {A' : Option Addr} {n' c' : Nat} (h : Cr W A c l B d m z n) (t : Two W b (.bool p') (.slice A' n' c')) (u v : Value) : Cr (set2 W b u v) A c l B d m z n :=
  ⟨h.a.put2 t _ _, h.b.put2 t _ _⟩
end Go.Proofs.YtkpomjdablopaaaGreatDoor
/- Walks: the package's appendDigit: ten times the magnitude plus a digit, in its memory. -/
namespace Go.Proofs.YtkpomjdablopaaaGreatDoor
open Go.RowKit
set_option linter.unusedVariables false

/-- a store into a row of words that is owned -/
theorem own_set {w : World} {base g n c k x : Nat} {ws : List Nat} (h : w.ownsRow base 88 1 (.slice (some ⟨g, 0, none⟩) n c) n (u32s ws)) :
    (w.setCell ⟨g, k, none⟩ (.int .u32 (x : Int))).ownsRow base 88 1 (.slice (some ⟨g, 0, none⟩) n c) n (u32s (ws.set k x)) := by
  rcases h.2 with ⟨e0, _⟩ | ⟨g', cap', cur, e0, hb, hg, hn, hm, hs, ht⟩
  · cases e0
  · injection e0 with e1 _ e3
    injection e1 with e1
    injection e1 with e1
    subst e1; subst e3
    refine ⟨by have := h.1; unfold u32s at this ⊢; simpa using this, .inr ⟨g, c, cur.setIfInBounds k (.int .u32 (x : Int)), rfl, hb, ?_, hn, hm, by simpa using hs, ?_⟩⟩
    · simp [World.setCell, Array.getElem?_modify, hg]
    · rw [Array.toList_setIfInBounds, List.take_set, ht]
      unfold u32s
      rw [List.map_set]
theorem own_cell {w : World} {base g n c k : Nat} {ws : List Nat} (h : w.ownsRow base 88 1 (.slice (some ⟨g, 0, none⟩) n c) n (u32s ws)) (hk : k < ws.length) :
    w.cell? ⟨g, k, none⟩ = some (.int .u32 ((ws.getD k 0 : Nat) : Int)) := by
  have h1 := h.cells (g := g) rfl k (.int .u32 ((ws.getD k 0 : Nat) : Int)) (by
    unfold u32s
    rw [List.getElem?_map, List.getElem?_eq_getElem hk, List.getD_eq_getElem?_getD, List.getElem?_eq_getElem hk]; rfl)
  have e : (⟨g, 0, none⟩ : Addr).add k = ⟨g, k, none⟩ := by unfold Addr.add; split <;> simp_all
  rwa [e] at h1
theorem own_fz {w : World} {base g n c k : Nat} {xs : List Value} (h : w.ownsRow base 88 1 (.slice (some ⟨g, 0, none⟩) n c) n xs) : w.frozen? ⟨g, k, none⟩ = false := by
  rcases h.2 with ⟨e0, _⟩ | ⟨g', cap', cur, e0, hb, hg, hn, hm, hs, ht⟩
  · cases e0
  · injection e0 with e1 _ e3
    injection e1 with e1
    injection e1 with e1
    subst e1
    exact frozen_of_row w g k _ _ hg
theorem own_ge32 {w : World} {base g n c : Nat} {xs : List Value} (h : w.ownsRow base 88 1 (.slice (some ⟨g, 0, none⟩) n c) n xs) : base ≤ g := (h.lt g rfl).1

/-- a row of words that a caller owns, as the call finds it later -/
structure Ad (base : Nat) (w wr : World) (v : Value) (n : Nat) (l : List Nat) : Prop where
  own : wr.ownsRow base 88 1 v n (u32s l)
  len : l.length = n
  wd : Kn.Wd l
  hz : base ≤ wr.heap.size
  bel : Below base w wr
theorem Ad.put {base g n c k x : Nat} {w wr : World} {l : List Nat} (h : Ad base w wr (.slice (some ⟨g, 0, none⟩) n c) n l) (hx : x < 4294967296) : Ad base w (wr.setCell ⟨g, k, none⟩ (.int .u32 (x : Int))) (.slice (some ⟨g, 0, none⟩) n c) n (l.set k x) :=
  ⟨own_set h.own, by rw [List.length_set]; exact h.len, h.wd.set k hx, by simpa [World.setCell] using h.hz, h.bel.setCell (p := ⟨g, k, none⟩) (own_ge32 h.own) _⟩
theorem Ad.grown {base n x : Nat} {w wr w3 : World} {v v' : Value} {l : List Nat} {o : Obj} (h : Ad base w wr v n l) (hx : x < 4294967296)
    (ho : w3.ownsRow base 88 1 v' (n + 1) (u32s l ++ [.int .u32 (x : Int)])) (hg : (wr.alloc o).grownBy w3 v.ownBlock) : Ad base w w3 v' (n + 1) (l ++ [x]) := by
  have hz := h.hz
  have hge : ∀ k, v.ownBlock = some k → base ≤ k := fun k e => (h.own.lt k e).1
  refine ⟨by rw [u32s_snoc]; exact ho, by rw [List.length_append, h.len]; rfl, h.wd.append (Kn.Wd.cons hx Kn.Wd.nil), by have := hg.size; simp at this; omega, (h.bel.alloc hz o).grown hg (by simp; omega) hge⟩

theorem getD_of_drop {l m : List Nat} {k : Nat} (h : l.drop k = m.drop k) : l.getD k 0 = m.getD k 0 := by
  have h1 := congrArg (fun x : List Nat => x.getD 0 0) h
  simpa [List.getD_eq_getElem?_getD, List.getElem?_drop] using h1
theorem drop_next {l m : List Nat} {k : Nat} (h : l.drop k = m.drop k) : l.drop (k + 1) = m.drop (k + 1) := by
  have h1 := congrArg (fun x : List Nat => x.drop 1) h
  simpa [List.drop_drop] using h1
/-- what appendDigit hands back -/
def AdRes (base : Nat) (ws : List Nat) (d : Nat) (w : World) (e : Ending) (w' : World) : Prop :=
  ∃ v ws', e = .returned v ∧ Ad base w w' v ws'.length ws' ∧ Kn.val ws' = 10 * Kn.val ws + d ∧ ws'.length ≤ ws.length + 1

end Go.Proofs.YtkpomjdablopaaaGreatDoor
/- Plain laws of the texts of sets: decimal numbers, the text of a set, what the reference's Parse accepts. -/
namespace Go.Proofs.YtkpomjdablopaaaGreatDoor.Kt
set_option linter.unusedVariables false

def digC (c : UInt8) : Bool := decide (48 ≤ c.toNat) && decide (c.toNat ≤ 57)
/-- the value of digits -/
def valN (l : List UInt8) : Nat := l.foldl (fun n c => n * 10 + (c.toNat - 48)) 0
theorem val_snoc (l : List UInt8) (c : UInt8) : valN (l ++ [c]) = valN l * 10 + (c.toNat - 48) := by unfold valN; rw [List.foldl_append]; rfl
/-- are digits written without a needless zero? -/
def canon (w : List UInt8) : Prop := w ≠ [] ∧ w.all digC = true ∧ (w.length = 1 ∨ w.head? ≠ some 48)
theorem dec_small {u : Nat} (h : u < 10) : Lib.decDigits u = [UInt8.ofNat (48 + u)] := Lib.decDigits_one h
theorem dec_big {u : Nat} (h : ¬ u < 10) : Lib.decDigits u = Lib.decDigits (u / 10) ++ [UInt8.ofNat (48 + u % 10)] := by rw [Lib.decDigits, dif_neg h]
theorem dig_of {d : Nat} (h : d < 10) : (UInt8.ofNat (48 + d)).toNat = 48 + d := by
  rw [UInt8.toNat_ofNat']; omega
theorem dec_ne (u : Nat) : Lib.decDigits u ≠ [] := by
  by_cases h : u < 10
  · rw [dec_small h]; simp
  · rw [dec_big h]; simp
theorem dec_val : ∀ u, valN (Lib.decDigits u) = u := by
  intro u
  induction u using Nat.strongRecOn with
  | ind u ih =>
    by_cases h : u < 10
    · rw [dec_small h]
      show 0 * 10 + ((UInt8.ofNat (48 + u)).toNat - 48) = u
      rw [dig_of h]; omega
    · rw [dec_big h, val_snoc, ih (u / 10) (by omega), dig_of (by omega)]; omega
theorem dec_dig : ∀ u, (Lib.decDigits u).all digC = true := by
  intro u
  induction u using Nat.strongRecOn with
  | ind u ih =>
    have hd : ∀ d, d < 10 → digC (UInt8.ofNat (48 + d)) = true := fun d h => by
      unfold digC
      rw [dig_of h]; simp; omega
    by_cases h : u < 10
    · rw [dec_small h, List.all_cons, hd u h]; rfl
    · rw [dec_big h, List.all_append, ih (u / 10) (by omega), List.all_cons, hd _ (by omega)]; rfl
theorem dec_head : ∀ u, 0 < u → (Lib.decDigits u).head? ≠ some 48 := by
  intro u
  induction u using Nat.strongRecOn with
  | ind u ih =>
    intro h0
    by_cases h : u < 10
    · rw [dec_small h]
      intro e
      injection e with e
      have := congrArg UInt8.toNat e
      rw [dig_of h] at this
      have h48 : (48 : UInt8).toNat = 48 := rfl
      omega
    · rw [dec_big h]
      have hn := dec_ne (u / 10)
      have := ih (u / 10) (by omega) (by omega)
      cases hq : Lib.decDigits (u / 10) with
      | nil => exact absurd hq hn
      | cons a r => rw [hq] at this; exact this
theorem dec_canon (u : Nat) : canon (Lib.decDigits u) := by
  refine ⟨dec_ne u, dec_dig u, ?_⟩
  by_cases h : u = 0
  · subst h; exact .inl (by rw [dec_small (by decide)]; rfl)
  · exact .inr (dec_head u (by omega))
theorem canon_pos {w : List UInt8} (h : canon w) (h2 : 1 < w.length) : 0 < valN w := by
  obtain ⟨h0, h1, h3⟩ := h
  cases w with
  | nil => exact absurd rfl h0
  | cons c r =>
    have hc : c ≠ 48 := by
      rcases h3 with h3 | h3
      · omega
      · intro e; exact h3 (by rw [e]; rfl)
    rw [List.all_cons, Bool.and_eq_true] at h1
    have hd : 48 < c.toNat := by
      have := h1.1
      unfold digC at this
      simp at this
      have hne : c.toNat ≠ 48 := fun e => hc (UInt8.toNat_inj.1 e)
      omega
    have key : ∀ (r : List UInt8) (a : Nat), 0 < a → 0 < r.foldl (fun n c => n * 10 + (c.toNat - 48)) a := by
      intro r
      induction r with
      | nil => intro a ha; exact ha
      | cons x r ih => intro a ha; exact ih _ (show 0 < a * 10 + (x.toNat - 48) by omega)
    exact key r _ (show 0 < 0 * 10 + (c.toNat - 48) by omega)
/-- digits without a needless zero are the decimal form of their value -/
theorem canon_dec : ∀ (n : Nat) (w : List UInt8), w.length = n → canon w → Lib.decDigits (valN w) = w := by
  intro n
  induction n with
  | zero => intro w h ⟨h0, _⟩; exact absurd (List.eq_nil_of_length_eq_zero h) h0
  | succ n ih =>
    intro w hn hw
    obtain ⟨h0, h1, h3⟩ := hw
    obtain ⟨v, c, rfl⟩ : ∃ v c, w = v ++ [c] := ⟨w.dropLast, w.getLast h0, (List.dropLast_concat_getLast h0).symm⟩
    rw [List.all_append, Bool.and_eq_true, List.all_cons, Bool.and_eq_true] at h1
    have hc := h1.2.1
    unfold digC at hc
    simp at hc
    have hcc : UInt8.ofNat (48 + (c.toNat - 48)) = c := by
      apply UInt8.toNat_inj.1
      rw [dig_of (by omega)]; omega
    rw [val_snoc]
    cases hv : v with
    | nil =>
      show Lib.decDigits (0 * 10 + (c.toNat - 48)) = [c]
      rw [Nat.zero_mul, Nat.zero_add, dec_small (by omega), hcc]
    | cons a r =>
      rw [← hv]
      have hvl : v.length = n := by rw [List.length_append] at hn; simpa using hn
      have hh : v.head? ≠ some 48 := by
        rcases h3 with h3 | h3
        · rw [List.length_append, hv] at h3; simp at h3
        · rw [hv] at h3 ⊢; exact h3
      have hcv : canon v := ⟨by rw [hv]; simp, h1.1, .inr hh⟩
      have hp : 0 < valN v := by
        by_cases h1' : 1 < v.length
        · exact canon_pos hcv h1'
        · have e := ih v hvl hcv
          rw [hv] at h1' hh
          simp at h1'
          subst h1'
          rw [hv]
          have ha := h1.1
          rw [hv, List.all_cons, Bool.and_eq_true] at ha
          have ha2 := ha.1
          unfold digC at ha2
          simp at ha2
          have hne : a.toNat ≠ 48 := fun e => hh (by rw [UInt8.toNat_inj.1 (show a.toNat = (48 : UInt8).toNat from e)]; rfl)
          show 0 < 0 * 10 + (a.toNat - 48)
          omega
      rw [dec_big (by omega), show (valN v * 10 + (c.toNat - 48)) / 10 = valN v by omega, show (valN v * 10 + (c.toNat - 48)) % 10 = c.toNat - 48 by omega, ih v hvl hcv, hcc]
/-- a number at the beginning, as the reference reads it: value and length; mx: the greatest -/
def numR (mx : Nat) (l : List UInt8) : Option (Nat × Nat) :=
  if (l.takeWhile digC).isEmpty || (decide (1 < (l.takeWhile digC).length) && (l.takeWhile digC).head? == some 48) || decide (mx < valN (l.takeWhile digC)) then none
  else some (valN (l.takeWhile digC), (l.takeWhile digC).length)
theorem numR_some {mx : Nat} {l : List UInt8} {n k : Nat} (h : numR mx l = some (n, k)) : n ≤ mx ∧ l = Lib.decDigits n ++ l.drop k ∧ (∀ c r, l.drop k = c :: r → digC c = false) := by
  unfold numR at h
  split at h
  · cases h
  · rename_i hb
    injection h with h
    injection h with h1 h2
    subst h1 h2
    simp only [Bool.or_eq_true, Bool.and_eq_true, decide_eq_true_eq, List.isEmpty_iff, beq_iff_eq, not_or, not_and] at hb
    obtain ⟨⟨hb1, hb2⟩, hb3⟩ := hb
    have hall : (l.takeWhile digC).all digC = true := by
      generalize l = m
      induction m with
      | nil => rfl
      | cons a m ih =>
        rw [List.takeWhile_cons]
        split
        · rw [List.all_cons, ih, Bool.and_true]; assumption
        · rfl
    have hlen : 0 < (l.takeWhile digC).length := List.length_pos_iff.2 hb1
    have hcan : canon (l.takeWhile digC) := ⟨hb1, hall, by
      by_cases h1 : (l.takeWhile digC).length = 1
      · exact .inl h1
      · exact .inr (hb2 (by omega))⟩
    refine ⟨by omega, ?_, ?_⟩
    · rw [canon_dec _ _ rfl hcan]
      obtain ⟨t, ht⟩ := List.takeWhile_prefix digC (l := l)
      conv => lhs; rw [← ht]
      congr 1
      conv => rhs; arg 2; rw [← ht]
      rw [List.drop_left]
    · intro c r hq
      have key : ∀ m : List UInt8, ∀ c r, m.drop (m.takeWhile digC).length = c :: r → digC c = false := by
        intro m
        induction m with
        | nil => intro c r h; simp at h
        | cons a m ih =>
          intro c r h
          rw [List.takeWhile_cons] at h
          split at h
          · exact ih c r (by simpa using h)
          · rename_i hn
            simp at h
            rw [← h.1]; simpa using hn
      exact key l c r hq
theorem tw_dec (n : Nat) (r : List UInt8) (hr : ∀ c t, r = c :: t → digC c = false) : (Lib.decDigits n ++ r).takeWhile digC = Lib.decDigits n := by
  rw [List.takeWhile_append_of_pos (fun a ha => List.all_eq_true.1 (dec_dig n) a ha)]
  cases r with
  | nil => simp
  | cons c t => rw [List.takeWhile_cons, if_neg (by rw [hr c t rfl]; decide), List.append_nil]
theorem numR_dec {mx n : Nat} (h : n ≤ mx) (r : List UInt8) (hr : ∀ c t, r = c :: t → digC c = false) : numR mx (Lib.decDigits n ++ r) = some (n, (Lib.decDigits n).length) := by
  unfold numR
  rw [tw_dec n r hr, dec_val]
  rw [if_neg]
  simp only [Bool.or_eq_true, Bool.and_eq_true, decide_eq_true_eq, List.isEmpty_iff, beq_iff_eq, not_or, not_and]
  refine ⟨⟨dec_ne n, fun h1 => ?_⟩, by omega⟩
  rcases (dec_canon n).2.2 with e | e
  · omega
  · exact e
end Go.Proofs.YtkpomjdablopaaaGreatDoor.Kt
/- Plain laws of Parse: what it makes of a text. -/
namespace Go.Proofs.YtkpomjdablopaaaGreatDoor.Kt
set_option linter.unusedVariables false

/-- digits without needless zeros? -/
def isNum (t : List UInt8) : Bool := t.all digC && (t == [48] || (!t.isEmpty && t.head? != some 48))
def negB (t : List UInt8) : Bool := t.head? == some 45
def body (t : List UInt8) : List UInt8 := if negB t then t.drop 1 else t
/-- the code and the integer that Parse makes -/
def pZ (t : List UInt8) : Int × Int :=
  if 601 < t.length then (5, 0)
  else if !isNum (body t) || (negB t && body t == [48]) then (6, 0)
  else if 600 < (body t).length then (5, 0)
  else (0, if negB t then -(valN (body t) : Int) else (valN (body t) : Int))
theorem isNum_canon {t : List UInt8} (h : isNum t = true) : canon t := by
  unfold isNum at h
  rw [Bool.and_eq_true, Bool.or_eq_true, Bool.and_eq_true] at h
  obtain ⟨h1, h2⟩ := h
  rcases h2 with h2 | ⟨h2, h3⟩
  · have e : t = [48] := by simpa using h2
    subst e
    exact ⟨by simp, h1, .inl rfl⟩
  · refine ⟨by intro e; subst e; simp at h2, h1, .inr ?_⟩
    simpa using h3
/-- the text of what was read is the text that was read -/
theorem pZ_text {t : List UInt8} (h : (pZ t).1 = 0) : Lib.itoa (pZ t).2 = t := by
  unfold pZ at h ⊢
  by_cases h1 : 601 < t.length
  · rw [if_pos h1] at h; cases h
  rw [if_neg h1] at h ⊢
  by_cases h2 : (!isNum (body t) || (negB t && body t == [48])) = true
  · rw [if_pos h2] at h; cases h
  rw [if_neg h2] at h ⊢
  by_cases h3 : 600 < (body t).length
  · rw [if_pos h3] at h; cases h
  rw [if_neg h3]
  simp only [Bool.or_eq_true, Bool.not_eq_true', not_or, Bool.not_eq_false, Bool.and_eq_true, not_and] at h2
  obtain ⟨h4, h5⟩ := h2
  have hc := isNum_canon h4
  have hd := canon_dec _ _ rfl hc
  cases hn : negB t with
  | true =>
    have h6 := h5 hn
    have e : t = 45 :: body t := by
      have e1 : body t = t.drop 1 := by unfold body; rw [hn]; rfl
      unfold negB at hn
      cases t with
      | nil => cases hn
      | cons c r =>
        have : c = 45 := by simpa using hn
        rw [e1, this]; rfl
    have hpos : 1 ≤ valN (body t) := by
      by_cases hl : 1 < (body t).length
      · exact canon_pos hc hl
      · obtain ⟨g1, g2, _⟩ := hc
        cases hb : body t with
        | nil => exact absurd hb g1
        | cons c r =>
          have hr : r = [] := by rw [hb] at hl; simp at hl; exact hl
          subst hr
          rw [hb] at g2 h6
          simp [digC] at g2
          have h7 : c ≠ 48 := fun e => h6 (by rw [e]; rfl)
          have h8 : c.toNat ≠ 48 := fun e => h7 (UInt8.toNat_inj.1 e)
          show 1 ≤ 0 * 10 + (c.toNat - 48)
          omega
    show Lib.itoa (if true = true then -(valN (body t) : Int) else (valN (body t) : Int)) = t
    rw [if_pos rfl, Lib.itoa_neg _ hpos, hd, ← e]
  | false =>
    have e1 : body t = t := by unfold body; rw [hn]; rfl
    show Lib.itoa (if false = true then -(valN (body t) : Int) else (valN (body t) : Int)) = t
    rw [if_neg (by decide), Lib.itoa_nonneg, hd, e1]
/-- the digits that Trim cuts -/
def digs : List UInt8 := [48, 49, 50, 51, 52, 53, 54, 55, 56, 57]
theorem digs_in (c : UInt8) : digs.contains c = digC c := by
  have h : ∀ k : Fin 256, digs.contains (UInt8.ofNat k.1) = digC (UInt8.ofNat k.1) := by decide +kernel
  have h2 := h ⟨c.toNat, c.toNat_lt⟩
  have e : UInt8.ofNat c.toNat = c := by simp
  simpa only [e] using h2
theorem dropWhile_nil {p : UInt8 → Bool} : ∀ l : List UInt8, l.dropWhile p = [] ↔ l.all p = true := by
  intro l
  induction l with
  | nil => simp
  | cons c l ih =>
    rw [List.dropWhile_cons, List.all_cons]
    cases hp : p c with
    | true => rw [if_pos rfl, ih]; simp
    | false => simp
theorem trim_all (l : List UInt8) : Lib.trimS l digs = [] ↔ l.all digC = true := by
  have hd : (fun c => digs.contains c) = digC := funext digs_in
  unfold Lib.trimS Lib.trimLeftS Lib.trimRightS
  rw [hd, dropWhile_nil, List.all_reverse]
  constructor
  · intro h
    have h2 : l.reverse.dropWhile digC = [] := by
      cases hq : l.reverse.dropWhile digC with
      | nil => rfl
      | cons c r =>
        have h3 := List.head?_dropWhile_not digC l.reverse
        rw [hq] at h3 h
        rw [List.all_cons, Bool.and_eq_true] at h
        simp [h.1] at h3
    rw [dropWhile_nil, List.all_reverse] at h2
    exact h2
  · intro h
    have h2 : l.reverse.dropWhile digC = [] := by rw [dropWhile_nil, List.all_reverse]; exact h
    rw [h2]; rfl
end Go.Proofs.YtkpomjdablopaaaGreatDoor.Kt
/- Walks: the package's isNumber (strings.Trim at the ten digits). -/
namespace Go.Proofs.YtkpomjdablopaaaGreatDoor
open Go.RowKit
set_option linter.unusedVariables false

def bs (s : ByteArray) : List UInt8 := s.data.toList
def mkB (l : List UInt8) : ByteArray := ⟨l.toArray⟩
theorem bs_mk (l : List UInt8) : bs (mkB l) = l := by simp [bs, mkB]
theorem mk_bs (s : ByteArray) : mkB (bs s) = s := by simp [bs, mkB]
theorem bs_inj {s t : ByteArray} (h : bs s = bs t) : s = t := by rw [← mk_bs s, ← mk_bs t, h]
theorem bs_toList (s : ByteArray) : s.toList = bs s := ByteArray.toList_eq s
theorem bs_length (s : ByteArray) : (bs s).length = s.size := by show s.data.toList.length = s.data.size; simp
theorem mk_size (l : List UInt8) : (mkB l).size = l.length := by show l.toArray.size = l.length; simp
theorem drop_at {s : ByteArray} {k : Nat} (h : k < s.size) : (bs s).drop k = s[k] :: (bs s).drop (k + 1) := by
  rw [List.drop_eq_getElem_cons (by rw [bs_length]; exact h)]; rfl
theorem empty_yes {t : List UInt8} (h : t = []) : (mkB t).toList.isEmpty = true := by rw [bs_toList, bs_mk, h]; rfl
theorem empty_no {t : List UInt8} (h : t ≠ []) : (mkB t).toList.isEmpty = false := by rw [bs_toList, bs_mk]; cases t with | nil => exact absurd rfl h | cons _ _ => rfl

theorem trim_digs (s : ByteArray) (hs : s.size ≤ 1000000) (w : World) :
    Calls Tryz.prog 60 #[.string s, .string ⟨#[48, 49, 50, 51, 52, 53, 54, 55, 56, 57]⟩] w fun e w' => e = .returned (.string (mkB (Lib.trimS (bs s) Kt.digs))) ∧ Below w.heap.size w w' := by
  by_cases h0 : s.size = 0
  · refine (Any.strings_Trim_empty Tryz.lays160 s _ w (.inl h0)).mono ?_
    rintro e w' ⟨rfl, rfl⟩
    have e0 : bs s = [] := List.eq_nil_of_length_eq_zero (by rw [bs_length]; exact h0)
    refine ⟨?_, Below.refl _ _⟩
    have e1 : s = mkB (Lib.trimS (bs s) Kt.digs) := bs_inj (by rw [bs_mk, e0]; rfl)
    rw [← e1]
  · refine (Any.strings_Trim_set Tryz.lays160 (fun _ => by kernel_rfl) (by kernel_rfl) s _ w (by decide) (by omega) (by omega) (by decide) (by
      intro j b hj
      have h : ∀ x ∈ ([48, 49, 50, 51, 52, 53, 54, 55, 56, 57] : List UInt8), x.toNat < 128 := by decide
      exact h b (List.mem_of_getElem? hj))).mono ?_
    rintro e w' ⟨rfl, q, rfl⟩
    refine ⟨rfl, ?_⟩
    have hb := ((Below.refl w.heap.size w).alloc (Nat.le_refl _) (.cells (Lib.setCells [48, 49, 50, 51, 52, 53, 54, 55, 56, 57]) (Tryz.lays160_ren.t 116))).alloc (by simp) (.cells (Lib.setCells [48, 49, 50, 51, 52, 53, 54, 55, 56, 57]) (Tryz.lays160_ren.t 116))
    exact ⟨hb.os, hb.tape, hb.output, hb.size, hb.block⟩

end Go.Proofs.YtkpomjdablopaaaGreatDoor
/- Walks: the package's Parse. -/
namespace Go.Proofs.YtkpomjdablopaaaGreatDoor
open Go.RowKit
set_option linter.unusedVariables false

theorem Kt.cut_body (t : List UInt8) : Lib.trimPrefix t [45] = Kt.body t ∧ Lib.hasPrefix t [45] = Kt.negB t := by
  cases t with
  | nil => exact ⟨rfl, rfl⟩
  | cons c r =>
    have e : Lib.hasPrefix (c :: r) [45] = Kt.negB (c :: r) := by
      show ([45] : List UInt8).isPrefixOf (c :: r) = _
      unfold Kt.negB
      rw [List.isPrefixOf_cons_cons]
      show ((45 : UInt8) == c && true) = (some c == some 45)
      rw [Bool.and_true, Bool.eq_iff_iff, beq_iff_eq, beq_iff_eq]
      exact ⟨fun h => by rw [h], fun h => by injection h with h; exact h.symm⟩
    refine ⟨?_, e⟩
    unfold Lib.trimPrefix Kt.body
    rw [e]
    cases Kt.negB (c :: r) <;> rfl
/-- what Parse hands back: a code and an integer -/
def PRes (p : Int × Int) (w : World) (e : Ending) (w' : World) : Prop :=
  ∃ A c, e = .returned (.tuple #[.agg #[.bool (decide (p.2 < 0)), .slice A (Kn.dig p.2.natAbs).length c], .int .i64 p.1]) ∧ Sl w' w'.heap.size A c (Kn.dig p.2.natAbs) ∧ Below w.heap.size w w'
theorem PRes.err {p : Int × Int} {k : Int} {w w' : World} (hp : p = (k, 0)) (hb : Below w.heap.size w w') : PRes p w (.returned (.tuple #[.agg #[.bool false, .slice none 0 0], .int .i64 k])) w' := by
  subst hp
  exact ⟨none, 0, by rw [show Kn.dig (0 : Int).natAbs = [] from Kn.dig_zero]; rfl, by rw [show Kn.dig (0 : Int).natAbs = [] from Kn.dig_zero]; exact Sl.nil _ _, hb⟩
/-- a call's world with the result's box -/
structure B1 (w wr : World) : Prop where
  t1 : Two wr w.heap.size (.bool false) (.slice none 0 0)
  bel : Below w.heap.size w wr
theorem B1.below {w wr wx : World} (h : B1 w wr) (hb : Below wr.heap.size wr wx) : B1 w wx := ⟨h.t1.below hb h.t1.lt, h.bel.trans (hb.mono h.bel.size)⟩
theorem B1.new_ (w : World) (T : TypeId) : B1 w (w.alloc (.cells #[.bool false, .slice none 0 0] T)) := ⟨Two.new_ _ _ _ _, al1 _ _⟩
/-- the bytes of a text in the block g -/
structure ByR (w : World) (g : Nat) (d : ByteArray) : Prop where
  lt : g < w.heap.size
  at_ : ∀ i (h : i < d.size), w.cell? ⟨g, i, none⟩ = some (.int .u8 ((d[i].toNat : Nat) : Int))
theorem ByR.below {w wr : World} {g B : Nat} {d : ByteArray} (h : ByR w g d) (hb : Below B w wr) (hg : g < B) (hB : B ≤ wr.heap.size) : ByR wr g d :=
  ⟨Nat.lt_of_lt_of_le hg hB, fun i hi => (hb.cell (p := ⟨g, i, none⟩) hg).trans (h.at_ i hi)⟩
theorem ByR.new_ (w : World) (d : ByteArray) (cap : Nat) (e : TypeId) (fr : Nat × Nat) : ByR (w.alloc (.cells (bytesRow d cap) e fr)).drew w.heap.size d := by
  refine ⟨by show w.heap.size < (w.alloc _).heap.size; simp, fun i hi => ?_⟩
  show (w.alloc (.cells (bytesRow d cap) e fr)).cell? ⟨w.heap.size, i, none⟩ = _
  rw [cell_of_row _ w.heap.size i _ _ _ (heap_alloc_new w _)]
  unfold bytesRow
  have hi2 : i < d.data.size := hi
  rw [Array.getElem?_append_left (by simpa using hi2)]
  simp
  exact ⟨d.data[i], Array.getElem?_eq_getElem hi2, rfl⟩
theorem Ad.again {base n : Nat} {w wr : World} {v : Value} {l : List Nat} (h : Ad base w wr v n l) : Ad base wr wr v n l := ⟨h.own, h.len, h.wd, h.hz, Below.refl _ _⟩
theorem Kt.val_take {t : List UInt8} {i : Nat} {c : UInt8} {r : List UInt8} (h : t.drop i = c :: r) : Kt.valN (t.take (i + 1)) = 10 * Kt.valN (t.take i) + (c.toNat - 48) := by
  have hi : i < t.length := by
    have := congrArg List.length h
    rw [List.length_drop, List.length_cons] at this; omega
  have e : t.take (i + 1) = t.take i ++ [c] := by
    rw [List.take_succ_eq_append_getElem hi]
    have h2 := List.drop_eq_getElem_cons hi
    rw [h] at h2
    injection h2 with h2 _
    rw [← h2]
  rw [e, Kt.val_snoc]; omega

end Go.Proofs.YtkpomjdablopaaaGreatDoor
/- Walks of package rational: isNumber; plain laws of digits. -/
namespace Go.Proofs.YtkpomjdablopaaaGreatDoor
open Go.RowKit
set_option linter.unusedVariables false

namespace Kt
def valF (acc : Nat) (l : List UInt8) : Nat := l.foldl (fun n c => n * 10 + (c.toNat - 48)) acc
theorem valF_cons (acc : Nat) (c : UInt8) (l : List UInt8) : valF acc (c :: l) = valF (acc * 10 + (c.toNat - 48)) l := by unfold valF; rw [List.foldl_cons]
theorem valF_mono (l : List UInt8) : ∀ acc, acc ≤ valF acc l := by
  induction l with
  | nil => intro acc; exact Nat.le_refl _
  | cons c l ih => intro acc; rw [valF_cons]; have := ih (acc * 10 + (c.toNat - 48)); omega
theorem valF_split (l : List UInt8) : ∀ acc, valF acc l = acc * 10 ^ l.length + valF 0 l := by
  induction l with
  | nil => intro acc; simp [valF]
  | cons c l ih =>
    intro acc
    rw [valF_cons, valF_cons, ih, ih (0 * 10 + (c.toNat - 48)), List.length_cons, Nat.pow_succ, Nat.add_mul, Nat.zero_mul, Nat.zero_add, Nat.mul_assoc, Nat.mul_comm 10, Nat.add_assoc]
theorem valN_app (a b : List UInt8) : valN (a ++ b) = valN a * 10 ^ b.length + valN b := by
  have e : valN (a ++ b) = valF (valN a) b := by unfold valN valF; rw [List.foldl_append]
  rw [e, valF_split]; rfl
theorem valF_lt (l : List UInt8) (h : l.all digC = true) : ∀ acc, valF acc l < (acc + 1) * 10 ^ l.length := by
  induction l with
  | nil => intro acc; simp [valF]
  | cons c l ih =>
    intro acc
    rw [List.all_cons, Bool.and_eq_true] at h
    have hc := h.1
    unfold digC at hc
    simp only [Bool.and_eq_true, decide_eq_true_eq] at hc
    have h1 := ih h.2 (acc * 10 + (c.toNat - 48))
    rw [valF_cons, List.length_cons, Nat.pow_succ, Nat.mul_comm (10 ^ l.length) 10, ← Nat.mul_assoc]
    refine Nat.lt_of_lt_of_le h1 (Nat.mul_le_mul_right _ ?_)
    omega
theorem valN_lt (l : List UInt8) (h : l.all digC = true) : valN l < 10 ^ l.length := by
  have := valF_lt l h 0
  rwa [Nat.zero_add, Nat.one_mul] at this
theorem parse_dig (l : List UInt8) : ∀ acc, l.all digC = true → Lib.parseUint10 acc l = .ok (valF acc l) ∨ (Lib.parseUint10 acc l = .range ∧ 18446744073709551616 ≤ valF acc l) := by
  induction l with
  | nil => intro acc _; exact .inl rfl
  | cons c l ih =>
    intro acc h
    rw [List.all_cons, Bool.and_eq_true] at h
    have hc := h.1
    unfold digC at hc
    simp only [Bool.and_eq_true, decide_eq_true_eq] at hc
    unfold Lib.parseUint10
    rw [if_pos hc, valF_cons]
    have hm := valF_mono l (acc * 10 + (c.toNat - 48))
    by_cases h1 : 1844674407370955162 ≤ acc
    · rw [if_pos h1]; exact .inr ⟨rfl, by omega⟩
    · rw [if_neg h1]
      by_cases h2 : 18446744073709551616 ≤ acc * 10 + (c.toNat - 48)
      · rw [if_pos h2]; exact .inr ⟨rfl, by omega⟩
      · rw [if_neg h2]; exact ih _ h.2
theorem atoi_short {l : List UInt8} (h0 : l ≠ []) (h : l.all digC = true) (hl : l.length ≤ 18) : Lib.atoiAll l = .ok (valN l : Int) := by
  have hlt := valN_lt l h
  have hp10 : 10 ^ l.length ≤ 10 ^ 18 := Nat.pow_le_pow_right (by decide) hl
  have hb : valN l < 1000000000000000000 := Nat.lt_of_lt_of_le hlt hp10
  cases l with
  | nil => exact absurd rfl h0
  | cons c r =>
    have hc := h
    rw [List.all_cons, Bool.and_eq_true] at hc
    have hc := hc.1
    unfold digC at hc
    simp only [Bool.and_eq_true, decide_eq_true_eq] at hc
    have hp := parse_dig (c :: r) 0 h
    have e : Lib.parseMag (if c.toNat = 43 ∨ c.toNat = 45 then r else c :: r) = Lib.parseUint10 0 (c :: r) := by
      rw [if_neg (by omega)]; unfold Lib.parseMag; rw [if_neg (by simp)]
    unfold Lib.atoiAll
    simp only [e]
    have hv : valN (c :: r) = valF 0 (c :: r) := rfl
    rw [hv] at hb ⊢
    rcases hp with hp | ⟨hp, hb2⟩
    · rw [hp]
      dsimp only
      rw [if_neg (fun q => by omega), if_neg (fun q => by omega), if_neg (by omega)]
    · omega
end Kt

set_option maxRecDepth 100000 in
set_option maxHeartbeats 1000000 in
theorem isNumberR_any (s : ByteArray) (hs : s.size ≤ 1000000) (w : World) :
    Calls Tryz.prog 26 #[.string s] w fun e w' => e = .returned (.bool (Kt.isNum (bs s))) ∧ Below w.heap.size w w' := by
  obtain ⟨T, hT⟩ : ∃ T, Hid (T = Lib.trimS (bs s) Kt.digs) := ⟨_, Lib.hid rfl⟩
  have ht : ∀ w, Calls Tryz.prog 60 #[.string s, .string ⟨#[48, 49, 50, 51, 52, 53, 54, 55, 56, 57]⟩] w fun e w' => e = .returned (.string (mkB T)) ∧ Below w.heap.size w w' := fun w => by rw [hT.out]; exact trim_digs s hs w
  have HT := Lib.hid ht
  clear ht
  by_cases hall : (bs s).all Kt.digC = true
  · have hE := empty_yes (t := T) (by rw [hT.out]; exact (Kt.trim_all _).2 hall)
    by_cases h0 : s.size = 0
    · have e0 : bs s = [] := List.eq_nil_of_length_eq_zero (by rw [bs_length]; exact h0)
      have q1 : s.toList.isEmpty = true := by rw [bs_toList, e0]; rfl
      have q2 : (s.toList == [48]) = false := by rw [bs_toList, e0]; rfl
      have HR : Hid (Kt.isNum (bs s) = false) := Lib.hid (by rw [e0]; rfl)
      clear hall h0 e0
      go_enter Tryz.func26, Tryz.ntmps26
      go_wp2_with (go_at_call 60; refine (HT.out _).mono ?_; rintro e w' ⟨rfl, hb⟩)
      go_ret
      exact ⟨by rw [HR.out]; rfl, hb⟩
    · have h1 : 0 < s.size := by omega
      have hd := drop_at h1
      rw [List.drop_zero] at hd
      have q1 : s.toList.isEmpty = false := by rw [bs_toList, hd]; rfl
      by_cases h48 : s[0].toNat = 48
      · have e48 : s[0] = 48 := UInt8.toNat_inj.1 h48
        have q3 : (((s[0].toNat : Nat) : Int) != 48) = false := by rw [h48]; rfl
        by_cases hone : s.size = 1
        · have e1 : bs s = [48] := by
            have hl := bs_length s
            rw [hd] at hl ⊢
            rw [e48, List.eq_nil_of_length_eq_zero (l := (bs s).drop 1) (by simp at hl; simp; omega)]
          have q2 : (s.toList == [48]) = true := by rw [bs_toList, e1]; rfl
          have HR : Hid (Kt.isNum (bs s) = true) := Lib.hid (by rw [e1]; rfl)
          clear hall hone e1 hd e48
          go_enter Tryz.func26, Tryz.ntmps26
          go_wp2_with (go_at_call 60; refine (HT.out _).mono ?_; rintro e w' ⟨rfl, hb⟩)
          go_ret
          exact ⟨by rw [HR.out]; rfl, hb⟩
        · have e1 : (bs s == [48]) = false := by
            rw [beq_eq_false_iff_ne]
            intro e
            have hl := bs_length s
            rw [e] at hl
            exact hone hl.symm
          have q2 : (s.toList == [48]) = false := by rw [bs_toList]; exact e1
          have HR : Hid (Kt.isNum (bs s) = false) := Lib.hid (by
            unfold Kt.isNum
            rw [e1, hd, e48]
            simp)
          clear hall hone e1 hd e48
          go_enter Tryz.func26, Tryz.ntmps26
          go_wp2_with (go_at_call 60; refine (HT.out _).mono ?_; rintro e w' ⟨rfl, hb⟩)
          go_ret
          exact ⟨by rw [HR.out]; rfl, hb⟩
      · have q3 : (((s[0].toNat : Nat) : Int) != 48) = true := by rw [bne_iff_ne]; omega
        have h49 : s[0] ≠ 48 := fun e => h48 (by rw [e]; rfl)
        have e1 : (bs s == [48]) = false := by
          rw [beq_eq_false_iff_ne, hd]
          intro e
          injection e with e
          exact h49 e
        have q2 : (s.toList == [48]) = false := by rw [bs_toList]; exact e1
        have HR : Hid (Kt.isNum (bs s) = true) := Lib.hid (by
          unfold Kt.isNum
          rw [e1, hall, hd]
          simp [h49])
        clear hall e1 hd h48 h49
        go_enter Tryz.func26, Tryz.ntmps26
        go_wp2_with (go_at_call 60; refine (HT.out _).mono ?_; rintro e w' ⟨rfl, hb⟩)
        go_ret
        exact ⟨by rw [HR.out]; rfl, hb⟩
  · have hE := empty_no (t := T) (by rw [hT.out]; exact fun e => hall ((Kt.trim_all _).1 e))
    have HR : Hid (Kt.isNum (bs s) = false) := Lib.hid (by unfold Kt.isNum; rw [Bool.not_eq_true] at hall; rw [hall]; rfl)
    clear hall
    go_enter Tryz.func26, Tryz.ntmps26
    go_wp2_with (go_at_call 60; refine (HT.out _).mono ?_; rintro e w' ⟨rfl, hb⟩)
    go_ret
    exact ⟨by rw [HR.out]; rfl, hb⟩
end Go.Proofs.YtkpomjdablopaaaGreatDoor
/- Walks of package rational: Of. -/
namespace Go.Proofs.YtkpomjdablopaaaGreatDoor
open Go.RowKit
set_option linter.unusedVariables false

theorem gofi {a : Int} (h : -9223372036854775808 ≤ a ∧ a ≤ 9223372036854775807) (w : World) : Calls Tryz.prog 45 #[.int .i64 a] w (GI a 2 w) :=
  (of_any a (Lib.hid h.1) (Lib.hid h.2) w).mono fun _ _ hr => GI.of hr (by
    have e : Kn.pw 2 = 18446744073709551616 := by decide
    rw [e]; omega)

set_option maxRecDepth 100000 in
set_option maxHeartbeats 2000000 in
theorem gofr {a b : Int} (ha : -9223372036854775808 ≤ a ∧ a ≤ 9223372036854775807) (hb : -9223372036854775808 ≤ b ∧ b ≤ 9223372036854775807) (h0 : b ≠ 0) (w : World) :
    Calls Tryz.prog 18 #[.int .i64 a, .int .i64 b] w (GRc (Rat.divInt a b) 2 w) := by
  have HA := Lib.hid (fun W => gofi ha W)
  have HB := Lib.hid (fun W => gofi hb W)
  obtain ⟨z, hz⟩ : ∃ z, z = Rat.divInt a b := ⟨_, rfl⟩
  rw [← hz]
  have HNW := Lib.hid (fun (W : World) (p : Bool) (A : Option Addr) (c : Nat) (l : List Nat) (q : Bool) (B : Option Addr) (d : Nat) (m : List Nat) (h1 : Cn W p A c l a 2) (h2 : Cn W q B d m b 2) => (by have h := gnew h1.iv h2.iv h0 (by decide) (by decide); rw [← hz] at h; exact h : Calls Tryz.prog 29 #[.agg #[.bool p, .slice A l.length c], .agg #[.bool q, .slice B m.length d]] W (GRc z 2 W)))
  clear ha hb h0 hz
  go_enter Tryz.func18, Tryz.ntmps18
  go_wp2_with fail
  have t3 := Four.new_ w (.bool false) (.slice none 0 0) (.bool false) (.slice none 0 0) 26
  have bel := al1 w (.cells #[.bool false, .slice none 0 0, .bool false, .slice none 0 0] 26)
  revert t3 bel
  generalize w.alloc (.cells #[.bool false, .slice none 0 0, .bool false, .slice none 0 0] 26) = w1
  intro t3 bel
  refine (HA.out w1).mono ?_
  rintro e w2 ⟨p1, A1, c1, l1, rfl, C1, hb⟩
  replace t3 := t3.below hb t3.lt
  replace bel := bel.trans (hb.mono bel.size)
  clear hb
  go_wp2_with fail
  refine (HB.out w2).mono ?_
  rintro e w3 ⟨q1, B1, d1, m1, rfl, C2, hb⟩
  replace t3 := t3.below hb t3.lt
  replace bel := bel.trans (hb.mono bel.size)
  replace C1 := C1.below hb
  clear hb
  go_wp2_with fail
  refine (HNW.out _ _ _ _ _ _ _ _ _ C1 C2).mono ?_
  rintro e w6 ⟨A3, c3, l3, A4, c4, l4, rfl, C3, hb⟩
  replace t3 := t3.below hb t3.lt
  replace bel := bel.trans (hb.mono bel.size)
  clear hb C1 C2
  have d0 := t3.c0
  have d1 := t3.c1
  have d2 := t3.c2
  have d3 := t3.c3
  have f0 := t3.fr 0
  have f1 := t3.fr 1
  have f2 := t3.fr 2
  have f3 := t3.fr 3
  have R := Lib.hid (t3.put (.bool (decide (z.num < 0))) (.slice A3 l3.length c3) (.bool false) (.slice A4 l4.length c4))
  have CR := Lib.hid (C3.put4 t3 (.bool (decide (z.num < 0))) (.slice A3 l3.length c3) (.bool false) (.slice A4 l4.length c4))
  have BL := Lib.hid (below_set4 bel (b := w.heap.size) (Nat.le_refl _) (.bool (decide (z.num < 0))) (.slice A3 l3.length c3) (.bool false) (.slice A4 l4.length c4))
  clear C3 t3 bel
  go_wp2_with fail
  have r0 := R.out.c0
  have r1 := R.out.c1
  have r2 := R.out.c2
  have r3 := R.out.c3
  unfold set4 at r0 r1 r2 r3
  refine bodyPost_ret (v := .tuple #[.agg #[.bool (decide (z.num < 0)), .slice A3 l3.length c3, .bool false, .slice A4 l4.length c4], .int .i64 0]) (by simp [results, Tryz.results18, go_sem, r0, r1, r2, r3]) rfl ?_
  exact ⟨A3, c3, l3, A4, c4, l4, rfl, CR.out, BL.out⟩
end Go.Proofs.YtkpomjdablopaaaGreatDoor
