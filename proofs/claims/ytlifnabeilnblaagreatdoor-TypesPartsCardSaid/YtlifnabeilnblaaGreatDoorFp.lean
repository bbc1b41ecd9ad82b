/- Walks: split of package types. -/
import Derived.Test.YtlifnabeilnblaaGreatDoorFd
import Derived.Test.YtlifnabeilnblaaGreatDoorCe
import Derived.Test.YtlifnabeilnblaaGreatDoorShelf
import Derived.Test.YtlifnabeilnblaaGreatDoorCm
import Derived.Test.YtlifnabeilnblaaGreatDoorEx
import Derived.Deep.RegionLaw
import Derived.Laws.EntriesVeiled
namespace Go.Proofs.YtlifnabeilnblaaGreatDoor
open Go.RowKit Go.Sort
set_option linter.unusedVariables false

theorem ib_nm (l : List UInt8) : Lib.indexByte l 46 = if rs1 l = [] then -1 else ((nm1 l).length : Int) := by
  induction l with
  | nil => rfl
  | cons b l ih =>
    by_cases hb : b = 46
    · subst hb
      have h1 : nm1 (46 :: l) = [] := by unfold nm1; rw [List.takeWhile_cons_of_neg (by decide)]
      have h2 : rs1 (46 :: l) = 46 :: l := by unfold rs1; rw [List.dropWhile_cons_of_neg (by decide)]
      rw [h1, h2]; rfl
    · have h1 : nm1 (b :: l) = b :: nm1 l := by unfold nm1; rw [List.takeWhile_cons_of_pos (by simpa using hb)]
      have h2 : rs1 (b :: l) = rs1 l := by unfold rs1; rw [List.dropWhile_cons_of_pos (by simpa using hb)]
      rw [h1, h2]
      simp only [Lib.indexByte]
      rw [if_neg (by simpa using hb), ih]
      by_cases hr : rs1 l = []
      · rw [if_pos hr, if_pos hr]; rfl
      · rw [if_neg hr, if_neg hr]
        have : (((nm1 l).length : Int) == -1) = false := by rw [beq_eq_false_iff_ne]; omega
        rw [this]
        simp
/-- what split makes of a path -/
def spV : List UInt8 → Value
  | [] => .tuple #[.string ⟨#[]⟩, .string ⟨#[]⟩, .bool false]
  | c :: r => if c = 46 then .tuple #[.string (mkB (nm1 r)), .string (mkB (rs1 r)), .bool true] else .tuple #[.string ⟨#[]⟩, .string ⟨#[]⟩, .bool false]
theorem spV_yes (r : List UInt8) : spV (46 :: r) = .tuple #[.string (mkB (nm1 r)), .string (mkB (rs1 r)), .bool true] := by simp [spV]
theorem spV_no {c : UInt8} (r : List UInt8) (h : c ≠ 46) : spV (c :: r) = .tuple #[.string ⟨#[]⟩, .string ⟨#[]⟩, .bool false] := by simp [spV, h]
set_option maxRecDepth 100000 in
theorem hasdot_any (s : ByteArray) (w : World) : Calls Tryz.prog 76 #[.string s, .string ⟨#[46]⟩] w fun r w' => r = .returned (.bool (decide ((bs s).head? = some 46))) ∧ Below w.heap.size w w' := by
  by_cases h0 : 1 ≤ s.size
  · have hI : (1 : Int) ≤ (s.size : Int) := by omega
    have he : ((s.extract 0 1).toList == [46]) = decide ((bs s).head? = some 46) := by
      rw [bs_toList, bs_extract, List.drop_zero]
      have hl := bs_length s
      cases hb : bs s with
      | nil => rw [hb] at hl; simp at hl; omega
      | cons c r =>
        rw [Bool.eq_iff_iff]; simp
    obtain ⟨q, hq⟩ : ∃ q, Hid (decide ((bs s).head? = some 46) = q) := ⟨_, Lib.hid rfl⟩
    rw [hq.out] at he ⊢
    clear hq
    go_enter Tryz.func76, Tryz.ntmps76
    go_wp2_with fail
    go_ret
    exact ⟨rfl, Below.refl _ _⟩
  · have hI : ¬ (1 : Int) ≤ (s.size : Int) := by omega
    have hq : Hid (false = decide ((bs s).head? = some 46)) := Lib.hid (by
      have hl := bs_length s
      cases hb : bs s with
      | nil => rfl
      | cons c r => rw [hb] at hl; simp at hl; omega)
    go_enter Tryz.func76, Tryz.ntmps76
    go_wp2_with fail
    go_ret
    exact ⟨ret_bool hq.out, Below.refl _ _⟩
/-- a path without its dot -/
def cutV : List UInt8 → Value
  | [] => .tuple #[.string ⟨#[]⟩, .bool false]
  | c :: r => if c = 46 then .tuple #[.string (mkB r), .bool true] else .tuple #[.string (mkB (c :: r)), .bool false]
theorem cutV_yes (r : List UInt8) : cutV (46 :: r) = .tuple #[.string (mkB r), .bool true] := by simp [cutV]
theorem cutV_no {c : UInt8} (r : List UInt8) (h : c ≠ 46) : cutV (c :: r) = .tuple #[.string (mkB (c :: r)), .bool false] := by simp [cutV, h]
set_option maxRecDepth 100000 in
theorem cutlite_any (s : ByteArray) (w : World) : Calls Tryz.prog 62 #[.string s, .string ⟨#[46]⟩] w fun r w' => r = .returned (cutV (bs s)) ∧ Below w.heap.size w w' := by
  have HH := Lib.hid (fun W => hasdot_any s W)
  have hl := bs_length s
  have hms : mkB (bs s) = s := mk_bs s
  cases hb : bs s with
  | nil =>
    rw [hb] at hl hms
    have hv : Hid (Ending.returned (.tuple #[.string s, .bool false]) = Ending.returned (cutV [])) := Lib.hid (by rw [← hms]; rfl)
    rw [hb] at HH
    clear hl hms hb
    go_enter Tryz.func62, Tryz.ntmps62
    go_wp2_with fail
    refine (HH.out _).mono ?_
    rintro r w1 ⟨rfl, b1⟩
    go_wp2_with fail
    go_ret2
    exact ⟨hv.out, b1⟩
  | cons c r =>
    rw [hb] at hl hms HH
    by_cases hc : c = 46
    · subst hc
      have h1 : 1 ≤ s.size := by simp at hl; omega
      have hx : s.extract 1 s.size = mkB r := by
        apply bs_inj
        rw [bs_mk, bs_extract, ← bs_length, hb]
        simp
      have hv : Hid (Ending.returned (.tuple #[.string (mkB r), .bool true]) = Ending.returned (cutV (46 :: r))) := Lib.hid (by rw [cutV_yes])
      have hq : decide ((46 :: r : List UInt8).head? = some 46) = true := rfl
      rw [hq] at HH
      have hI : (1 : Int) ≤ (s.size : Int) := by omega
      clear hl hms hb hq
      go_enter Tryz.func62, Tryz.ntmps62
      go_wp2_with fail
      refine (HH.out _).mono ?_
      rintro r w1 ⟨rfl, b1⟩
      go_wp2_with fail
      go_ret2
      exact ⟨hv.out, b1⟩
    · have hv : Hid (Ending.returned (.tuple #[.string s, .bool false]) = Ending.returned (cutV (c :: r))) := Lib.hid (by rw [← hms, cutV_no r hc])
      have hq : decide ((c :: r : List UInt8).head? = some 46) = false := by rw [decide_eq_false_iff_not]; simpa using hc
      rw [hq] at HH
      clear hl hms hb hq
      go_enter Tryz.func62, Tryz.ntmps62
      go_wp2_with fail
      refine (HH.out _).mono ?_
      rintro r w1 ⟨rfl, b1⟩
      go_wp2_with fail
      go_ret2
      exact ⟨hv.out, b1⟩
set_option maxRecDepth 100000 in
theorem cutdot_any (s : ByteArray) (w : World) : Calls Tryz.prog 38 #[.string s, .string ⟨#[46]⟩] w fun r w' => r = .returned (cutV (bs s)) ∧ Below w.heap.size w w' := by
  have HH := Lib.hid (fun W => cutlite_any s W)
  have hcv : ∃ a b, cutV (bs s) = .tuple #[.string a, .bool b] := by
    cases bs s with
    | nil => exact ⟨_, _, rfl⟩
    | cons c r =>
      by_cases h : c = 46
      · subst h; exact ⟨_, _, cutV_yes r⟩
      · exact ⟨_, _, cutV_no r h⟩
  obtain ⟨a, b, hab⟩ := hcv
  rw [hab] at HH ⊢
  clear hab
  go_enter Tryz.func38, Tryz.ntmps38
  go_wp2_with fail
  refine HH.out _ |>.mono ?_
  rintro r w1 ⟨rfl, b1⟩
  go_wp2_with fail
  go_ret2
  exact ⟨rfl, b1⟩
set_option maxRecDepth 100000 in
theorem split_any (s : ByteArray) (hs : s.size ≤ 9223372036854775807) (w : World) : Calls Tryz.prog 21 #[.string s] w fun r w' => r = .returned (spV (bs s)) ∧ Below w.heap.size w w' := by
  have HH := Lib.hid (fun W => cutdot_any s W)
  have hl := bs_length s
  cases hb : bs s with
  | nil =>
    have hq : cutV [] = .tuple #[.string ⟨#[]⟩, .bool false] := rfl
    rw [hb, hq] at HH
    have hv : Hid (Ending.returned (.tuple #[.string ⟨#[]⟩, .string ⟨#[]⟩, .bool false]) = Ending.returned (spV [])) := Lib.hid rfl
    clear hl hb hq
    go_enter Tryz.func21, Tryz.ntmps21
    go_wp2_with fail
    refine (HH.out _).mono ?_
    rintro r w1 ⟨rfl, b1⟩
    go_wp2_with fail
    refine bodyPost_ret (v := .tuple #[.string ⟨#[]⟩, .string ⟨#[]⟩, .bool false]) (by simp [results, Tryz.results21, go_sem]) rfl ⟨hv.out, b1⟩
  | cons c r =>
    rw [hb] at hl HH
    by_cases hc : c = 46
    · subst hc
      have hq := cutV_yes r
      rw [hq] at HH
      have hib := ib_nm r
      have hrl : r.length ≤ 9223372036854775807 := by simp at hl; omega
      have hmz : (mkB r).size = r.length := mk_size r
      have HI := Lib.hid (fun W => Tryz.strings_IndexByte (mkB r) 46 W)
      rw [show (mkB r).data.toList = r from bs_mk r, show (46 : Int).toNat.toUInt8 = 46 from rfl] at HI
      have hnr := nm_rs r
      by_cases hr : rs1 r = []
      · rw [if_pos hr] at hib
        rw [hib] at HI
        have hnm : nm1 r = r := by rw [hr, List.append_nil] at hnr; exact hnr
        have hv : Hid (Ending.returned (.tuple #[.string (mkB r), .string ⟨#[]⟩, .bool true]) = Ending.returned (spV (46 :: r))) := Lib.hid (by rw [spV_yes, hnm, hr]; rfl)
        clear hl hb hq hib hr hnr hnm hmz hrl
        go_enter Tryz.func21, Tryz.ntmps21
        go_wp2_with fail
        refine (HH.out _).mono ?_
        rintro r w1 ⟨rfl, b1⟩
        go_wp2_with fail
        refine (HI.out _).mono ?_
        rintro r w2 ⟨rfl, rfl⟩
        go_wp2_with fail
        refine bodyPost_ret (v := .tuple #[.string (mkB r), .string ⟨#[]⟩, .bool true]) (by simp [results, Tryz.results21, go_sem]) rfl ⟨hv.out, b1⟩
      · rw [if_neg hr] at hib
        rw [hib] at HI
        have hlen : (nm1 r).length + (rs1 r).length = r.length := by have := congrArg List.length hnr; rwa [List.length_append] at this
        obtain ⟨k, hk⟩ : ∃ k, (nm1 r).length = k := ⟨_, rfl⟩
        have hx1 : (mkB r).extract 0 k = mkB (nm1 r) := by
          apply bs_inj
          rw [bs_mk, bs_extract, bs_mk, List.drop_zero, ← hk]
          calc r.take (nm1 r).length = (nm1 r ++ rs1 r).take (nm1 r).length := by rw [hnr]
            _ = nm1 r := List.take_left
        have hx2 : (mkB r).extract k (mkB r).size = mkB (rs1 r) := by
          apply bs_inj
          rw [bs_mk, bs_extract, bs_mk, hmz, List.take_length, ← hk]
          calc r.drop (nm1 r).length = (nm1 r ++ rs1 r).drop (nm1 r).length := by rw [hnr]
            _ = rs1 r := List.drop_left
        have hv : Hid (Ending.returned (.tuple #[.string (mkB (nm1 r)), .string (mkB (rs1 r)), .bool true]) = Ending.returned (spV (46 :: r))) := Lib.hid (by rw [spV_yes])
        rw [hk] at HI hlen
        have hks : k ≤ (mkB r).size := by rw [hmz]; omega
        have hkb : k ≤ 9223372036854775807 := by omega
        revert HI HH hx1 hx2 hks hv
        generalize mkB (nm1 r) = s1
        generalize mkB (rs1 r) = s2
        generalize mkB r = s3
        intro HH HI hx1 hx2 hv hks
        clear hl hb hq hib hr hnr hmz hrl hlen hk
        have hkI : (0 : Int) ≤ (k : Int) := by omega
        have hkI2 : (k : Int) ≤ (s3.size : Int) := by omega
        go_enter Tryz.func21, Tryz.ntmps21
        go_wp2_with fail
        refine (HH.out _).mono ?_
        rintro r w1 ⟨rfl, b1⟩
        go_wp2_with fail
        refine (HI.out _).mono ?_
        rintro r w2 ⟨rfl, rfl⟩
        go_wp2_with fail
        go_quiet (fail)
        go_wp2_with fail
        refine bodyPost_ret (v := .tuple #[.string s1, .string s2, .bool true]) (by simp [results, Tryz.results21, go_sem]) rfl ⟨hv.out, bDrew b1 _⟩
    · have hq := cutV_no r hc
      rw [hq] at HH
      have hv : Hid (Ending.returned (.tuple #[.string ⟨#[]⟩, .string ⟨#[]⟩, .bool false]) = Ending.returned (spV (c :: r))) := Lib.hid (by rw [spV_no r hc])
      clear hl hb hq
      go_enter Tryz.func21, Tryz.ntmps21
      go_wp2_with fail
      refine (HH.out _).mono ?_
      rintro r w1 ⟨rfl, b1⟩
      go_wp2_with fail
      refine bodyPost_ret (v := .tuple #[.string ⟨#[]⟩, .string ⟨#[]⟩, .bool false]) (by simp [results, Tryz.results21, go_sem]) rfl ⟨hv.out, b1⟩
end Go.Proofs.YtlifnabeilnblaaGreatDoor
/- Walks: the search of Find of package types. -/
namespace Go.Proofs.YtlifnabeilnblaaGreatDoor
open Go.RowKit Go.Sort
set_option linter.unusedVariables false

/-- the search as a value -/
abbrev fnV (fb ib : Nat) : Value := .func (.func 19) #[] #[.pointer (some ⟨fb, 0, none⟩), .pointer (some ⟨ib, 0, none⟩)]
/-- the boxes of the index and of the search -/
structure FI (w : World) (ib fb : Nat) (i : Int) : Prop where
  bi : One w ib (.int .i64 i)
  bf : One w fb (fnV fb ib)
  ne : fb ≠ ib
theorem FI.below {w w' : World} {ib fb : Nat} {i : Int} (h : FI w ib fb i) (hb : Below w.heap.size w w') : FI w' ib fb i := ⟨h.bi.below hb h.bi.lt, h.bf.below hb h.bf.lt, h.ne⟩
theorem One.grown_ {w w' : World} {b : Nat} {x : Value} {row : Option Nat} (h : One w b x) (hg : w.grownBy w' row) (hne : some b ≠ row) : One w' b x := by
  have hlt := h.lt
  obtain ⟨T, hT⟩ := h.blk
  exact ⟨T, (hg.block b hlt hne).trans hT⟩
/-- the seven stores of a type in a box -/
abbrev pt7 (w : World) (b : Nat) (x : G) : World := ((((((w.setCell ⟨b, 0, none⟩ (.int .i64 x.kd)).setCell ⟨b, 1, none⟩ (.int .i64 x.lo)).setCell ⟨b, 2, none⟩ (.int .i64 x.hi)).setCell ⟨b, 3, none⟩ (.int .i64 x.sz)).setCell ⟨b, 4, none⟩ (.string x.nm)).setCell ⟨b, 5, none⟩ (.slice x.na x.ns.length x.nc)).setCell ⟨b, 6, none⟩ (.slice x.ad x.ks.length x.cap)
theorem pt7_grown (w : World) (b : Nat) (x : G) : w.grownBy (pt7 w b x) (some b) := seven_grown w b _ _ _ _ _ _ _
theorem pt7_in {w3 : World} {b : Nat} {x : G} {S S' : Nat → Prop} (hx : G.InS w3 S x) (hS : ∀ q, S q → q < w3.heap.size → q ≠ b ∧ S' q) : G.InS (pt7 w3 b x) S' x :=
  hx.keep (fun p hp hlt => World.cell?_of_block (w := w3) ((pt7_grown w3 b x).block _ hlt (fun e => (hS _ hp hlt).1 (by simpa using e)))) (fun q hq hlt => (hS q hq hlt).2) (pt7_grown w3 b x).size
theorem bx7q {w : World} {b : Nat} {a0 a1 a2 a3 a4 a5 a6 : Value} (h : Blk w b #[a0, a1, a2, a3, a4, a5, a6]) : w.cell? ⟨b, 0, none⟩ = some a0 ∧ w.cell? ⟨b, 1, none⟩ = some a1 ∧ w.cell? ⟨b, 2, none⟩ = some a2 ∧ w.cell? ⟨b, 3, none⟩ = some a3 ∧ w.cell? ⟨b, 4, none⟩ = some a4 ∧ w.cell? ⟨b, 5, none⟩ = some a5 ∧ w.cell? ⟨b, 6, none⟩ = some a6 :=
  ⟨h.c 0 rfl, h.c 1 rfl, h.c 2 rfl, h.c 3 rfl, h.c 4 rfl, h.c 5 rfl, h.c 6 rfl⟩
/-- grown but for a new block and an old one: the new one does not count -/
theorem grown_new {w w1 w2 : World} {ib b : Nat} (h : w.grownBy w1 (some ib)) (h2 : w1.grownBy w2 (some b)) (hb : w.heap.size ≤ b) : w.grownBy w2 (some ib) :=
  ⟨h2.os.trans h.os, h2.tape.trans h.tape, h2.output.trans h.output, Nat.le_trans h.size h2.size, fun k hk hne => (h2.block k (Nat.lt_of_lt_of_le hk h.size) (by intro e; injection e with e; omega)).trans (h.block k hk hne)⟩
theorem grown_below {w w1 w2 : World} {ib : Nat} (h : w.grownBy w1 (some ib)) (hb : Below w1.heap.size w1 w2) : w.grownBy w2 (some ib) := grown_trans h (grown_of_below hb _)
/-- the code of a search -/
def fcd (o : Option (G × Int)) : Int := match o with | some _ => 0 | none => 7
/-- the type of a search -/
def fty (o : Option (G × Int)) : G := match o with | some q => q.1.bare | none => G.zero
/-- what the search leaves -/
def F1P (o : Option (G × Int)) (ib : Nat) (w : World) (r : Ending) (w' : World) : Prop :=
  ∃ (x : G) (j : Int), r = .returned (.tuple #[x.val, .int .i64 (fcd o)]) ∧ x.bare = fty o ∧ (∀ q, o = some q → j = q.2) ∧ G.InS w' (New w) x ∧ One w' ib (.int .i64 j) ∧ w.grownBy w' (some ib)
/-- the world in the search -/
structure FW (w wr : World) (e : G) (ib fb : Nat) (j : Int) : Prop where
  be : Blk wr w.heap.size e.box
  br : Blk wr (w.heap.size + 1) zbox
  fi : FI wr ib fb j
  gr : w.grownBy wr (some ib)
theorem FW.below {w wr w' : World} {e : G} {ib fb : Nat} {j : Int} (h : FW w wr e ib fb j) (hb : Below wr.heap.size wr w') : FW w w' e ib fb j :=
  ⟨h.be.below hb h.be.lt, h.br.below hb h.br.lt, h.fi.below hb, grown_below h.gr hb⟩
theorem FW.set {w wr : World} {e : G} {ib fb : Nat} {j : Int} (h : FW w wr e ib fb j) (hi : ib < w.heap.size) (j' : Int) : FW w (wr.setCell ⟨ib, 0, none⟩ (.int .i64 j')) e ib fb j' :=
  ⟨h.be.far (by show w.heap.size ≠ ib; omega) _, h.br.far (by show w.heap.size + 1 ≠ ib; omega) _, ⟨h.fi.bi.put _, h.fi.bf.far h.fi.ne _, h.fi.ne⟩, grown_trans h.gr (grown_set _ _ _ _)⟩
theorem FW.low {w wr : World} {e : G} {ib fb L : Nat} {j : Int} (h : FW w wr e ib fb j) (hL : L ≤ ib) (hi : ib < w.heap.size) : Below L w wr := (Below.refl L w).grown h.gr (by omega) (fun k e => by cases e; omega)
theorem pkL_drop {f : G → Int → Option (G × Int)} {nm : List UInt8} {l : List (ByteArray × G)} {i : Nat} {c : ByteArray × G} (h : l[i]? = some c) (j : Int) : G.pkL f nm (l.drop i) j = if bs c.1 = nm then f c.2 j else G.pkL f nm (l.drop (i + 1)) (j + c.2.cnt) := by
  obtain ⟨hi, rfl⟩ := List.getElem?_eq_some_iff.1 h
  rw [List.drop_eq_getElem_cons hi]; rfl
/-- the contract of the search at paths of at most so many bytes -/
def F1E (m : Nat) : Prop := ∀ (e : G) (p : ByteArray) (i : Int) (ib fb L : Nat) (w : World), FI w ib fb i → G.In w L e → L ≤ ib → L ≤ fb → (bs p).length ≤ m → p.size ≤ 9223372036854775807 → Vl e → e.nodes ≤ 1000000 → 0 ≤ i → i + 2000 * (e.dep : Int) ≤ 1000000000 →
  Calls Tryz.prog 19 #[e.val, .string p, .pointer (some ⟨fb, 0, none⟩), .pointer (some ⟨ib, 0, none⟩)] w (F1P (G.pk m e (bs p) i) ib w)
theorem find_empty (m : Nat) (e : G) (p : ByteArray) (i : Int) (ib fb L : Nat) (w : World) (h : FI w ib fb i) (hin : G.In w L e) (hL : L ≤ ib) (hp : bs p = []) (hs : Sm e) :
    Calls Tryz.prog 19 #[e.val, .string p, .pointer (some ⟨fb, 0, none⟩), .pointer (some ⟨ib, 0, none⟩)] w (F1P (some (e, i)) ib w) := by
  have hib := h.bi.lt
  have X0 := AnZ.start w e 26 26
  have X : FW w ((w.alloc (.cells e.box 26)).alloc (.cells zbox 26)) e ib fb i := ⟨X0.be, X0.br, h.below X0.bel, grown_of_below X0.bel _⟩
  have hps : Hid (p = ⟨#[]⟩) := Lib.hid (bs_inj hp)
  have HC := Lib.hid (fun W (i' : FW w W e ib fb i) => copied_any e W ((hin.below (i'.low hL hib)).more (by have := i'.gr.size; omega)) hs)
  clear hin X0 h hp hs
  rw [hps.out]
  clear hps
  unfold F1P
  go_enter Tryz.func19, Tryz.ntmps19
  go_upto_region 1 with (fail)
  revert X
  generalize (w.alloc (.cells #[.int .i64 e.kd, .int .i64 e.lo, .int .i64 e.hi, .int .i64 e.sz, .string e.nm, .slice e.na e.ns.length e.nc, .slice e.ad e.ks.length e.cap] 26)).alloc (.cells zbox 26) = w1
  intro X
  obtain ⟨k0, k1, k2, k3, k4, k5, k6⟩ := box_cells X.be
  go_wp2_with fail
  refine (HC.out _ X).mono ?_
  rintro r w2 ⟨x, rfl, hx, hxb, b2⟩
  have X2 := X.below b2
  have hn1 := X.br.lt
  obtain ⟨z0, z1, z2, z3, z4, z5, z6⟩ := box_zero X2.br
  have f0 := X2.br.fr 0
  have f1 := X2.br.fr 1
  have f2 := X2.br.fr 2
  have f3 := X2.br.fr 3
  have f4 := X2.br.fr 4
  have f5 := X2.br.fr 5
  have f6 := X2.br.fr 6
  have HI2 := Lib.hid (pt7_in (w3 := w2) (b := w.heap.size + 1) (x := x) (S' := New w) hx (fun q hq _ => by have h1 : w1.heap.size ≤ q := hq; exact ⟨by omega, by show w.heap.size ≤ q; omega⟩))
  have HG := Lib.hid (grown_new X2.gr (pt7_grown w2 (w.heap.size + 1) x) (by omega))
  have HO := Lib.hid (X2.fi.bi.grown_ (pt7_grown w2 (w.heap.size + 1) x) (by intro e; injection e with e; omega))
  have HP := Lib.hid (bx7q (seven_put X2.br (.int .i64 x.kd) (.int .i64 x.lo) (.int .i64 x.hi) (.int .i64 x.sz) (.string x.nm) (.slice x.na x.ns.length x.nc) (.slice x.ad x.ks.length x.cap)))
  clear k0 k1 k2 k3 k4 k5 k6 hx b2 X HC
  go_wp2_with fail
  obtain ⟨r0, r1, r2, r3, r4, r5, r6⟩ := HP.out
  refine bodyPost_ret (v := .tuple #[x.val, .int .i64 0]) (by simp [results, Tryz.results19, go_sem, r0, r1, r2, r3, r4, r5, r6]) rfl ⟨x, i, rfl, hxb, fun q hq => by cases hq; rfl, HI2.out, HO.out, HG.out⟩
theorem comps_len {e : G} (hV : Vl e) : (G.comps e).length ≤ 32 := by
  have f := (G.mal_iff e).1 (G.any_self hV.mal)
  have ho := G.any_self hV.out
  unfold G.out G.inr at ho
  rw [Bool.not_eq_false', Bool.and_eq_true, Bool.and_eq_true] at ho
  unfold G.comps
  by_cases h2 : e.kd = 2
  · rw [if_pos h2]
    have hs := ho.1.2
    rw [h2] at hs
    simp at hs
    unfold G.comps2
    cases hks : e.ks with
    | nil => simp
    | cons a b => simp only [List.length_map, List.length_range]; omega
  · rw [if_neg h2]
    by_cases h3 : e.kd = 3
    · rw [if_pos h3, List.length_zip]
      have hs := ho.2
      rw [h3] at hs
      simp at hs
      omega
    · rw [if_neg h3]; simp
theorem rowS_grown {w w' : World} {S : Nat → Prop} {A : Option Addr} {xs : List Value} {row : Option Nat} (h : RowS w S A xs) (hg : w.grownBy w' row) (hn : ∀ b, S b → some b ≠ row) : RowS w' S A xs :=
  h.keep (fun p hp hlt => World.cell?_of_block (w := w) (hg.block _ hlt (hn _ hp))) (fun _ h _ => h) hg.size
set_option maxRecDepth 100000 in
set_option maxHeartbeats 8000000 in
theorem find_all : ∀ m, F1E m := by
  intro m
  induction m with
  | zero =>
    intro e p i ib fb L w hF hin hL hL2 hm hps hV hnod hi0 hi
    have hb : bs p = [] := List.eq_nil_of_length_eq_zero (by omega)
    rw [hb, G.pk]
    exact find_empty 0 e p i ib fb L w hF hin hL hb ⟨hnod, G.no_bigN hV.mal hV.out⟩
  | succ m ih =>
    intro e p i ib fb L w hF hin hL hL2 hm hps hV hnod hi0 hi
    cases hb : bs p with
    | nil =>
      rw [G.pk]
      exact find_empty (m + 1) e p i ib fb L w hF hin hL hb ⟨hnod, G.no_bigN hV.mal hV.out⟩
    | cons c r =>
      have hib := hF.bi.lt
      have X0 := AnZ.start w e 26 26
      have X : FW w ((w.alloc (.cells e.box 26)).alloc (.cells zbox 26)) e ib fb i := ⟨X0.be, X0.br, hF.below X0.bel, grown_of_below X0.bel _⟩
      have q0 : (p.toList == []) = false := by rw [bs_toList, hb]; rfl
      have HS := Lib.hid (fun W => split_any p hps W)
      rw [hb] at HS hm
      rw [G.pk]
      by_cases hc : c = 46
      · rw [if_pos hc]
        subst hc
        rw [spV_yes] at HS
        have hrl : (rs1 r).length ≤ m := by
          have h1 := congrArg List.length (nm_rs r)
          rw [List.length_append] at h1
          simp at hm
          omega
        have hsz2 : (mkB (rs1 r)).size ≤ 9223372036854775807 := by
          rw [mk_size]
          have h1 := congrArg List.length (nm_rs r)
          rw [List.length_append] at h1
          have h2 := bs_length p
          rw [hb] at h2
          simp at h2
          omega
        have hn32 := comps_len hV
        have HX := Lib.hid (fun W (i' : FW w W e ib fb i) => components_any e W ((hin.below (i'.low hL hib)).more (by have := i'.gr.size; omega)) (G.any_self hV.mal) (G.any_self hV.out))
        have hkids : ∀ k ∈ e.ks, G.In w L k := G.inL_iff.1 hin.kids
        have HK := Lib.hid (fun c (hc : c ∈ G.comps e) => show G.In w L c.2 ∧ Vl c.2 ∧ c.2.nodes ≤ 1000000 ∧ c.2.dep + 1 ≤ e.dep ∧ (0 ≤ c.2.cnt ∧ c.2.cnt ≤ 33) ∧ c.1.size ≤ 12 from by
          have h1 := G.comp_ok hV hc
          have hv := hV.kid h1.1
          exact ⟨hkids _ h1.1, hv, by have := G.nodesL_mem h1.1; rw [G.nodes_eq] at hnod; omega, by have := G.depL_mem h1.1; rw [G.dep_eq e]; omega, G.cnt_bd c.2 (G.no_badA hv.mal hv.out), h1.2⟩)
        have HF0 : Hid (∀ c : ByteArray × G, bs c.1 = nm1 r ↔ c.1 = mkB (nm1 r)) := Lib.hid (fun c => ⟨fun h => bs_inj (by rw [h, bs_mk]), fun h => by rw [h, bs_mk]⟩)
        obtain ⟨cs, hcs⟩ : ∃ cs, Hid (G.comps e = cs) := ⟨_, Lib.hid rfl⟩
        rw [hcs.out] at HX HK hn32 ⊢
        obtain ⟨o, ho⟩ : ∃ o, Hid (G.pkL (fun k j => G.pk m k (rs1 r) j) (nm1 r) cs i = o) := ⟨_, Lib.hid rfl⟩
        rw [ho.out]
        have HO0 : Hid (o = G.pkL (fun k j => G.pk m k (rs1 r) j) (nm1 r) (cs.drop 0) i) := Lib.hid ho.out.symm
        obtain ⟨n, hn⟩ : ∃ n, Hid (cs.length = n) := ⟨_, Lib.hid rfl⟩
        have HX2 := Lib.hid (show ∀ W, FW w W e ib fb i → Calls Tryz.prog 22 #[e.val] W fun r w' => ∃ A c, r = .returned (.slice A n c) ∧ RowS w' (New W) A (flatC cs) ∧ Below W.heap.size W w' from fun W i => by rw [← hn.out]; exact HX.out W i)
        rw [hn.out] at hn32
        have HI0 := Lib.hid (fun (k : G) (j : Int) (W : World) (hf : FI W ib fb j) (hk : G.In W L k) (hv : Vl k) (hnk : k.nodes ≤ 1000000) (hj0 : 0 ≤ j) (hj : j + 2000 * (k.dep : Int) ≤ 1000000000) => by
          have := ih k (mkB (rs1 r)) j ib fb L W hf hk hL hL2 (by rw [bs_mk]; exact hrl) hsz2 hv hnk hj0 hj
          rw [bs_mk] at this
          exact this)
        clear hin hm hps hV hnod hb X0 hF ih hkids hcs HX ho hrl hsz2
        go_enter Tryz.func19, Tryz.ntmps19
        go_upto_region 1 with (fail)
        revert X
        generalize (w.alloc (.cells #[.int .i64 e.kd, .int .i64 e.lo, .int .i64 e.hi, .int .i64 e.sz, .string e.nm, .slice e.na e.ns.length e.nc, .slice e.ad e.ks.length e.cap] 26)).alloc (.cells zbox 26) = w1
        intro X
        go_wp2_with fail
        refine (HS.out _).mono ?_
        rintro r w2 ⟨rfl, b2⟩
        have X2 := X.below b2
        clear X b2
        clear HS
        obtain ⟨k0, k1, k2, k3, k4, k5, k6⟩ := box_cells X2.be
        generalize mkB (nm1 r) = s1 at HF0 ⊢
        generalize mkB (rs1 r) = s2 at HI0 ⊢
        go_wp2_with fail
        refine (HX2.out _ X2).mono ?_
        rintro r w3 ⟨A3, c3, rfl, hr3, b3⟩
        have hbr2 := X2.br.lt
        have hr := hr3.keep (S' := fun b => w.heap.size + 2 ≤ b) (fun _ _ _ => rfl) (fun b hb _ => by have h1 : w2.heap.size ≤ b := hb; show w.heap.size + 2 ≤ b; omega) (Nat.le_refl _)
        have X3 := X2.below b3
        clear k0 k1 k2 k3 k4 k5 k6 X2 HX2 hr3 b3 hbr2
        go_wp2_with fail
        go_loopw [29] (fun kv wr => ∃ (k : Nat) (j : Int), k ≤ n ∧ kv = .int .i64 (k : Int) ∧ Hid (o = G.pkL (fun k j => G.pk m k (rs1 r) j) (nm1 r) (cs.drop k) j) ∧ 0 ≤ j ∧ j ≤ i + 33 * (k : Int) ∧ FW w wr e ib fb j ∧ RowS wr (fun b => w.heap.size + 2 ≤ b) A3 (flatC cs)) (fun kv _ => n - (intOf kv).toNat)
        case atStart => exact ⟨0, i, Nat.zero_le _, rfl, HO0, hi0, by omega, X3, hr⟩
        case round =>
          clear X3 hr HO0
          obtain ⟨k, j, hk, rfl, hpk, hj0, hj1, X, hr⟩ := hrel
          by_cases hlt : k < n
          · obtain ⟨b, off, c, rfl, hSb, hbl, hci, d0, d1, d2, d3, d4, d5, d6, d7⟩ := comp_at hr (show k < cs.length by rw [hn.out]; exact hlt)
            obtain ⟨hkin, hkV, hkn, hkd, hkc, hks⟩ := HK.out c (List.mem_of_getElem? hci)
            have hpk2 := hpk.out
            rw [pkL_drop hci] at hpk2
            have BC := Blk.new_ wr (cBox c) 68
            have hal := al1 wr (.cells (cBox c) 68)
            have X4 := X.below hal
            have hr4 := rowS_grown (row := none) hr (grown_of_below hal none) (fun _ _ => by simp)
            have hbrx := X.br.lt
            clear hci hpk X hr
            go_upto_region 9 with (fail)
            clear d0 d1 d2 d3 d4 d5 d6 d7
            revert BC hal X4 hr4
            generalize wr.alloc (.cells #[.string c.1, .int .i64 c.2.kd, .int .i64 c.2.lo, .int .i64 c.2.hi, .int .i64 c.2.sz, .string c.2.nm, .slice c.2.na c.2.ns.length c.2.nc, .slice c.2.ad c.2.ks.length c.2.cap] 68) = w4
            intro BC hal X4 hr4
            have hs4 := hal.size
            have hk4 : G.In w4 L c.2 := hkin.below (X4.low hL hib)
            by_cases hq : bs c.1 = nm1 r
            · rw [if_pos hq] at hpk2
              have q1 : (c.1.toList == s1.toList) = true := by rw [str_eq]; exact decide_eq_true ((HF0.out c).1 hq)
              have HI := HI0.out c.2 j w4 X4.fi hk4 hkV hkn hj0 (by omega)
              rw [← hpk2] at HI
              have HI2 := Lib.hid HI
              have g0 : w4.cell? ⟨wr.heap.size, 0, none⟩ = some (.string c.1) := BC.c 0 rfl
              have g1 : w4.cell? ⟨wr.heap.size, 1, none⟩ = some (.int .i64 c.2.kd) := BC.c 1 rfl
              have g2 : w4.cell? ⟨wr.heap.size, 2, none⟩ = some (.int .i64 c.2.lo) := BC.c 2 rfl
              have g3 : w4.cell? ⟨wr.heap.size, 3, none⟩ = some (.int .i64 c.2.hi) := BC.c 3 rfl
              have g4 : w4.cell? ⟨wr.heap.size, 4, none⟩ = some (.int .i64 c.2.sz) := BC.c 4 rfl
              have g5 : w4.cell? ⟨wr.heap.size, 5, none⟩ = some (.string c.2.nm) := BC.c 5 rfl
              have g6 : w4.cell? ⟨wr.heap.size, 6, none⟩ = some (.slice c.2.na c.2.ns.length c.2.nc) := BC.c 6 rfl
              have g7 : w4.cell? ⟨wr.heap.size, 7, none⟩ = some (.slice c.2.ad c.2.ks.length c.2.cap) := BC.c 7 rfl
              have cf := X4.fi.bf.c
              unfold F1P at HI2
              clear hpk2 hq HI HI0 HK HF0 hkin hkV hkn hkd hkc hks hr4 hk4
              go_wp2_with fail
              refine HI2.out.mono ?_
              rintro r w5 ⟨x, j', rfl, hxb, hjq, hx, hone, hgr⟩
              have X5 : FW w w5 e ib fb j' := ⟨X4.be.grown hgr (by intro e; injection e with e; omega), X4.br.grown hgr (by intro e; injection e with e; omega), ⟨hone, X4.fi.bf.grown_ hgr (by intro e; injection e with e; exact X4.fi.ne e), X4.fi.ne⟩, grown_trans X4.gr hgr⟩
              clear g0 g1 g2 g3 g4 g5 g6 g7 cf HI2 X4 hone hgr BC hal
              obtain ⟨z0, z1, z2, z3, z4, z5, z6⟩ := box_zero X5.br
              have f0 := X5.br.fr 0
              have f1 := X5.br.fr 1
              have f2 := X5.br.fr 2
              have f3 := X5.br.fr 3
              have f4 := X5.br.fr 4
              have f5 := X5.br.fr 5
              have f6 := X5.br.fr 6
              have HI2 := Lib.hid (pt7_in (w3 := w5) (b := w.heap.size + 1) (x := x) (S' := New w) hx (fun q hq _ => by have h1 : w4.heap.size ≤ q := hq; exact ⟨by omega, by show w.heap.size ≤ q; omega⟩))
              have HG := Lib.hid (grown_new X5.gr (pt7_grown w5 (w.heap.size + 1) x) (by omega))
              have HO := Lib.hid (X5.fi.bi.grown_ (pt7_grown w5 (w.heap.size + 1) x) (by intro e; injection e with e; omega))
              have HP := Lib.hid (bx7q (seven_put X5.br (.int .i64 x.kd) (.int .i64 x.lo) (.int .i64 x.hi) (.int .i64 x.sz) (.string x.nm) (.slice x.na x.ns.length x.nc) (.slice x.ad x.ks.length x.cap)))
              clear hx X5
              go_wp2_with fail
              obtain ⟨r0, r1, r2, r3, r4, r5, r6⟩ := HP.out
              refine bodyPost_ret (v := .tuple #[x.val, .int .i64 (fcd o)]) (by simp [results, Tryz.results19, go_sem, r0, r1, r2, r3, r4, r5, r6]) rfl ?_
              unfold F1P
              exact ⟨x, j', rfl, hxb, hjq, HI2.out, HO.out, HG.out⟩
            · rw [if_neg hq] at hpk2
              have HP2 := Lib.hid hpk2
              have q1 : (c.1.toList == s1.toList) = false := by rw [str_eq]; exact decide_eq_false (fun h => hq ((HF0.out c).2 h))
              have Xd := X4.below (show Below w4.heap.size w4 w4.drew from (Below.refl _ _).drew)
              have BD := BC.drew
              have HSz := Lib.hid (size_any c.2 w4.drew ((hk4.more (show L ≤ w4.heap.size by omega)).at (show Below w4.heap.size w4 w4.drew from (Below.refl _ _).drew)) (G.no_badA hkV.mal hkV.out) hkn)
              have e1 : IntKind.i64.wrap (j + c.2.cnt) = j + c.2.cnt := IntWalk.i64_in _ (by omega)
              have e2 : IntKind.i64.wrap (c.2.cnt + j) = j + c.2.cnt := (IntWalk.i64_in _ (by omega)).trans (by omega)
              have g0 : w4.cell? ⟨wr.heap.size, 0, none⟩ = some (.string c.1) := BC.c 0 rfl
              have g1 : w4.drew.cell? ⟨wr.heap.size, 1, none⟩ = some (.int .i64 c.2.kd) := BD.c 1 rfl
              have g2 : w4.drew.cell? ⟨wr.heap.size, 2, none⟩ = some (.int .i64 c.2.lo) := BD.c 2 rfl
              have g3 : w4.drew.cell? ⟨wr.heap.size, 3, none⟩ = some (.int .i64 c.2.hi) := BD.c 3 rfl
              have g4 : w4.drew.cell? ⟨wr.heap.size, 4, none⟩ = some (.int .i64 c.2.sz) := BD.c 4 rfl
              have g5 : w4.drew.cell? ⟨wr.heap.size, 5, none⟩ = some (.string c.2.nm) := BD.c 5 rfl
              have g6 : w4.drew.cell? ⟨wr.heap.size, 6, none⟩ = some (.slice c.2.na c.2.ns.length c.2.nc) := BD.c 6 rfl
              have g7 : w4.drew.cell? ⟨wr.heap.size, 7, none⟩ = some (.slice c.2.ad c.2.ks.length c.2.cap) := BD.c 7 rfl
              have ci := Xd.fi.bi.c
              have fi := Xd.fi.bi.fr 0
              have hb33 : j + c.2.cnt ≤ i + 33 * ((k + 1 : Nat) : Int) := by omega
              have hj00 : 0 ≤ j + c.2.cnt := by omega
              clear hpk2 hq HI0 HK HF0 hkin hkV hkn hkd hks hk4 X4 BC BD
              go_upto_region 11 with (fail)
              go_region_law (first
                | (go_simp; go_at_call 23; refine HSz.out.mono ?_; rintro r w5 ⟨rfl, b5⟩; have X5 := Xd.below b5; have ci5 := X5.fi.bi.c; have fi5 := X5.fi.bi.fr 0; have hr5 := rowS_grown (row := none) hr4 (grown_of_below (bTrans (show Below w4.heap.size w4 w4.drew from (Below.refl _ _).drew) b5) none) (fun _ _ => by simp); have X6 := X5.set hib (j + c.2.cnt); have hr6 := rowS_grown hr5 (show w5.grownBy (w5.setCell ⟨ib, 0, none⟩ (.int .i64 (j + c.2.cnt))) (some ib) from grown_set _ _ _ _) (fun b hb => by intro e; injection e with e; have h1 : w.heap.size + 2 ≤ b := hb; omega)))
              all_goals
                clear g0 g1 g2 g3 g4 g5 g6 g7 ci fi ci5 fi5 X5 hr5 b5 Xd hr4 HSz e1 e2 hal
                go_wp2_with fail
                go_roundw
                case rel => exact ⟨k + 1, j + c.2.cnt, by omega, by go_num, HP2, hj00, hb33, X6, hr6⟩
                case measure => simp [intOf]; omega
          · obtain rfl : k = n := by omega
            have HNO : Hid (o = none) := Lib.hid (by rw [hpk.out, List.drop_of_length_le (by rw [hn.out]; exact Nat.le_refl _)]; rfl)
            clear hpk hr HI0 HK HF0
            obtain ⟨z0, z1, z2, z3, z4, z5, z6⟩ := box_zero X.br
            have f0 := X.br.fr 0
            have f1 := X.br.fr 1
            have f2 := X.br.fr 2
            have f3 := X.br.fr 3
            have f4 := X.br.fr 4
            have f5 := X.br.fr 5
            have f6 := X.br.fr 6
            have HI2 := Lib.hid (pt7_in (w3 := wr) (b := w.heap.size + 1) (x := G.zero) (S := fun _ => False) (S' := New w) (zero_in _ _) (fun q hq _ => hq.elim))
            have HG := Lib.hid (grown_new X.gr (pt7_grown wr (w.heap.size + 1) G.zero) (by omega))
            have HO := Lib.hid (X.fi.bi.grown_ (pt7_grown wr (w.heap.size + 1) G.zero) (by intro e; injection e with e; omega))
            have HP := Lib.hid (box_cells (e := G.zero) (seven_put X.br (.int .i64 0) (.int .i64 0) (.int .i64 0) (.int .i64 0) (.string ⟨#[]⟩) (.slice none 0 0) (.slice none 0 0)))
            go_wp2_with fail
            obtain ⟨r0, r1, r2, r3, r4, r5, r6⟩ := HP.out
            refine bodyPost_ret (v := .tuple #[G.zero.val, .int .i64 7]) (by simp [results, Tryz.results19, go_sem, r0, r1, r2, r3, r4, r5, r6]) rfl ?_
            unfold F1P
            exact ⟨G.zero, j, by rw [HNO.out]; rfl, by rw [HNO.out]; exact zero_bare, (fun q hq => by rw [HNO.out] at hq; cases hq), HI2.out, HO.out, HG.out⟩
      · rw [spV_no r hc] at HS
        rw [if_neg hc]
        obtain ⟨o, ho⟩ : ∃ o, Hid ((none : Option (G × Int)) = o) := ⟨_, Lib.hid rfl⟩
        rw [ho.out]
        have HNO : Hid (o = none) := Lib.hid ho.out.symm
        clear hin hm hps hV hnod hb hc X0 hF ih ho
        go_enter Tryz.func19, Tryz.ntmps19
        go_upto_region 1 with (fail)
        revert X
        generalize (w.alloc (.cells #[.int .i64 e.kd, .int .i64 e.lo, .int .i64 e.hi, .int .i64 e.sz, .string e.nm, .slice e.na e.ns.length e.nc, .slice e.ad e.ks.length e.cap] 26)).alloc (.cells zbox 26) = w1
        intro X
        go_wp2_with fail
        refine (HS.out _).mono ?_
        rintro r w2 ⟨rfl, b2⟩
        have X2 := X.below b2
        clear X b2
        obtain ⟨z0, z1, z2, z3, z4, z5, z6⟩ := box_zero X2.br
        have f0 := X2.br.fr 0
        have f1 := X2.br.fr 1
        have f2 := X2.br.fr 2
        have f3 := X2.br.fr 3
        have f4 := X2.br.fr 4
        have f5 := X2.br.fr 5
        have f6 := X2.br.fr 6
        have HI2 := Lib.hid (pt7_in (w3 := w2) (b := w.heap.size + 1) (x := G.zero) (S := fun _ => False) (S' := New w) (zero_in _ _) (fun q hq _ => hq.elim))
        have HG := Lib.hid (grown_new X2.gr (pt7_grown w2 (w.heap.size + 1) G.zero) (by omega))
        have HO := Lib.hid (X2.fi.bi.grown_ (pt7_grown w2 (w.heap.size + 1) G.zero) (by intro e; injection e with e; omega))
        have HP := Lib.hid (box_cells (e := G.zero) (seven_put X2.br (.int .i64 0) (.int .i64 0) (.int .i64 0) (.int .i64 0) (.string ⟨#[]⟩) (.slice none 0 0) (.slice none 0 0)))
        go_wp2_with fail
        obtain ⟨r0, r1, r2, r3, r4, r5, r6⟩ := HP.out
        refine bodyPost_ret (v := .tuple #[G.zero.val, .int .i64 7]) (by simp [results, Tryz.results19, go_sem, r0, r1, r2, r3, r4, r5, r6]) rfl ?_
        unfold F1P
        exact ⟨G.zero, i, by rw [HNO.out]; rfl, by rw [HNO.out]; exact zero_bare, (fun q hq => by rw [HNO.out] at hq; cases hq), HI2.out, HO.out, HG.out⟩
end Go.Proofs.YtlifnabeilnblaaGreatDoor
/- Walks: Find of package types. -/
namespace Go.Proofs.YtlifnabeilnblaaGreatDoor
open Go.RowKit Go.Sort
set_option linter.unusedVariables false

/-- what Find makes: a type, an index, a code -/
def fnT (e : G) (p : ByteArray) : G × Int × Int := if G.chkT nmB e ≠ 0 then (G.zero, 0, G.chkT nmB e) else match G.pk (bs p).length e (bs p) 0 with | none => (G.zero, 0, 7) | some q => (q.1.bare, q.2, 0)
/-- what Find leaves -/
def FnP (y : G × Int × Int) (w : World) (r : Ending) (w' : World) : Prop :=
  ∃ x : G, r = .returned (.tuple #[x.val, .int .i64 y.2.1, .int .i64 y.2.2]) ∧ x.bare = y.1 ∧ G.In w' w'.heap.size x ∧ Below w.heap.size w w'
theorem below_of_grown {w w1 w2 : World} {ib L : Nat} (h : Below L w w1) (hz : L ≤ w1.heap.size) (hg : w1.grownBy w2 (some ib)) (hi : L ≤ ib) : Below L w w2 := h.grown hg hz (fun k e => by cases e; exact hi)
set_option maxRecDepth 100000 in
set_option maxHeartbeats 4000000 in
theorem find_any (e : G) (p : ByteArray) (w : World) (hin : G.In w w.heap.size e) (hT : Tb w.heap.size w) (hps : p.size ≤ 9223372036854775807) :
    Calls Tryz.prog 7 #[e.val, .string p] w (FnP (fnT e p) w) := by
  have X := AnZ.start w e 26 26
  have C1 := Lib.hid (fun W (i : AnZ w W e) => tcheck_any e W (hin.at i.bel) (hT.at i.bel))
  have HE : Hid (fnT e p = if G.chkT nmB e ≠ 0 then (G.zero, 0, G.chkT nmB e) else match G.pk (bs p).length e (bs p) 0 with | none => (G.zero, 0, 7) | some q => (q.1.bare, q.2, 0)) := Lib.hid rfl
  have HV : Hid (G.chkT nmB e = 0 → Vl e ∧ e.nodes ≤ 1000000 ∧ e.dep ≤ 12) := Lib.hid (fun h => by
    have v := G.Vd.of_chkT h
    exact ⟨⟨v.mal, v.mis, v.out, v.nam⟩, by have := v.nodes; omega, v.dep⟩)
  have HIN := Lib.hid hin
  have HPS := Lib.hid hps
  obtain ⟨c, hc⟩ : ∃ c, Hid (G.chkT nmB e = c) := ⟨_, Lib.hid rfl⟩
  obtain ⟨y, hy⟩ : ∃ y, Hid (fnT e p = y) := ⟨_, Lib.hid rfl⟩
  rw [hc.out] at C1 HE HV
  rw [hy.out] at HE ⊢
  clear hc hy hin hT hps
  go_enter Tryz.func7, Tryz.ntmps7
  go_upto_region 1 with (fail)
  revert X
  generalize (w.alloc (.cells #[.int .i64 e.kd, .int .i64 e.lo, .int .i64 e.hi, .int .i64 e.sz, .string e.nm, .slice e.na e.ns.length e.nc, .slice e.ad e.ks.length e.cap] 26)).alloc (.cells zbox 26) = w1
  intro X
  obtain ⟨k0, k1, k2, k3, k4, k5, k6⟩ := box_cells X.be
  go_wp2_with fail
  refine (C1.out _ X).mono ?_
  rintro r w2 ⟨rfl, b2⟩
  have hbr := X.br.lt
  replace X := X.below b2
  have hs2 := b2.size
  clear k0 k1 k2 k3 k4 k5 k6 b2 C1
  by_cases h0 : c = 0
  case neg =>
    have q0 : (c != 0) = true := by simpa using h0
    have HY : Hid (y = (G.zero, 0, c)) := Lib.hid (by rw [HE.out, if_pos h0])
    obtain ⟨z0, z1, z2, z3, z4, z5, z6⟩ := box_zero X.br
    have f0 := X.br.fr 0
    have f1 := X.br.fr 1
    have f2 := X.br.fr 2
    have f3 := X.br.fr 3
    have f4 := X.br.fr 4
    have f5 := X.br.fr 5
    have f6 := X.br.fr 6
    have HI2 := Lib.hid (pt7_in (w3 := w2) (b := w.heap.size + 1) (x := G.zero) (S := fun _ => False) (S' := fun _ => True) (zero_in _ _) (fun q hq _ => hq.elim))
    have HBl := Lib.hid (X.bel.grown (pt7_grown w2 (w.heap.size + 1) G.zero) X.bel.size (fun k e => by cases e; omega))
    have HP := Lib.hid (box_cells (e := G.zero) (seven_put X.br (.int .i64 0) (.int .i64 0) (.int .i64 0) (.int .i64 0) (.string ⟨#[]⟩) (.slice none 0 0) (.slice none 0 0)))
    clear HE HV h0
    go_wp2_with fail
    obtain ⟨r0, r1, r2, r3, r4, r5, r6⟩ := HP.out
    refine bodyPost_ret (v := .tuple #[G.zero.val, .int .i64 0, .int .i64 c]) (by simp [results, Tryz.results7, go_sem, r0, r1, r2, r3, r4, r5, r6]) rfl ?_
    unfold FnP
    exact ⟨G.zero, by rw [HY.out], by rw [HY.out]; exact zero_bare, G.InS.in_ _ HI2.out, HBl.out⟩
  have q0 : (c != 0) = false := by rw [h0]; rfl
  obtain ⟨hv1, hv2, hv3⟩ := HV.out h0
  have HE2 : Hid (y = match G.pk (bs p).length e (bs p) 0 with | none => (G.zero, 0, 7) | some q => (q.1.bare, q.2, 0)) := Lib.hid (by rw [HE.out, if_neg (by rw [h0]; simp)])
  obtain ⟨k0, k1, k2, k3, k4, k5, k6⟩ := box_cells X.be
  clear HE HV h0
  have hF : FI ((w2.alloc (.cells #[.int .i64 0] 3)).alloc (.cells #[fnV (w2.heap.size + 1) w2.heap.size] 61)) w2.heap.size (w2.heap.size + 1) 0 :=
    ⟨(One.new_ _ _ _).alloc _, by
      have := One.new_ (w2.alloc (.cells #[.int .i64 0] 3)) (fnV (w2.heap.size + 1) w2.heap.size) 61
      rwa [World.size_alloc] at this, by omega⟩
  have b4 : Below w2.heap.size w2 ((w2.alloc (.cells #[.int .i64 0] 3)).alloc (.cells #[fnV (w2.heap.size + 1) w2.heap.size] 61)) := (al1 _ _).alloc (by simp) _
  have X4 := X.below b4
  go_upto_region 7 with (fail)
  clear k0 k1 k2 k3 k4 k5 k6
  revert hF b4 X4
  generalize (w2.alloc (.cells #[.int .i64 0] 3)).alloc (.cells #[fnV (w2.heap.size + 1) w2.heap.size] 61) = w4
  intro hF b4 X4
  have HI := find_all (bs p).length e p 0 w2.heap.size (w2.heap.size + 1) w.heap.size w4 hF (HIN.out.below X4.bel) (by omega) (by omega) (Nat.le_refl _) HPS.out hv1 hv2 (by decide) (by omega)
  obtain ⟨o, ho⟩ : ∃ o, Hid (G.pk (bs p).length e (bs p) 0 = o) := ⟨_, Lib.hid rfl⟩
  rw [ho.out] at HI HE2
  have HI2 := Lib.hid HI
  unfold F1P at HI2
  have hs4 := b4.size
  have cf := hF.bf.c
  obtain ⟨k0, k1, k2, k3, k4, k5, k6⟩ := box_cells X4.be
  clear HI ho hv1 hv2 hv3 X HIN HPS
  go_wp2_with fail
  refine HI2.out.mono ?_
  rintro r w5 ⟨x, j, rfl, hxb, hjq, hx, hone, hgr⟩
  have X5 : AnZ w w5 e := ⟨X4.be.grown hgr (by intro e; injection e with e; omega), X4.br.grown hgr (by intro e; injection e with e; omega), below_of_grown X4.bel X4.bel.size hgr (by omega)⟩
  have b6 := al1 w5 (.cells x.box 26)
  have BX := Blk.new_ w5 x.box 26
  have hx6 := hx.below b6
  have hone6 := hone.below b6 hone.lt
  replace X5 := X5.below b6
  clear k0 k1 k2 k3 k4 k5 k6 HI2 hx hone hgr b6 X4 hF cf
  go_upto_region 8 with (fail)
  revert BX hx6 hone6 X5
  generalize w5.alloc (.cells #[.int .i64 x.kd, .int .i64 x.lo, .int .i64 x.hi, .int .i64 x.sz, .string x.nm, .slice x.na x.ns.length x.nc, .slice x.ad x.ks.length x.cap] 26) = w6
  intro BX hx6 hone6 X5
  cases o with
  | none =>
    have HY : Hid (y = (G.zero, 0, 7)) := Lib.hid HE2.out
    obtain ⟨z0, z1, z2, z3, z4, z5, z6⟩ := box_zero X5.br
    have f0 := X5.br.fr 0
    have f1 := X5.br.fr 1
    have f2 := X5.br.fr 2
    have f3 := X5.br.fr 3
    have f4 := X5.br.fr 4
    have f5 := X5.br.fr 5
    have f6 := X5.br.fr 6
    have HI2 := Lib.hid (pt7_in (w3 := w6) (b := w.heap.size + 1) (x := G.zero) (S := fun _ => False) (S' := fun _ => True) (zero_in _ _) (fun q hq _ => hq.elim))
    have HBl := Lib.hid (X5.bel.grown (pt7_grown w6 (w.heap.size + 1) G.zero) X5.bel.size (fun k e => by cases e; omega))
    have HP := Lib.hid (box_cells (e := G.zero) (seven_put X5.br (.int .i64 0) (.int .i64 0) (.int .i64 0) (.int .i64 0) (.string ⟨#[]⟩) (.slice none 0 0) (.slice none 0 0)))
    have hf7 : fcd none = 7 := rfl
    clear HE2 BX hx6 hone6
    go_wp2_with fail
    obtain ⟨r0, r1, r2, r3, r4, r5, r6⟩ := HP.out
    refine bodyPost_ret (v := .tuple #[G.zero.val, .int .i64 0, .int .i64 7]) (by simp [results, Tryz.results7, go_sem, hf7, r0, r1, r2, r3, r4, r5, r6]) rfl ?_
    unfold FnP
    exact ⟨G.zero, by rw [HY.out], by rw [HY.out]; exact zero_bare, G.InS.in_ _ HI2.out, HBl.out⟩
  | some q =>
    have HY : Hid (y = (q.1.bare, q.2, 0)) := Lib.hid HE2.out
    have hj := hjq q rfl
    subst hj
    have hxb2 : x.bare = q.1.bare := hxb
    have hf0 : fcd (some q) = 0 := rfl
    have Xd := X5.below (show Below w6.heap.size w6 w6.drew from (Below.refl _ _).drew)
    have BD := BX.drew
    obtain ⟨m0, m1, m2, m3, m4, m5, m6⟩ := box_cells BD
    have ci : w6.drew.cell? ⟨w2.heap.size, 0, none⟩ = some (.int .i64 q.2) := hone6.drew.c
    obtain ⟨z0, z1, z2, z3, z4, z5, z6⟩ := box_zero Xd.br
    have f0 := Xd.br.fr 0
    have f1 := Xd.br.fr 1
    have f2 := Xd.br.fr 2
    have f3 := Xd.br.fr 3
    have f4 := Xd.br.fr 4
    have f5 := Xd.br.fr 5
    have f6 := Xd.br.fr 6
    have hI0 := pt7_in (w3 := w6) (b := w.heap.size + 1) (x := x) (S' := fun _ => True) hx6 (fun q hq _ => by have h1 : w4.heap.size ≤ q := hq; exact ⟨by omega, trivial⟩)
    have HI2 := Lib.hid (hI0.below (show Below (pt7 w6 (w.heap.size + 1) x).heap.size (pt7 w6 (w.heap.size + 1) x) (pt7 w6 (w.heap.size + 1) x).drew from (Below.refl _ _).drew))
    have HBl := Lib.hid ((X5.bel.grown (pt7_grown w6 (w.heap.size + 1) x) X5.bel.size (fun k e => by cases e; omega)).drew)
    have HP := Lib.hid (bx7q (seven_put X5.br (.int .i64 x.kd) (.int .i64 x.lo) (.int .i64 x.hi) (.int .i64 x.sz) (.string x.nm) (.slice x.na x.ns.length x.nc) (.slice x.ad x.ks.length x.cap)).drew)
    obtain ⟨y0, y1, y2, y3, y4, y5, y6⟩ := box_zero X5.br
    have j0 := X5.br.fr 0
    have j1 := X5.br.fr 1
    have j2 := X5.br.fr 2
    have j3 := X5.br.fr 3
    have j4 := X5.br.fr 4
    have j5 := X5.br.fr 5
    have j6 := X5.br.fr 6
    have ci6 := hone6.c
    have ci7 := (hone6.grown_ (pt7_grown w6 (w.heap.size + 1) x) (by intro e; injection e with e; omega)).c
    unfold pt7 at ci7
    have hne : w2.heap.size ≠ w.heap.size + 1 := by omega
    clear HE2 BX hx6 hone6 hI0 hjq hxb
    go_wp2_with fail
    go_region
    all_goals
      go_wp2_with fail
      obtain ⟨r0, r1, r2, r3, r4, r5, r6⟩ := HP.out
      refine bodyPost_ret (v := .tuple #[x.val, .int .i64 q.2, .int .i64 0]) (by simp [results, Tryz.results7, go_sem, r0, r1, r2, r3, r4, r5, r6]) rfl ?_
      unfold FnP
      exact ⟨x, by rw [HY.out], by rw [HY.out]; exact hxb2, G.InS.in_ _ HI2.out, HBl.out⟩
end Go.Proofs.YtlifnabeilnblaaGreatDoor
