/- Walks: Text. -/
import Derived.Test.YtckenemkfegopaaDoorW8
import Derived.Test.YtckenemkfegopaaDoorShelf
import Derived.Lib.AppendIntMem
namespace Go.Proofs.YtckenemkfegopaaDoor
open Go.RowKit
set_option linter.unusedVariables false

/-- a member in the text, behind a separator if it isn't the first one -/
def piece (k : Nat) (x : Nat) : List UInt8 := (if k = 0 then [] else [44, 32]) ++ Lib.itoa (x : Int)
/-- the first k members in the text -/
def pieces (l : List Nat) (k : Nat) : List UInt8 := (List.range k).flatMap fun t => piece t (l.getD t 0)
theorem pieces_succ (l : List Nat) (k : Nat) : pieces l (k + 1) = pieces l k ++ piece k (l.getD k 0) := by
  unfold pieces; rw [List.range_succ, List.flatMap_append]; simp
/-- the text of a set -/
def textOf (n : Nat) (l : List Nat) : List UInt8 := [123] ++ pieces l l.length ++ [125, 47] ++ Lib.itoa (n : Int)

theorem bytes_app (l : List UInt8) (s : List UInt8) : Lib.byteCells l ++ Lib.strCells ⟨s.toArray⟩ = Lib.byteCells (l ++ s) := by
  simp [Lib.byteCells, Lib.strCells]
theorem bytes_one (l : List UInt8) (b : UInt8) (c : Int) (h : c = (b.toNat : Int)) : Lib.byteCells l ++ [.int .u8 c] = Lib.byteCells (l ++ [b]) := by
  subst h; simp [Lib.byteCells]

theorem itoa_len (n : Int) (h0 : 0 ≤ n) (h1 : n ≤ 4096) : (Lib.itoa n).length ≤ 4 := by
  unfold Lib.itoa
  rw [if_neg (by omega), Lib.decDigits_length]
  have h : n.toNat < 10 ^ 4 := by omega
  have key : ∀ (k u : Nat), u < 10 ^ (k + 1) → Lib.nDigits u ≤ k + 1 := by
    intro k
    induction k with
    | zero => intro u hu; rw [Lib.nDigits_small (by simpa using hu)]; exact Nat.le_refl _
    | succ k ih =>
      intro u hu
      by_cases hs : u < 10
      · rw [Lib.nDigits_small hs]; omega
      · rw [Lib.nDigits_big hs]
        have := ih (u / 10) (by rw [Nat.pow_succ] at hu; omega)
        omega
  exact key 3 _ h

theorem pieces_len (l : List Nat) (k : Nat) (hl : ∀ t, l.getD t 0 ≤ 4096) : (pieces l k).length ≤ 6 * k := by
  induction k with
  | zero => simp [pieces]
  | succ k ih =>
    rw [pieces_succ, List.length_append]
    have h1 := itoa_len (l.getD k 0 : Nat) (by omega) (by have := hl k; omega)
    have h2 : (piece k (l.getD k 0)).length ≤ 6 := by
      generalize l.getD k 0 = x at *
      unfold piece; rw [List.length_append]; split <;> simp <;> omega
    omega

/-- what a builder's writing leaves of an owned row of another type -/
theorem own_others {w w' : World} {base bt e n : Nat} {v : Value} {xs : List Value} (h : w.ownsRow base e 1 v n xs) (hk : Lib.OthersKept 5 (some bt) w w') (he : e ≠ 5) (hne : v.ownBlock ≠ some bt) : w'.ownsRow base e 1 v n xs := by
  refine ⟨h.1, ?_⟩
  rcases h.2 with h2 | ⟨g, cap, cur, rfl, hb, hg, rest⟩
  · exact .inl h2
  · refine .inr ⟨g, cap, cur, rfl, hb, hk g _ hg (fun e => hne (by simpa [Value.ownBlock] using e)) (fun c fz e2 => ?_), rest⟩
    injection e2 with _ e3 _
    exact he e3

theorem own_below {w w' : World} {base e n : Nat} {v : Value} {xs : List Value} (h : w.ownsRow base e 1 v n xs) (hb : Below w.heap.size w w') : w'.ownsRow base e 1 v n xs :=
  h.kept (row := none) ⟨hb.os, hb.tape, hb.output, hb.size, fun k hk _ => hb.block k hk⟩ (by cases hv : v.ownBlock <;> simp)

theorem builder_below {w w' : World} {T e B b : Nat} {bs : List Value} (h : Lib.IsBuilderF T e B b bs w) (hb : Below w.heap.size w w') : Lib.IsBuilderF T e B b bs w' := by
  have key : ∀ p, Lib.BuilderAtF T e B b p bs w → Lib.BuilderAtF T e B b p bs w' := by
    intro p hp
    have hlt := hp.lt
    obtain ⟨hB, v, hv, hown, hne⟩ := hp
    exact ⟨hB, v, (hb.block b hlt).trans hv, hown.kept (row := none) ⟨hb.os, hb.tape, hb.output, hb.size, fun k hk _ => hb.block k hk⟩ (by cases hv : v.ownBlock <;> simp), hne⟩
  rcases h with h | h
  · exact .inl (key _ h)
  · exact .inr (key _ h)

theorem members_lt (ws : List Nat) (n t : Nat) (hn : n ≤ 4096) : (Kb.membersTo (Kb.bitAt ws) n).getD t 0 ≤ 4096 := by
  rw [List.getD_eq_getElem?_getD]
  by_cases h : t < (Kb.membersTo (Kb.bitAt ws) n).length
  · rw [List.getElem?_eq_getElem h]
    have hm := List.getElem_mem h
    unfold Kb.membersTo at hm
    have := List.mem_range.1 (List.mem_filter.1 hm).1
    show (Kb.membersTo (Kb.bitAt ws) n)[t] ≤ 4096
    unfold Kb.membersTo
    omega
  · rw [List.getElem?_eq_none (by omega)]; simp

theorem icell_at {w : World} {base n c : Nat} {A : Option Addr} {L : List Nat} {k : Nat} (h : w.ownsRow base 3 1 (.slice A n c) n (icells L)) (hk : k < L.length) :
    ∃ b off x, A = some ⟨b, off, none⟩ ∧ b < w.heap.size ∧ w.cell? ⟨b, off + k, none⟩ = some (.int .i64 ((x : Nat) : Int)) ∧ Hid (x = L.getD k 0) := by
  obtain ⟨b, off, hA, hb, hc⟩ := (Row.of_own h).cells (by simp [icells]; omega)
  refine ⟨b, off, L.getD k 0, hA, hb, hc k _ ?_, Lib.hid rfl⟩
  unfold icells
  rw [List.getElem?_map, List.getElem?_eq_getElem hk, List.getD_eq_getElem?_getD, List.getElem?_eq_getElem hk]; rfl

/-- Text's world -/
structure TxInv (w wr : World) (bt : Nat) (x y : Value) (l : List UInt8) : Prop where
  t1 : Two wr w.heap.size x y
  bd : Lib.IsBuilderF 70 5 bt bt (Lib.byteCells l) wr
  hz : w.heap.size < bt
  bel : Below w.heap.size w wr
  hbt : bt ≤ wr.heap.size

theorem TxInv.wrote {w wr wx : World} {bt : Nat} {x y : Value} {l l' : List UInt8} {bs : List Value} (h : TxInv w wr bt x y l) (ha : Lib.BuilderAtF 70 5 bt bt (.pointer (some ⟨bt, 0, none⟩)) bs wx) (hb : Below bt wr wx) (e : bs = Lib.byteCells l') : TxInv w wx bt x y l' :=
  ⟨h.t1.below hb h.hz, .inr (by rw [← e]; exact ha), h.hz, h.bel.trans (hb.mono (Nat.le_of_lt h.hz)), Nat.le_trans h.hbt hb.size⟩
theorem TxInv.below {w wr wx : World} {bt : Nat} {x y : Value} {l : List UInt8} (h : TxInv w wr bt x y l) (hb : Below wr.heap.size wr wx) : TxInv w wx bt x y l :=
  ⟨h.t1.below hb h.t1.lt, builder_below h.bd hb, h.hz, h.bel.trans (hb.mono (Nat.le_trans (Nat.le_of_lt h.hz) h.hbt)), Nat.le_trans h.hbt hb.size⟩

theorem itoa_any (n : Int) (h0 : 0 ≤ n) (h1 : n ≤ 4096) (w : World) (ht : Tabs w) :
    Calls Tryd.prog 93 #[.int .i64 n] w fun e w' => e = .returned (.string ⟨(Lib.itoa n).toArray⟩) ∧ Below w.heap.size w w' :=
  (Tryd.strconv_Itoa n (by omega) (by omega) w ht.pw).mono fun e w' ⟨he, k, os, hw⟩ => ⟨he, by rw [hw]; exact Lib.below_grow _ w (Nat.le_refl _) k os⟩

set_option maxRecDepth 100000 in
set_option maxHeartbeats 1000000 in
theorem text_ok (n : Nat) (A : Option Addr) (c : Nat) (ws : List Nat) (w : World) (h : Words w w.heap.size A ws) (hok : Kb.Ok n ws) (hn : n ≤ 4096) (ht : Tabs w) :
    Calls Tryd.prog 49 #[setV n A ws.length c] w fun e w' => e = .returned (.string ⟨(textOf n (Kb.membersTo (Kb.bitAt ws) n)).toArray⟩) ∧ Below w.heap.size w w' := by
  have hl : ws.length ≤ 64 := by rw [hok.len]; unfold Kb.nw; omega
  have hv : Hid (Kb.validB n ws = true) := Lib.hid ((Kb.validB_iff h.lt).2 ⟨by omega, by omega, hok⟩)
  unfold setV
  go_enter Tryd.func49, Tryd.ntmps49
  go_wp2_with fail
  have hX := h.alloc (Nat.le_refl _) (.cells #[.int .i64 (n : Int), .slice A ws.length c] 46)
  refine (bvalid_any n A c ws _ (hX.more (by simp)) (by omega)).mono ?_
  rintro e w1 ⟨rfl, hb⟩
  rw [hv.out]
  have t1 : Two w1 w.heap.size (.int .i64 (n : Int)) (.slice A ws.length c) := (Two.new_ _ _ _ _).below hb (by simp)
  have hB : Below w.heap.size w w1 := ((Below.refl _ _).alloc (Nat.le_refl _) _).trans (hb.mono (by simp))
  have hz : w.heap.size < w1.heap.size := by have := hb.size; simp at this; omega
  go_wp2_with fail
  have hinv : TxInv w (w1.alloc (.cells #[.pointer none, .slice none 0 0] 70)) w1.heap.size (.int .i64 (n : Int)) (.slice A ws.length c) [] :=
    ⟨t1.alloc _, .inl ⟨Nat.le_refl _, .slice none 0 0, heap_alloc_new _ _, World.ownsRowF_nil _ _ _ _, by simp [Value.ownBlock]⟩, hz, hB.alloc (Nat.le_of_lt hz) _, by simp⟩
  generalize hbt : w1.heap.size = bt at *
  revert hinv
  generalize w1.alloc (.cells #[.pointer none, .slice none 0 0] 70) = wa
  intro hinv
  refine (writeByte bt bt _ 123 wa hinv.bd (by simp [Lib.byteCells]) hinv.hbt).mono ?_
  rintro e w2 ⟨rfl, ha2, hb2, _⟩
  have hinv2 := hinv.wrote ha2 hb2 (bytes_one [] 123 123 rfl)
  clear hinv ha2 hb2 hbt
  have c10 := hinv2.t1.c0
  have c11 := hinv2.t1.c1
  go_wp2_with fail
  have hX2 := (h.below hinv2.bel).more (Nat.le_trans (Nat.le_of_lt hinv2.hz) hinv2.hbt)
  refine (members_ok n A c ws w2 hX2 hok hn (ht.below hinv2.bel)).mono ?_
  rintro e w3 ⟨A', c', rfl, hown, hb3⟩
  have hinv3 := hinv2.below hb3
  have hgt : ∀ g, (Value.slice A' (Kb.membersTo (Kb.bitAt ws) n).length c').ownBlock = some g → bt < g := fun g hg => by
    have := (hown.lt g hg).1; have := hinv2.hbt; omega
  have hlm := Kb.membersTo_le (Kb.bitAt ws) n
  have hmem : Hid (∀ t, (Kb.membersTo (Kb.bitAt ws) n).getD t 0 ≤ 4096) := Lib.hid (fun t => members_lt ws n t hn)
  clear hinv2 hX2 c10 c11
  have hG := Lib.hid hgt
  clear hgt
  obtain ⟨L, hL⟩ : ∃ L, L = Kb.membersTo (Kb.bitAt ws) n := ⟨_, rfl⟩
  rw [← hL] at hown hlm hmem
  rw [← hL]
  have hLL := Lib.hid hL
  clear hL
  go_wp2_with fail
  go_loopw [13] (fun kv wr => ∃ k : Nat, k ≤ L.length ∧ kv = .int .i64 k ∧ TxInv w wr bt (.int .i64 (n : Int)) (.slice A ws.length c) ([123] ++ pieces L k) ∧ wr.ownsRow (w2.heap.size + 1) 3 1 (.slice A' L.length c') L.length (icells L)) (fun kv _ => L.length - (intOf kv).toNat)
  case atStart => exact ⟨0, Nat.zero_le _, rfl, hinv3, hown⟩
  case round =>
    obtain ⟨k, hk, rfl, hinv, howr⟩ := hrel
    have c10 := hinv.t1.c0
    have c11 := hinv.t1.c1
    by_cases hlt : k < L.length
    · obtain ⟨b, off, x, rfl, hbb, hc, hx⟩ := icell_at howr hlt
      have hx2 : x ≤ 4096 := by rw [hx.out]; exact hmem.out k
      have hpl := pieces_len L k hmem.out
      by_cases hk0 : k = 0
      · have hkb : ¬ (0 : Int) < (k : Int) := by omega
        have hK := Lib.hid hk0
        clear hk0
        go_wp2_with fail
        refine (itoa_any x (by omega) (by omega) wr (ht.below hinv.bel)).mono ?_
        rintro e wb ⟨rfl, hbb2⟩
        have hinvb := hinv.below hbb2
        have howb := own_below howr hbb2
        clear c10 c11 hc
        go_wp2_with fail
        refine (writeString bt bt _ _ wb hinvb.bd (by have := itoa_len x (by omega) (by omega); simp [Lib.byteCells, ByteArray.size]; omega) hinvb.hbt).mono ?_
        rintro e wc ⟨rfl, hac, hbc, hoc⟩
        have hinvc := hinvb.wrote hac hbc (l' := [123] ++ pieces L (k + 1)) (by
          rw [bytes_app, pieces_succ, ← hx.out]; unfold piece; rw [if_pos hK.out]; simp)
        have howc := own_others howb hoc (by decide) (fun e => by have := hG.out bt e; omega)
        clear hac hbc hoc hinvb howb
        go_wp2_with fail
        go_roundw
        case rel => exact ⟨k + 1, by omega, by go_num, hinvc, howc⟩
        case measure => simp [intOf]; omega
      · have hkb : (0 : Int) < (k : Int) := by omega
        have hK := Lib.hid hk0
        clear hk0
        go_wp2_with fail
        refine (writeString bt bt _ _ wr hinv.bd (by simp [Lib.byteCells, ByteArray.size]; omega) hinv.hbt).mono ?_
        rintro e wa2 ⟨rfl, haa, hba, hoa⟩
        have hinva := hinv.wrote haa hba (l' := [123] ++ pieces L k ++ [44, 32]) (bytes_app _ [44, 32])
        have howa := own_others howr hoa (by decide) (fun e => by have := hG.out bt e; omega)
        clear haa hba hoa c10 c11 hc
        go_wp2_with fail
        refine (itoa_any x (by omega) (by omega) wa2 (ht.below hinva.bel)).mono ?_
        rintro e wb ⟨rfl, hbb2⟩
        have hinvb := hinva.below hbb2
        have howb := own_below howa hbb2
        clear hinva howa
        go_wp2_with fail
        refine (writeString bt bt _ _ wb hinvb.bd (by have := itoa_len x (by omega) (by omega); simp [Lib.byteCells, ByteArray.size]; omega) hinvb.hbt).mono ?_
        rintro e wc ⟨rfl, hac, hbc, hoc⟩
        have hinvc := hinvb.wrote hac hbc (l' := [123] ++ pieces L (k + 1)) (by
          rw [bytes_app, pieces_succ, ← hx.out]; unfold piece; rw [if_neg hK.out]; simp)
        have howc := own_others howb hoc (by decide) (fun e => by have := hG.out bt e; omega)
        clear hac hbc hoc hinvb howb
        go_wp2_with fail
        go_roundw
        case rel => exact ⟨k + 1, by omega, by go_num, hinvc, howc⟩
        case measure => simp [intOf]; omega
    · obtain rfl : k = L.length := by omega
      have hpl := pieces_len L L.length hmem.out
      go_wp2_with fail
      refine (writeString bt bt _ _ wr hinv.bd (by simp [Lib.byteCells, ByteArray.size]; omega) hinv.hbt).mono ?_
      rintro e wa2 ⟨rfl, haa, hba, hoa⟩
      have hinva := hinv.wrote haa hba (l' := [123] ++ pieces L L.length ++ [125, 47]) (bytes_app _ [125, 47])
      clear haa hba hoa c10 c11
      have c10 := hinva.t1.c0
      go_wp2_with fail
      refine (itoa_any n (by omega) (by omega) wa2 (ht.below hinva.bel)).mono ?_
      rintro e wb ⟨rfl, hbb2⟩
      have hinvb := hinva.below hbb2
      clear hinva c10
      go_wp2_with fail
      refine (writeString bt bt _ _ wb hinvb.bd (by have := itoa_len n (by omega) (by omega); simp [Lib.byteCells, ByteArray.size]; omega) hinvb.hbt).mono ?_
      rintro e wc ⟨rfl, hac, hbc, hoc⟩
      have hinvc := hinvb.wrote hac hbc (l' := textOf n L) (by rw [bytes_app]; rfl)
      clear hac hbc hoc hinvb
      go_wp2_with fail
      refine (builderString bt bt _ wc hinvc.bd hinvc.hbt).mono ?_
      rintro e wd ⟨rfl, _, hbd, _⟩
      go_wp2_with fail
      go_ret
      refine ⟨?_, hinvc.bel.trans (hbd.mono (Nat.le_of_lt hinvc.hz))⟩
      rw [← hLL.out]; rfl
end Go.Proofs.YtckenemkfegopaaDoor
