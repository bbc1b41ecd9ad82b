/- Walks: Text. -/
import Derived.Test.YtmhfdmidaheoeaaDoorT4
namespace Go.Proofs.YtmhfdmidaheoeaaDoor
open Go.RowKit
set_option linter.unusedVariables false

theorem bytes_app (l : List UInt8) (s : ByteArray) : Lib.byteCells l ++ Lib.strCells s = Lib.byteCells (l ++ s.data.toList) := by
  simp [Lib.byteCells, Lib.strCells]
theorem bytes_one (l : List UInt8) (b : UInt8) (c : Int) (h : c = (b.toNat : Int)) : Lib.byteCells l ++ [.int .u8 c] = Lib.byteCells (l ++ [b]) := by
  subst h; simp [Lib.byteCells]
/-- what a builder's writing leaves of an owned row of another type -/
theorem own_others {w w' : World} {base bt e n : Nat} {v : Value} {xs : List Value} (h : w.ownsRow base e 1 v n xs) (hk : Lib.OthersKept 5 (some bt) w w') (he : e ≠ 5) (hne : v.ownBlock ≠ some bt) : w'.ownsRow base e 1 v n xs := by
  refine ⟨h.1, ?_⟩
  rcases h.2 with h2 | ⟨g, cap, cur, rfl, hb, hg, rest⟩
  · exact .inl h2
  · refine .inr ⟨g, cap, cur, rfl, hb, hk g _ hg (fun e => hne (by simpa [Value.ownBlock] using e)) (fun c fz e2 => ?_), rest⟩
    injection e2 with _ e3 _
    exact he e3
theorem builder_below {w w' : World} {T e B b : Nat} {bs : List Value} (h : Lib.IsBuilderF T e B b bs w) (hb : Below w.heap.size w w') : Lib.IsBuilderF T e B b bs w' := by
  have key : ∀ p, Lib.BuilderAtF T e B b p bs w → Lib.BuilderAtF T e B b p bs w' := by
    intro p hp
    have hlt := hp.lt
    obtain ⟨hB, v, hv, hown, hne⟩ := hp
    exact ⟨hB, v, (hb.block b hlt).trans hv, hown.kept (row := none) ⟨hb.os, hb.tape, hb.output, hb.size, fun k hk _ => hb.block k hk⟩ (by cases hv : v.ownBlock <;> simp), hne⟩
  rcases h with h | h
  · exact .inl (key _ h)
  · exact .inr (key _ h)
/-- Text's world -/
structure TxInv (w wr : World) (bt : Nat) (x y : Value) (l : List UInt8) : Prop where
  t1 : Two wr w.heap.size x y
  bd : Lib.IsBuilderF 53 5 bt bt (Lib.byteCells l) wr
  hz : w.heap.size < bt
  bel : Below w.heap.size w wr
  hbt : bt ≤ wr.heap.size
theorem TxInv.wrote {w wr wx : World} {bt : Nat} {x y : Value} {l l' : List UInt8} {bs : List Value} (h : TxInv w wr bt x y l) (ha : Lib.BuilderAtF 53 5 bt bt (.pointer (some ⟨bt, 0, none⟩)) bs wx) (hb : Below bt wr wx) (e : bs = Lib.byteCells l') : TxInv w wx bt x y l' :=
  ⟨h.t1.below hb h.hz, .inr (by rw [← e]; exact ha), h.hz, h.bel.trans (hb.mono (Nat.le_of_lt h.hz)), Nat.le_trans h.hbt hb.size⟩
theorem TxInv.below {w wr wx : World} {bt : Nat} {x y : Value} {l : List UInt8} (h : TxInv w wr bt x y l) (hb : Below wr.heap.size wr wx) : TxInv w wx bt x y l :=
  ⟨h.t1.below hb h.t1.lt, builder_below h.bd hb, h.hz, h.bel.trans (hb.mono (Nat.le_trans (Nat.le_of_lt h.hz) h.hbt)), Nat.le_trans h.hbt hb.size⟩

theorem pad_len {g : Nat} (h : g < 10000000000000000000) : (Kn.pad 19 g).length = 19 := by
  have := Kn.dec_len (k := 18) (g := g) h
  unfold Kn.pad
  rw [List.length_append, List.length_replicate]; omega
theorem gtext_len (gs : List Nat) (h : ∀ x ∈ gs, x < 10000000000000000000) : (Kn.gtext gs).length ≤ 19 * gs.length := by
  induction gs with
  | nil => simp [Kn.gtext]
  | cons g l ih =>
    have hg := h g (List.mem_cons_self)
    cases l with
    | nil =>
      have := Kn.dec_len (k := 18) (g := g) hg
      show (Lib.decDigits g).length ≤ 19 * 1
      omega
    | cons g' l =>
      have i := ih (fun x hx => h x (List.mem_cons_of_mem _ hx))
      show (Kn.gtext (g' :: l) ++ Kn.pad 19 g).length ≤ _
      rw [List.length_append, pad_len hg]
      simp at i ⊢; omega
theorem itoa0 : Lib.itoa 0 = [48] := by
  have := Lib.itoa_nonneg 0
  rw [Lib.decDigits_one (by decide)] at this
  exact this
theorem rep0 (c : Nat) : Lib.repeatL (⟨#[48]⟩ : ByteArray).data.toList c = List.replicate c 48 := by
  have := Lib.repeatL_replicate 48 1 c
  simpa using this
theorem u64_at {w : World} {base n c : Nat} {A : Option Addr} {L : List Nat} {k : Nat} (h : w.ownsRow base 48 1 (.slice A n c) n (u64s L)) (hk : k < L.length) :
    ∃ b off x, A = some ⟨b, off, none⟩ ∧ b < w.heap.size ∧ w.cell? ⟨b, off + k, none⟩ = some (.int .u64 ((x : Nat) : Int)) ∧ Hid (x = L.getD k 0) := by
  obtain ⟨b, off, hA, hb, hc⟩ := (Row.of_own h).cells (by rw [u64s_len]; omega)
  refine ⟨b, off, L.getD k 0, hA, hb, hc k _ ?_, Lib.hid rfl⟩
  unfold u64s
  rw [List.getElem?_map, List.getElem?_eq_getElem hk, List.getD_eq_getElem?_getD, List.getElem?_eq_getElem hk]; rfl

set_option maxRecDepth 100000 in
set_option maxHeartbeats 4000000 in
theorem text_false (A : Option Addr) (c : Nat) (ws : List Nat) (w : World) (h : Sl w w.heap.size A c ws) (hl : ws.length ≤ 1000000) (ht : Tabs w) (hp : 0 < Kn.val ws) :
    Calls Tryd.prog 21 #[intV false A ws.length c] w fun e w' => e = .returned (.string ⟨(Lib.itoa (Kn.iv false ws)).toArray⟩) ∧ Below w.heap.size w w' := by
  obtain ⟨T, hT⟩ : ∃ T : Nat, Hid (T = Kn.val ws) := ⟨_, Lib.hid rfl⟩
  have hTp : Hid (0 < T) := Lib.hid (by rw [hT.out]; exact hp)
  have hFin : Hid ([] ++ Lib.decDigits T = Lib.itoa (Kn.iv false ws)) := Lib.hid (by
    have e : Kn.iv false ws = (T : Int) := by unfold Kn.iv; rw [hT.out]; simp
    rw [e, Lib.itoa_nonneg]; rfl)
  have hSn : Hid (∀ w : World, Sl w w.heap.size A c ws → Calls Tryd.prog 12 #[.agg #[.bool false, .slice A ws.length c]] w fun e w' => e = .returned (.int .i64 1) ∧ Below w.heap.size w w') := Lib.hid (fun w h => by
    have := sign_any false A c ws w h (by omega)
    have e : (Kn.iv false ws).sign = 1 := by
      unfold Kn.iv; simp
      first | omega | (apply Int.sign_eq_one_of_pos; omega)
    rw [e] at this
    exact this)
  clear hp
  unfold intV
  go_enter Tryd.func21, Tryd.ntmps21
  go_wp2_with fail
  have t0 := Two.new_ w (.bool false) (.slice A ws.length c) 24
  have hX := (h.alloc (Nat.le_refl _) (.cells #[.bool false, .slice A ws.length c] 24)).more (B' := (w.alloc (.cells #[.bool false, .slice A ws.length c] 24)).heap.size) (by simp)
  have hB0 := al1 w (.cells #[.bool false, .slice A ws.length c] 24)
  have hz0 : w.heap.size < (w.alloc (.cells #[.bool false, .slice A ws.length c] 24)).heap.size := by simp
  revert t0 hX hB0 hz0
  generalize w.alloc (.cells #[.bool false, .slice A ws.length c] 24) = w1
  intro t0 hX hB0 hz0
  refine (hSn.out w1 hX).mono ?_
  rintro e w2 ⟨rfl, hb2⟩
  replace t0 := t0.below hb2 hz0
  have hB2 : Below w.heap.size w w2 := hB0.trans (hb2.mono (Nat.le_of_lt hz0))
  have hz2 : w.heap.size < w2.heap.size := Nat.lt_of_lt_of_le hz0 hb2.size
  clear hX hB0 hz0 hb2
  have c10 := t0.c0
  have c11 := t0.c1
  go_wp2_with fail
  have hinv : TxInv w (w2.alloc (.cells #[.pointer none, .slice none 0 0] 53)) w2.heap.size (.bool false) (.slice A ws.length c) [] :=
    ⟨t0.alloc _, .inl ⟨Nat.le_refl _, .slice none 0 0, heap_alloc_new _ _, World.ownsRowF_nil _ _ _ _, by simp [Value.ownBlock]⟩, hz2, hB2.alloc (Nat.le_of_lt hz2) _, by simp⟩
  generalize hbt : w2.heap.size = bt at *
  revert hinv
  generalize w2.alloc (.cells #[.pointer none, .slice none 0 0] 53) = wa
  intro hinv
  clear c10 c11 t0 hB2 hz2 hbt
  obtain ⟨w3, rfl⟩ : ∃ w3, w3 = wa := ⟨_, rfl⟩
  refine (decimalGroups_any A c ws w3 ((h.below hinv.bel).more hinv.bel.size) (by omega) T hT).mono ?_
  rintro e w4 ⟨A', c', gs, rfl, hown, hb4, hE, hgl⟩
  have hge : ∀ g, (Value.slice A' gs.length c').ownBlock = some g → bt < g := fun g hg => by
    have := (hown.lt g hg).1; have := hinv.hbt; omega
  have hG := Lib.hid hge
  replace hinv := hinv.below hb4
  clear hge hb4
  have HE := Lib.hid hE
  clear hE
  have hgp : 0 < gs.length := by
    rcases Nat.eq_zero_or_pos gs.length with h0 | h0
    · have h1 := HE.out.1
      rw [List.eq_nil_of_length_eq_zero h0] at h1
      have h2 := hTp.out
      rw [← h1] at h2
      exact absurd h2 (by simp [Kn.vb])
    · exact h0
  have hlast : Hid (gs.getD (gs.length - 1) 0 ≠ 0) := Lib.hid (by rcases HE.out.2.2 with h0 | h0; · omega
                                                                  · exact h0)
  have hdec : Hid (Kn.gtext gs = Lib.decDigits T) := Lib.hid (by rw [(Kn.gtext_eq gs HE.out.2.1 hgp hlast.out).1, HE.out.1])
  have hgl19 : Hid (∀ k, (Kn.gtext (gs.drop k)).length ≤ 19 * gs.length) := Lib.hid (fun k => by
    have := gtext_len (gs.drop k) (fun x hx => HE.out.2.1 x (List.mem_of_mem_drop hx))
    rw [List.length_drop] at this; omega)
  obtain ⟨b, off, x, hA', hbb, hc, hx⟩ := u64_at hown (k := gs.length - 1) (by omega)
  have hxl : Hid (x < 10000000000000000000) := Lib.hid (by
    rw [hx.out]
    have hk : gs.length - 1 < gs.length := by omega
    rw [List.getD_eq_getElem?_getD, List.getElem?_eq_getElem hk]
    exact HE.out.2.1 _ (List.getElem_mem hk))
  subst hA'
  have e1 : ((gs.length : Int) - 1).toNat = gs.length - 1 := by omega
  have e2 : (0 : Int) ≤ (gs.length : Int) - 1 := by omega
  go_wp2_with fail
  refine (fmt_any x (by have := hxl.out; omega) w4 (ht.below hinv.bel)).mono ?_
  rintro e w5 ⟨rfl, hb5⟩
  replace hinv := hinv.below hb5
  have how5 := own_below hown hb5
  clear hown hb5 hc hbb
  go_wp2_with fail
  refine (writeString bt bt _ _ w5 hinv.bd (by have := Kn.dec_len (k := 18) (g := x) hxl.out; simp [Lib.byteCells, ByteArray.size] <;> omega) hinv.hbt).mono ?_
  rintro e w6 ⟨rfl, ha6, hb6, ho6⟩
  have hinv6 := hinv.wrote ha6 hb6 (l' := [] ++ Kn.gtext (gs.drop (gs.length - 1))) (by rw [bytes_app, Kn.gtext_last gs hgp, hx.out] <;> rfl)
  have how6 := own_others how5 ho6 (by decide) (fun e => by have := hG.out bt e; omega)
  clear ha6 hb6 ho6 how5 hinv
  go_wp2_with fail
  go_loopw [6] (fun iv wr => ∃ k : Nat, k < gs.length ∧ iv = .int .i64 ((k : Int) - 1) ∧ TxInv w wr bt (.bool false) (.slice A ws.length c) ([] ++ Kn.gtext (gs.drop k)) ∧ wr.ownsRow (w3.heap.size + 1) 48 1 (.slice (some ⟨b, off, none⟩) gs.length c') gs.length (u64s gs)) (fun iv _ => (intOf iv + 1).toNat)
  case atStart => exact ⟨gs.length - 1, by omega, by go_num, hinv6, how6⟩
  case round =>
    clear hinv6 how6 hx hxl e1 e2
    obtain ⟨k, hk, rfl, J, how⟩ := hrel
    have hlk := hgl19.out k
    by_cases hk0 : k = 0
    · have HK := Lib.hid hk0
      subst hk0
      go_wp2_with fail
      refine (builderString bt bt _ wr J.bd J.hbt).mono ?_
      rintro e wd ⟨rfl, _, hbd, _⟩
      go_wp2_with fail
      go_ret
      refine ⟨?_, J.bel.trans (hbd.mono (Nat.le_of_lt J.hz))⟩
      have hf := hFin.out
      rw [← hf, ← hdec.out]
      rfl
    · have hk1 : 0 < k := by omega
      obtain ⟨b2, off2, x, hA2, hbb, hc, hx⟩ := u64_at how (k := k - 1) (by omega)
      injection hA2 with hA2
      injection hA2 with hA3 hA4
      subst hA3 hA4
      have hxl : Hid (x < 10000000000000000000) := Lib.hid (by
        rw [hx.out]
        have hk2 : k - 1 < gs.length := by omega
        rw [List.getD_eq_getElem?_getD, List.getElem?_eq_getElem hk2]
        exact HE.out.2.1 _ (List.getElem_mem hk2))
      have e1 : ((k : Int) - 1).toNat = k - 1 := by omega
      have e2 : (0 : Int) ≤ (k : Int) - 1 := by omega
      have hdl := Kn.dec_len (k := 18) (g := x) hxl.out
      obtain ⟨s, hs⟩ : ∃ s : ByteArray, Hid (s = ⟨(Lib.decDigits x).toArray⟩) := ⟨_, Lib.hid rfl⟩
      have hss : Hid (s.size = (Lib.decDigits x).length) := Lib.hid (by rw [hs.out]; rfl)
      have hsl : s.size ≤ 19 := by rw [hss.out]; exact hdl
      obtain ⟨cc, hcc⟩ : ∃ cc : Nat, cc = 19 - s.size := ⟨_, rfl⟩
      have hci : (19 : Int) - (s.size : Int) = (cc : Int) := by omega
      have hcl : cc ≤ 19 := by omega
      have HC := Lib.hid hcc
      clear hk0 hcc hdl
      go_wp2_with fail
      refine (fmt_any x (by have := hxl.out; omega) wr (ht.below J.bel)).mono ?_
      rw [← hs.out]
      rintro e w7 ⟨rfl, hb7⟩
      replace J := J.below hb7
      replace how := own_below how hb7
      clear hb7 hc hbb
      go_wp2_with fail
      refine (repeat_any ⟨#[48]⟩ cc w7 (by omega) (by show 1 * cc ≤ _; omega)).mono ?_
      rintro e w8 ⟨rfl, hb8⟩
      replace J := J.below hb8
      replace how := own_below how hb8
      clear hb8
      rw [rep0]
      go_wp2_with fail
      refine (writeString bt bt _ _ w8 J.bd (by simp [Lib.byteCells, ByteArray.size] <;> omega) J.hbt).mono ?_
      rintro e w9 ⟨rfl, ha9, hb9, ho9⟩
      have J9 := J.wrote ha9 hb9 (l' := [] ++ Kn.gtext (gs.drop k) ++ List.replicate cc 48) (by rw [bytes_app]; simp)
      have how9 := own_others how ho9 (by decide) (fun e => by have := hG.out bt e; omega)
      clear ha9 hb9 ho9 J how
      go_wp2_with fail
      refine (writeString bt bt _ _ w9 J9.bd (by simp [Lib.byteCells] <;> omega) J9.hbt).mono ?_
      rintro e wa ⟨rfl, haa, hba, hoa⟩
      have Ja := J9.wrote haa hba (l' := [] ++ Kn.gtext (gs.drop (k - 1))) (by
        have hd := Kn.gtext_drop gs (i := k - 1) (by omega)
        rw [Nat.sub_add_cancel hk1] at hd
        rw [bytes_app, hd, ← hx.out, hs.out]
        unfold Kn.pad
        rw [HC.out, hss.out, List.append_assoc, List.append_assoc])
      have howa := own_others how9 hoa (by decide) (fun e => by have := hG.out bt e; omega)
      clear haa hba hoa J9 how9 hci
      go_wp2_with fail
      go_roundw
      case rel => exact ⟨k - 1, by omega, by go_num, Ja, howa⟩
      case measure => simp [intOf]; omega

set_option maxRecDepth 100000 in
set_option maxHeartbeats 4000000 in
theorem text_true (A : Option Addr) (c : Nat) (ws : List Nat) (w : World) (h : Sl w w.heap.size A c ws) (hl : ws.length ≤ 1000000) (ht : Tabs w) (hp : 0 < Kn.val ws) :
    Calls Tryd.prog 21 #[intV true A ws.length c] w fun e w' => e = .returned (.string ⟨(Lib.itoa (Kn.iv true ws)).toArray⟩) ∧ Below w.heap.size w w' := by
  obtain ⟨T, hT⟩ : ∃ T : Nat, Hid (T = Kn.val ws) := ⟨_, Lib.hid rfl⟩
  have hTp : Hid (0 < T) := Lib.hid (by rw [hT.out]; exact hp)
  have hFin : Hid ([45] ++ Lib.decDigits T = Lib.itoa (Kn.iv true ws)) := Lib.hid (by
    have e : Kn.iv true ws = -(T : Int) := by unfold Kn.iv; rw [hT.out]; simp
    rw [e, Lib.itoa_neg T hTp.out]; rfl)
  have hSn : Hid (∀ w : World, Sl w w.heap.size A c ws → Calls Tryd.prog 12 #[.agg #[.bool true, .slice A ws.length c]] w fun e w' => e = .returned (.int .i64 (-1)) ∧ Below w.heap.size w w') := Lib.hid (fun w h => by
    have := sign_any true A c ws w h (by omega)
    have e : (Kn.iv true ws).sign = (-1) := by
      unfold Kn.iv; simp
      first | omega | (apply Int.sign_eq_one_of_pos; omega)
    rw [e] at this
    exact this)
  clear hp
  unfold intV
  go_enter Tryd.func21, Tryd.ntmps21
  go_wp2_with fail
  have t0 := Two.new_ w (.bool true) (.slice A ws.length c) 24
  have hX := (h.alloc (Nat.le_refl _) (.cells #[.bool true, .slice A ws.length c] 24)).more (B' := (w.alloc (.cells #[.bool true, .slice A ws.length c] 24)).heap.size) (by simp)
  have hB0 := al1 w (.cells #[.bool true, .slice A ws.length c] 24)
  have hz0 : w.heap.size < (w.alloc (.cells #[.bool true, .slice A ws.length c] 24)).heap.size := by simp
  revert t0 hX hB0 hz0
  generalize w.alloc (.cells #[.bool true, .slice A ws.length c] 24) = w1
  intro t0 hX hB0 hz0
  refine (hSn.out w1 hX).mono ?_
  rintro e w2 ⟨rfl, hb2⟩
  replace t0 := t0.below hb2 hz0
  have hB2 : Below w.heap.size w w2 := hB0.trans (hb2.mono (Nat.le_of_lt hz0))
  have hz2 : w.heap.size < w2.heap.size := Nat.lt_of_lt_of_le hz0 hb2.size
  clear hX hB0 hz0 hb2
  have c10 := t0.c0
  have c11 := t0.c1
  go_wp2_with fail
  have hinv : TxInv w (w2.alloc (.cells #[.pointer none, .slice none 0 0] 53)) w2.heap.size (.bool true) (.slice A ws.length c) [] :=
    ⟨t0.alloc _, .inl ⟨Nat.le_refl _, .slice none 0 0, heap_alloc_new _ _, World.ownsRowF_nil _ _ _ _, by simp [Value.ownBlock]⟩, hz2, hB2.alloc (Nat.le_of_lt hz2) _, by simp⟩
  generalize hbt : w2.heap.size = bt at *
  revert hinv
  generalize w2.alloc (.cells #[.pointer none, .slice none 0 0] 53) = wa
  intro hinv
  clear c10 c11 t0 hB2 hz2 hbt
  refine (writeByte bt bt _ 45 wa hinv.bd (by simp [Lib.byteCells]) hinv.hbt).mono ?_
  rintro e w3 ⟨rfl, ha3, hb3, _⟩
  replace hinv := hinv.wrote ha3 hb3 (bytes_one [] 45 45 rfl)
  clear ha3 hb3
  have c10 := hinv.t1.c0
  have c11 := hinv.t1.c1
  go_wp2_with fail
  refine (decimalGroups_any A c ws w3 ((h.below hinv.bel).more hinv.bel.size) (by omega) T hT).mono ?_
  rintro e w4 ⟨A', c', gs, rfl, hown, hb4, hE, hgl⟩
  have hge : ∀ g, (Value.slice A' gs.length c').ownBlock = some g → bt < g := fun g hg => by
    have := (hown.lt g hg).1; have := hinv.hbt; omega
  have hG := Lib.hid hge
  replace hinv := hinv.below hb4
  clear hge hb4
  have HE := Lib.hid hE
  clear hE
  have hgp : 0 < gs.length := by
    rcases Nat.eq_zero_or_pos gs.length with h0 | h0
    · have h1 := HE.out.1
      rw [List.eq_nil_of_length_eq_zero h0] at h1
      have h2 := hTp.out
      rw [← h1] at h2
      exact absurd h2 (by simp [Kn.vb])
    · exact h0
  have hlast : Hid (gs.getD (gs.length - 1) 0 ≠ 0) := Lib.hid (by rcases HE.out.2.2 with h0 | h0; · omega
                                                                  · exact h0)
  have hdec : Hid (Kn.gtext gs = Lib.decDigits T) := Lib.hid (by rw [(Kn.gtext_eq gs HE.out.2.1 hgp hlast.out).1, HE.out.1])
  have hgl19 : Hid (∀ k, (Kn.gtext (gs.drop k)).length ≤ 19 * gs.length) := Lib.hid (fun k => by
    have := gtext_len (gs.drop k) (fun x hx => HE.out.2.1 x (List.mem_of_mem_drop hx))
    rw [List.length_drop] at this; omega)
  obtain ⟨b, off, x, hA', hbb, hc, hx⟩ := u64_at hown (k := gs.length - 1) (by omega)
  have hxl : Hid (x < 10000000000000000000) := Lib.hid (by
    rw [hx.out]
    have hk : gs.length - 1 < gs.length := by omega
    rw [List.getD_eq_getElem?_getD, List.getElem?_eq_getElem hk]
    exact HE.out.2.1 _ (List.getElem_mem hk))
  subst hA'
  have e1 : ((gs.length : Int) - 1).toNat = gs.length - 1 := by omega
  have e2 : (0 : Int) ≤ (gs.length : Int) - 1 := by omega
  go_wp2_with fail
  refine (fmt_any x (by have := hxl.out; omega) w4 (ht.below hinv.bel)).mono ?_
  rintro e w5 ⟨rfl, hb5⟩
  replace hinv := hinv.below hb5
  have how5 := own_below hown hb5
  clear hown hb5 hc hbb
  go_wp2_with fail
  refine (writeString bt bt _ _ w5 hinv.bd (by have := Kn.dec_len (k := 18) (g := x) hxl.out; simp [Lib.byteCells, ByteArray.size] <;> omega) hinv.hbt).mono ?_
  rintro e w6 ⟨rfl, ha6, hb6, ho6⟩
  have hinv6 := hinv.wrote ha6 hb6 (l' := [45] ++ Kn.gtext (gs.drop (gs.length - 1))) (by rw [bytes_app, Kn.gtext_last gs hgp, hx.out] <;> rfl)
  have how6 := own_others how5 ho6 (by decide) (fun e => by have := hG.out bt e; omega)
  clear ha6 hb6 ho6 how5 hinv
  go_wp2_with fail
  go_loopw [6] (fun iv wr => ∃ k : Nat, k < gs.length ∧ iv = .int .i64 ((k : Int) - 1) ∧ TxInv w wr bt (.bool true) (.slice A ws.length c) ([45] ++ Kn.gtext (gs.drop k)) ∧ wr.ownsRow (w3.heap.size + 1) 48 1 (.slice (some ⟨b, off, none⟩) gs.length c') gs.length (u64s gs)) (fun iv _ => (intOf iv + 1).toNat)
  case atStart => exact ⟨gs.length - 1, by omega, by go_num, hinv6, how6⟩
  case round =>
    clear hinv6 how6 hx hxl e1 e2
    obtain ⟨k, hk, rfl, J, how⟩ := hrel
    have hlk := hgl19.out k
    by_cases hk0 : k = 0
    · have HK := Lib.hid hk0
      subst hk0
      go_wp2_with fail
      refine (builderString bt bt _ wr J.bd J.hbt).mono ?_
      rintro e wd ⟨rfl, _, hbd, _⟩
      go_wp2_with fail
      go_ret
      refine ⟨?_, J.bel.trans (hbd.mono (Nat.le_of_lt J.hz))⟩
      have hf := hFin.out
      rw [← hf, ← hdec.out]
      rfl
    · have hk1 : 0 < k := by omega
      obtain ⟨b2, off2, x, hA2, hbb, hc, hx⟩ := u64_at how (k := k - 1) (by omega)
      injection hA2 with hA2
      injection hA2 with hA3 hA4
      subst hA3 hA4
      have hxl : Hid (x < 10000000000000000000) := Lib.hid (by
        rw [hx.out]
        have hk2 : k - 1 < gs.length := by omega
        rw [List.getD_eq_getElem?_getD, List.getElem?_eq_getElem hk2]
        exact HE.out.2.1 _ (List.getElem_mem hk2))
      have e1 : ((k : Int) - 1).toNat = k - 1 := by omega
      have e2 : (0 : Int) ≤ (k : Int) - 1 := by omega
      have hdl := Kn.dec_len (k := 18) (g := x) hxl.out
      obtain ⟨s, hs⟩ : ∃ s : ByteArray, Hid (s = ⟨(Lib.decDigits x).toArray⟩) := ⟨_, Lib.hid rfl⟩
      have hss : Hid (s.size = (Lib.decDigits x).length) := Lib.hid (by rw [hs.out]; rfl)
      have hsl : s.size ≤ 19 := by rw [hss.out]; exact hdl
      obtain ⟨cc, hcc⟩ : ∃ cc : Nat, cc = 19 - s.size := ⟨_, rfl⟩
      have hci : (19 : Int) - (s.size : Int) = (cc : Int) := by omega
      have hcl : cc ≤ 19 := by omega
      have HC := Lib.hid hcc
      clear hk0 hcc hdl
      go_wp2_with fail
      refine (fmt_any x (by have := hxl.out; omega) wr (ht.below J.bel)).mono ?_
      rw [← hs.out]
      rintro e w7 ⟨rfl, hb7⟩
      replace J := J.below hb7
      replace how := own_below how hb7
      clear hb7 hc hbb
      go_wp2_with fail
      refine (repeat_any ⟨#[48]⟩ cc w7 (by omega) (by show 1 * cc ≤ _; omega)).mono ?_
      rintro e w8 ⟨rfl, hb8⟩
      replace J := J.below hb8
      replace how := own_below how hb8
      clear hb8
      rw [rep0]
      go_wp2_with fail
      refine (writeString bt bt _ _ w8 J.bd (by simp [Lib.byteCells, ByteArray.size] <;> omega) J.hbt).mono ?_
      rintro e w9 ⟨rfl, ha9, hb9, ho9⟩
      have J9 := J.wrote ha9 hb9 (l' := [45] ++ Kn.gtext (gs.drop k) ++ List.replicate cc 48) (by rw [bytes_app]; simp)
      have how9 := own_others how ho9 (by decide) (fun e => by have := hG.out bt e; omega)
      clear ha9 hb9 ho9 J how
      go_wp2_with fail
      refine (writeString bt bt _ _ w9 J9.bd (by simp [Lib.byteCells] <;> omega) J9.hbt).mono ?_
      rintro e wa ⟨rfl, haa, hba, hoa⟩
      have Ja := J9.wrote haa hba (l' := [45] ++ Kn.gtext (gs.drop (k - 1))) (by
        have hd := Kn.gtext_drop gs (i := k - 1) (by omega)
        rw [Nat.sub_add_cancel hk1] at hd
        rw [bytes_app, hd, ← hx.out, hs.out]
        unfold Kn.pad
        rw [HC.out, hss.out, List.append_assoc, List.append_assoc])
      have howa := own_others how9 hoa (by decide) (fun e => by have := hG.out bt e; omega)
      clear haa hba hoa J9 how9 hci
      go_wp2_with fail
      go_roundw
      case rel => exact ⟨k - 1, by omega, by go_num, Ja, howa⟩
      case measure => simp [intOf]; omega


set_option maxRecDepth 100000 in
set_option maxHeartbeats 400000 in
theorem text_zero (neg : Bool) (A : Option Addr) (c : Nat) (ws : List Nat) (w : World) (h : Sl w w.heap.size A c ws) (hl : ws.length ≤ 1000000) (hp : Kn.val ws = 0) :
    Calls Tryd.prog 21 #[intV neg A ws.length c] w fun e w' => e = .returned (.string ⟨(Lib.itoa (Kn.iv neg ws)).toArray⟩) ∧ Below w.heap.size w w' := by
  have hiv : Kn.iv neg ws = 0 := by unfold Kn.iv; rw [hp]; cases neg <;> rfl
  have HSG := fun (w : World) (h : Sl w w.heap.size A c ws) => sign_any neg A c ws w h (by omega)
  rw [hiv] at HSG ⊢
  have HS := Lib.hid HSG
  clear HSG hp hiv
  unfold intV
  go_enter Tryd.func21, Tryd.ntmps21
  go_wp2_with fail
  refine (HS.out _ ((h.alloc (Nat.le_refl _) _).more (by simp))).mono ?_
  rintro e w2 ⟨rfl, hb⟩
  go_wp2_with fail
  go_ret
  exact ⟨by rw [itoa0]; rfl, ((Below.refl _ _).alloc (Nat.le_refl _) _).trans (hb.mono (by simp))⟩

theorem text_any (neg : Bool) (A : Option Addr) (c : Nat) (ws : List Nat) (w : World) (h : Sl w w.heap.size A c ws) (hl : ws.length ≤ 1000000) (ht : Tabs w) :
    Calls Tryd.prog 21 #[intV neg A ws.length c] w fun e w' => e = .returned (.string ⟨(Lib.itoa (Kn.iv neg ws)).toArray⟩) ∧ Below w.heap.size w w' := by
  rcases Nat.eq_zero_or_pos (Kn.val ws) with hp | hp
  · exact text_zero neg A c ws w h hl hp
  · cases neg
    · exact text_false A c ws w h hl ht hp
    · exact text_true A c ws w h hl ht hp
end Go.Proofs.YtmhfdmidaheoeaaDoor
