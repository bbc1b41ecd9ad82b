/- Walk: hasTwins of package types, over a set of names. -/
import Derived.Test.YtlifnabeilnblaaGreatDoorNm
import Derived.Test.YtlifnabeilnblaaGreatDoorPl
import Derived.StringKeys
namespace Go.Proofs.YtlifnabeilnblaaGreatDoor
open Go.RowKit Go.Maps
set_option linter.unusedVariables false

/-- the literal of a text -/
def slt (s : ByteArray) : List UInt8 := s.data.toList
theorem slt_inj {s t : ByteArray} (h : slt s = slt t) : s = t := by
  cases s; cases t
  unfold slt at h
  simp at h
  rw [h]
theorem keyLit (l : List UInt8) : WideAt.IsKeyLit (.string l) := by trivial
/-- is a text one of them? -/
def memB (s : ByteArray) (l : List ByteArray) : Bool := l.any fun t => decide (t = s)
theorem memB_iff {s : ByteArray} {l : List ByteArray} : memB s l = true ↔ s ∈ l := by
  unfold memB
  rw [List.any_eq_true]
  constructor
  · rintro ⟨x, hx, he⟩
    have := of_decide_eq_true he
    subst this; exact hx
  · exact fun h => ⟨s, h, decide_eq_true rfl⟩
/-- the set behind some names -/
def Dn : List ByteArray → DataW Unit
  | [] => .map []
  | s :: l => (Dn l).put (.string (slt s)) (.lit (.bool true))
theorem Dn_tidy (l : List ByteArray) : Tidy (Dn l) := by
  induction l with
  | nil => exact tidy_empty
  | cons s l ih => exact ih.put (keyLit _) _
theorem Dn_at (l : List ByteArray) (s : ByteArray) : (Dn l).atKey (.string (slt s)) (.lit (.bool false)) = .lit (.bool (memB s l)) := by
  induction l with
  | nil => rfl
  | cons t l ih =>
    show ((Dn l).put _ _).atKey _ _ = _
    by_cases e : s = t
    · subst e
      rw [atKey_put_same (Dn_tidy l).isMap (keyLit _)]; simp [memB]
    · rw [atKey_put_other (by intro h; injection h with h; exact e (slt_inj h)), ih]
      have : ¬ t = s := fun h => e h.symm
      simp [memB, this]
theorem lawStr : Maps.Keyed Tryz.prog 9 := Maps.string_keyed Tryz.underlying9
theorem zeroBool (w : World) : (zeroValue 4).run Tryz.prog w = .ok (.bool false) w := by kernel_rfl
theorem plainElem_bool_inv {P : Program} {e : TypeId} {H : Type} (he : P.underlying e = some .bool) {v : Value} {z : DataW H × List MemPlace} (h : plainElem P e v = some z) : ∃ x, v = .bool x ∧ z = (.lit (.bool x), []) := by
  unfold plainElem at h
  rw [he] at h
  cases v <;> simp at h
  exact ⟨_, rfl, h.symm⟩
/-- 'm[k]' at elements of type bool -/
theorem wpList_lookup_own_bool {H : Type} {P : Program} (w : World) {ops : Array Oper} {rest : List Oper} {o : Oper} {a : Act} {Q : Exit → Act → World → Prop}
    (hg : o.guard = none) (m x : Operand) (t : TypeId) (hop : o.op = Op.lookup t m x false)
    (k e : TypeId) (K : Keyed P k) (ht : P.underlying t = some (.map k e)) (he : P.underlying e = some .bool) (hz : (zeroValue e).run P w = .ok (.bool false) w) (b n : Nat) (D : DataW H)
    (hm : a.eval m = .map (some b)) (hown : w.ownsMap P k (plainElem P e) b n D) (key : Value) (kl : Lit) (hx : a.eval x = key) (hkey : keyOf P k key = some kl)
    (c : Bool) (hat : D.atKey kl (.lit (.bool false)) = .lit (.bool c)) (hK : wpList P ops Q rest (a.put o.dst (.bool c)) w) :
    wpList P ops Q (o :: rest) a w := by
  refine wpList_plain hg fun K' hK' => ?_
  obtain ⟨v, ps, hrun, hv⟩ := hown.lookup K ht hz (plainElem_bool he false) hkey
  obtain ⟨c', rfl, hc⟩ := plainElem_bool_inv he hv
  simp only [Prod.mk.injEq] at hc
  obtain rfl : c = c' := by
    have := hat.symm.trans hc.1
    injection this with this
    injection this
  unfold Oper.wp
  simp [execOp, hop, hm, hx, hrun, Result.andThen]
  exact hK' _ _ hK
/-- the world in the loop -/
structure TwI (w wr : World) (l : List ByteArray) (n : Nat) : Prop where
  map : wr.ownsMap Tryz.prog 9 (plainElem Tryz.prog 4) (w.heap.size + 1) n (Dn l)
  bel : Below w.heap.size w wr
theorem nodup_snoc {l : List ByteArray} {i : Nat} (hi : i < l.length) (h : (l.take i).Nodup) (hn : ¬ l[i] ∈ (l.take i).reverse) : (l.take (i + 1)).Nodup := by
  rw [List.take_succ_eq_append_getElem hi, List.nodup_append]
  refine ⟨h, by simp, fun a ha b hb => ?_⟩
  simp at hb
  subst hb
  rintro rfl
  exact hn (List.mem_reverse.2 ha)
theorem not_nodup {l : List ByteArray} {i : Nat} (hi : i < l.length) (hn : l[i] ∈ (l.take i).reverse) : ¬ l.Nodup := by
  intro h
  have h2 : (l.take (i + 1)).Nodup := h.sublist (List.take_sublist _ _)
  rw [List.take_succ_eq_append_getElem hi, List.nodup_append] at h2
  exact h2.2.2 _ (List.mem_reverse.1 hn) _ (by simp) rfl
set_option maxRecDepth 100000 in
set_option maxHeartbeats 2000000 in
theorem twins_any (e : G) (w : World) (hn : G.Nd w w.heap.size e) : Calls Tryz.prog 55 #[e.val] w fun r w' => r = .returned (.bool e.twins) ∧ Below w.heap.size w w' := by
  have hlen := hn.nlen
  have HS := Lib.hid hn.names
  have X := Eb.start w e 26
  have hmm := @run_makeMap Tryz.prog
  obtain ⟨A, hA⟩ : ∃ A, Hid (e.na = A) := ⟨_, Lib.hid rfl⟩
  show Calls Tryz.prog 55 #[.agg #[.int .i64 e.kd, .int .i64 e.lo, .int .i64 e.hi, .int .i64 e.sz, .string e.nm, .slice e.na e.ns.length e.nc, .slice e.ad e.ks.length e.cap]] w _
  rw [hA.out]
  replace X : Below w.heap.size w (w.alloc (.cells #[.int .i64 e.kd, .int .i64 e.lo, .int .i64 e.hi, .int .i64 e.sz, .string e.nm, .slice A e.ns.length e.nc, .slice e.ad e.ks.length e.cap] 26)) := al1 _ _
  go_enter Tryz.func55, Tryz.ntmps55
  go_wp2_with fail
  clear hmm
  go_loopw [10] (fun iv wr => ∃ i : Nat, i ≤ e.ns.length ∧ iv = .int .i64 i ∧ Hid ((e.ns.take i).Nodup) ∧ TwI w wr (e.ns.take i).reverse i) (fun iv _ => e.ns.length - (intOf iv).toNat)
  case atStart =>
    refine ⟨0, Nat.zero_le _, rfl, Lib.hid (by simp), ?_, X.alloc (by simp) _⟩
    have := World.ownsMap_made (H := Unit) (w.alloc (.cells #[.int .i64 e.kd, .int .i64 e.lo, .int .i64 e.hi, .int .i64 e.sz, .string e.nm, .slice A e.ns.length e.nc, .slice e.ad e.ks.length e.cap] 26)) Tryz.prog 9 (plainElem Tryz.prog 4)
    rw [show Dn (e.ns.take 0).reverse = .map [] from rfl]
    simpa using this
  case round =>
    clear X
    obtain ⟨i, hi, rfl, hnd, I⟩ := hrel
    by_cases hlt : i < e.ns.length
    · obtain ⟨ab, off, hA2, hab, hc⟩ := (hn.below I.bel).name_at hlt
      obtain rfl : A = some ⟨ab, off, none⟩ := hA.out.symm.trans hA2
      clear hA2
      have hs := HS.out _ (List.getElem_mem hlt)
      have HY := Lib.hid (fun (h : e.ns[i] ∈ (e.ns.take i).reverse) => not_nodup hlt h)
      have HZ := Lib.hid (fun (h : ¬ e.ns[i] ∈ (e.ns.take i).reverse) => nodup_snoc hlt hnd.out h)
      have HT : Hid (e.ns[i] :: (e.ns.take i).reverse = (e.ns.take (i + 1)).reverse) := Lib.hid (by rw [List.take_succ_eq_append_getElem hlt, List.reverse_append]; rfl)
      revert hs hc HY HZ HT
      generalize e.ns[i] = s
      intro hc hs HY HZ HT
      have hkey : keyOf Tryz.prog 9 (.string s) = some (.string (slt s)) := WideMaps.keyOf_string_mk Tryz.underlying9 hs
      have hmap := I.map
      have hat := Dn_at (e.ns.take i).reverse s
      have hil : i < maxLen := by unfold maxLen; omega
      clear hnd
      have hwb : ∀ x : Bool, plainElem (H := Unit) Tryz.prog 4 (.bool x) = some (.lit (.bool x), []) := fun x => plainElem_bool Tryz.underlying4 x
      cases hm : memB s (e.ns.take i).reverse with
      | true =>
        rw [hm] at hat
        have HR : Hid (true = e.twins) := Lib.hid (by
          have := HY.out (memB_iff.1 hm)
          unfold G.twins; rw [decide_eq_false this]; rfl)
        have b2 := I.bel
        clear hm HY HZ HT
        go_wp2_with (at_lookup; refine wpList_lookup_own_bool _ rfl _ _ 119 rfl 9 4 lawStr Tryz.underlying119 Tryz.underlying4 (zeroBool _) (w.heap.size + 1) i _ rfl hmap _ _ rfl hkey true hat ?_)
        go_ret
        exact ⟨ret_bool HR.out, b2⟩
      | false =>
        rw [hm] at hat
        have HN := Lib.hid (HZ.out (fun h => by rw [memB_iff.2 h] at hm; exact Bool.noConfusion hm))
        clear hm HY HZ
        have hv := hwb true
        go_wp2_with (first
          | (at_lookup; refine wpList_lookup_own_bool _ rfl _ _ 119 rfl 9 4 lawStr Tryz.underlying119 Tryz.underlying4 (zeroBool _) (w.heap.size + 1) i _ rfl hmap _ _ rfl hkey false hat ?_)
          | (at_mapUpdate; refine wpList_mapUpdate_own _ rfl _ _ _ 119 rfl 9 4 lawStr Tryz.underlying119 _ (w.heap.size + 1) i _ rfl hmap hil _ _ _ rfl rfl hkey _ [] hv ?_; intro w1 hown1 hgrow1))
        go_roundw
        case rel =>
          refine ⟨i + 1, by omega, by go_num, HN, ?_, I.bel.grown hgrow1 I.bel.size (fun j hj => by cases hj; omega)⟩
          show w1.ownsMap _ _ _ _ _ _
          rw [← HT.out]; exact hown1
        case measure => simp [intOf]; omega
    · obtain rfl : i = e.ns.length := by omega
      have HR : Hid (false = e.twins) := Lib.hid (by
        have := hnd.out
        rw [List.take_length] at this
        unfold G.twins; rw [decide_eq_true this]; rfl)
      have b2 := I.bel
      go_wp2_with fail
      go_ret
      exact ⟨ret_bool HR.out, b2⟩
end Go.Proofs.YtlifnabeilnblaaGreatDoor
