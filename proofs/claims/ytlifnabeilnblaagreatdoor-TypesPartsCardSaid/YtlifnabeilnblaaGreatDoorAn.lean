/- Walks: anywhere of package types, for whatever condition; hasTwins; the condition of Check. -/
import Derived.Test.YtlifnabeilnblaaGreatDoorCx
import Derived.Test.YtlifnabeilnblaaGreatDoorRp
namespace Go.Proofs.YtlifnabeilnblaaGreatDoor
open Go.RowKit Go.Sort
set_option linter.unusedVariables false

/-- a function value that asks p of a type, in the worlds J -/
structure Hp (f : FuncId) (caps : Array Value) (p : G → Bool) (J : World → Prop) : Prop where
  call : ∀ (k : G) (w : World), J w → G.In w w.heap.size k → Calls Tryz.prog f (#[k.val] ++ caps) w fun r w' => r = .returned (.bool (p k)) ∧ Below w.heap.size w w'
  keep : ∀ w w' : World, J w → Below w.heap.size w w' → J w'
/-- the contract of anywhere -/
def AnE (f : FuncId) (caps : Array Value) (p : G → Bool) (J : World → Prop) (e : G) : Prop := ∀ w : World, J w → G.In w w.heap.size e →
    Calls Tryz.prog 30 #[e.val, .func (.func f) #[] caps] w fun r w' => r = .returned (.bool (e.any p)) ∧ Below w.heap.size w w'
set_option maxRecDepth 100000 in
set_option maxHeartbeats 1000000 in
theorem within1_any {f : FuncId} {caps : Array Value} {p : G → Bool} {J : World → Prop} (H : Hp f caps p J) (k : G) (hk : AnE f caps p J k) (b : Nat) (w : World) (hJ : J w) (hin : G.In w w.heap.size k) (hb : One w b (.func (.func f) #[] caps)) :
    Calls Tryz.prog 53 #[k.val, .pointer (some ⟨b, 0, none⟩)] w fun r w' => r = .returned (.bool (k.any p)) ∧ Below w.heap.size w w' := by
  have X := Eb.start w k 26
  have hJ1 := H.keep _ _ hJ X.bel
  have hin1 := hin.at X.bel
  have c0 := (hb.alloc (.cells k.box 26)).c
  have HC := Lib.hid (hk _ hJ1 hin1)
  have b1 := X.bel
  clear hk hJ1 hin1 X
  go_enter Tryz.func53, Tryz.ntmps53
  go_wp2_with fail
  refine HC.out.mono ?_
  rintro r w2 ⟨rfl, b2⟩
  go_wp2_with fail
  go_ret
  exact ⟨rfl, bTrans b1 b2⟩
set_option maxRecDepth 100000 in
set_option maxHeartbeats 1000000 in
theorem tindex_any {f : FuncId} {caps : Array Value} {p : G → Bool} {J : World → Prop} (H : Hp f caps p J) (l : List G) (hk : ∀ k ∈ l, AnE f caps p J k) (A : Option Addr) (c b : Nat) (w : World) (hJ : J w) (hl : G.L w w.heap.size A l) (hb : One w b (.func (.func f) #[] caps)) :
    Calls Tryz.prog 74 #[.slice A l.length c, .func (.func 53) #[] #[.pointer (some ⟨b, 0, none⟩)]] w fun r w' => ∃ z : Int, r = .returned (.int .i64 z) ∧ decide (0 ≤ z) = G.anyL p l ∧ Below w.heap.size w w' := by
  have HK := Lib.hid hk
  have HH := Lib.hid H
  have hlen := hl.len
  have hblt := hb.lt
  have X : Below w.heap.size w w := Below.refl _ _
  clear hk H
  go_enter Tryz.func74, Tryz.ntmps74
  go_wp2_with fail
  go_loopw [8] (fun iv wr => ∃ i : Nat, i ≤ l.length ∧ iv = .int .i64 i ∧ Hid (∀ k, k < i → ∀ e', G.Is l k e' → e'.any p = false) ∧ Below w.heap.size w wr) (fun iv _ => l.length - (intOf iv).toNat)
  case atStart => exact ⟨0, Nat.zero_le _, rfl, Lib.hid (fun k hk => absurd hk (Nat.not_lt_zero _)), X⟩
  case round =>
    clear X
    obtain ⟨i, hi, rfl, hg, Y⟩ := hrel
    by_cases hlt : i < l.length
    · obtain ⟨ab, off, k, rfl, hab, ⟨d0, d1, d2, d3, d4, d5, d6⟩, his, hkin⟩ := (hl.below Y).at_ hlt
      have HC := Lib.hid (within1_any HH.out k (HK.out k his.mem) b wr (HH.out.keep _ _ hJ Y) (hkin.more Y.size) (hb.below Y hblt))
      clear hkin
      cases hq : k.any p with
      | true =>
        have HR : Hid (G.anyL p l = true) := Lib.hid (by
          apply Classical.byContradiction
          intro hn
          have := G.anyL_false.1 (by simpa using hn) k his.mem
          rw [hq] at this; exact Bool.noConfusion this)
        have HQ := Lib.hid hq
        clear hq hg
        go_wp2_with fail
        refine HC.out.mono ?_
        rintro r w2 ⟨rfl, b2⟩
        rw [HQ.out]
        go_wp2_with fail
        go_ret
        exact ⟨_, rfl, by rw [HR.out, decide_eq_true (by omega)], bTrans Y b2⟩
      | false =>
        have HG : Hid (∀ k, k < i + 1 → ∀ e', G.Is l k e' → e'.any p = false) := Lib.hid (G.all_next (p := fun e => e.any p) hg.out his hq)
        have HQ := Lib.hid hq
        clear hq hg
        go_wp2_with fail
        refine HC.out.mono ?_
        rintro r w2 ⟨rfl, b2⟩
        rw [HQ.out]
        have Y2 := bTrans Y b2
        go_wp2_with fail
        go_roundw
        case rel => exact ⟨i + 1, by omega, by go_num, HG, Y2⟩
        case measure => simp [intOf]; omega
    · obtain rfl : i = l.length := by omega
      have HR : Hid (G.anyL p l = false) := Lib.hid (G.anyL_false.2 fun e he => by
        obtain ⟨j, hj, rfl⟩ := List.mem_iff_getElem.1 he
        exact hg.out j hj _ ⟨hj, rfl⟩)
      go_wp2_with fail
      go_ret
      exact ⟨_, rfl, by rw [HR.out]; decide, Y⟩
set_option maxRecDepth 100000 in
theorem tcontains_any {f : FuncId} {caps : Array Value} {p : G → Bool} {J : World → Prop} (H : Hp f caps p J) (l : List G) (hk : ∀ k ∈ l, AnE f caps p J k) (A : Option Addr) (c b : Nat) (w : World) (hJ : J w) (hl : G.L w w.heap.size A l) (hb : One w b (.func (.func f) #[] caps)) :
    Calls Tryz.prog 54 #[.slice A l.length c, .func (.func 53) #[] #[.pointer (some ⟨b, 0, none⟩)]] w fun r w' => r = .returned (.bool (G.anyL p l)) ∧ Below w.heap.size w w' := by
  have HC := Lib.hid (tindex_any H l hk A c b w hJ hl hb)
  clear H hk
  go_enter Tryz.func54, Tryz.ntmps54
  go_wp2_with fail
  refine HC.out.mono ?_
  rintro r w1 ⟨z, rfl, hz, b2⟩
  have HZ := Lib.hid hz
  clear hz
  go_wp2_with fail
  go_ret
  exact ⟨ret_bool HZ.out, b2⟩
/-- the boxes of anywhere: the type, the condition -/
structure AnW (w wr : World) (e : G) (v : Value) : Prop where
  be : Blk wr w.heap.size e.box
  bh : One wr (w.heap.size + 1) v
  bel : Below w.heap.size w wr
theorem AnW.start (w : World) (e : G) (v : Value) (T T' : TypeId) : AnW w ((w.alloc (.cells e.box T)).alloc (.cells #[v] T')) e v :=
  ⟨(Blk.new_ _ _ _).alloc _, by
    have := One.new_ (w.alloc (.cells e.box T)) v T'
    rwa [World.size_alloc] at this, (al1 w _).alloc (by simp) _⟩
theorem AnW.below {w wr w' : World} {e : G} {v : Value} (h : AnW w wr e v) (hb : Below wr.heap.size wr w') : AnW w w' e v := ⟨h.be.below hb h.be.lt, h.bh.below hb h.bh.lt, bTrans h.bel hb⟩
end Go.Proofs.YtlifnabeilnblaaGreatDoor
