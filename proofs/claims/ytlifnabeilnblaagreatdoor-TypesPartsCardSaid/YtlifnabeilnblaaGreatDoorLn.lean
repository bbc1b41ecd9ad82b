/- Types that lie in given blocks; rows that a call makes itself; slices.Clone of names. -/
import Derived.Test.YtlifnabeilnblaaGreatDoorEq
import Derived.OwnWalk
import Derived.Deep.AppendLies
import Derived.Lib.SliceRun
namespace Go.Proofs.YtlifnabeilnblaaGreatDoor
open Go.RowKit Go.Sort
set_option linter.unusedVariables false

/-- the cells xs, in a block of S -/
structure RowS (w : World) (S : Nat → Prop) (A : Option Addr) (xs : List Value) : Prop where
  cells : 0 < xs.length → ∃ b off, A = some ⟨b, off, none⟩ ∧ S b ∧ b < w.heap.size ∧ ∀ k u, xs[k]? = some u → w.cell? ⟨b, off + k, none⟩ = some u
theorem RowS.keep {w w' : World} {S S' : Nat → Prop} {A : Option Addr} {xs : List Value} (h : RowS w S A xs) (hk : ∀ p : Addr, S p.block → p.block < w.heap.size → w'.cell? p = w.cell? p) (hs : ∀ b, S b → b < w.heap.size → S' b) (hz : w.heap.size ≤ w'.heap.size) : RowS w' S' A xs :=
  ⟨fun hn => by
    obtain ⟨b, off, e, hb, hl, hc⟩ := h.cells hn
    exact ⟨b, off, e, hs b hb hl, Nat.lt_of_lt_of_le hl hz, fun k u hu => (hk ⟨b, off + k, none⟩ hb hl).trans (hc k u hu)⟩⟩
theorem RowS.row {w : World} {S : Nat → Prop} {A : Option Addr} {xs : List Value} (h : RowS w S A xs) : Row w w.heap.size A xs :=
  ⟨fun hn => by
    obtain ⟨b, off, e, hb, hl, hc⟩ := h.cells hn
    exact ⟨b, off, e, hl, hc⟩⟩
namespace G
/-- a node whose rows lie in blocks of S -/
structure NdS (w : World) (S : Nat → Prop) (e : G) : Prop where
  kd : inI e.kd
  lo : inI e.lo
  hi : inI e.hi
  sz : inI e.sz
  nm : e.nm.size ≤ 9223372036854775807
  nlen : e.ns.length ≤ 9223372036854775807
  names : ∀ s ∈ e.ns, s.size ≤ 9223372036854775807
  nrow : RowS w S e.na (svals e.ns)
  len : e.ks.length ≤ 9223372036854775807
  row : RowS w S e.ad (flat e.ks)
mutual
def InS (w : World) (S : Nat → Prop) : G → Prop | .mk k l h s n a c ns b d ks => NdS w S (.mk k l h s n a c ns b d ks) ∧ InSL w S ks
def InSL (w : World) (S : Nat → Prop) : List G → Prop | [] => True | e :: l => InS w S e ∧ InSL w S l
end
theorem inS_eq {w : World} {S : Nat → Prop} (e : G) : InS w S e ↔ NdS w S e ∧ InSL w S e.ks := by cases e; simp [InS, ks]
theorem inSL_iff {w : World} {S : Nat → Prop} {l : List G} : InSL w S l ↔ ∀ e ∈ l, InS w S e := by
  induction l with
  | nil => simp [InSL]
  | cons a l ih => simp [InSL, ih]
theorem InS.map {w w' : World} {S S' : Nat → Prop} (hN : ∀ e : G, NdS w S e → NdS w' S' e) (e : G) : InS w S e → InS w' S' e := by
  induction e using G.ind with
  | h e ih =>
    rw [inS_eq, inS_eq, inSL_iff, inSL_iff]
    exact fun ⟨h1, h2⟩ => ⟨hN e h1, fun k hk => ih k hk (h2 k hk)⟩
theorem InS.keep {w w' : World} {S S' : Nat → Prop} {e : G} (h : InS w S e) (hk : ∀ p : Addr, S p.block → p.block < w.heap.size → w'.cell? p = w.cell? p) (hs : ∀ b, S b → b < w.heap.size → S' b) (hz : w.heap.size ≤ w'.heap.size) : InS w' S' e :=
  InS.map (fun _ h => ⟨h.kd, h.lo, h.hi, h.sz, h.nm, h.nlen, h.names, h.nrow.keep hk hs hz, h.len, h.row.keep hk hs hz⟩) e h
theorem InS.in_ {w : World} {S : Nat → Prop} (e : G) : InS w S e → In w w.heap.size e := by
  induction e using G.ind with
  | h e ih =>
    rw [inS_eq, in_eq, inSL_iff, inL_iff]
    exact fun ⟨h1, h2⟩ => ⟨⟨h1.kd, h1.lo, h1.hi, h1.sz, h1.nm, h1.nlen, h1.names, h1.nrow.row, h1.len, h1.row.row⟩, fun k hk => ih k hk (h2 k hk)⟩
end G
/-- new memory of a call -/
abbrev New (w : World) : Nat → Prop := fun b => w.heap.size ≤ b
theorem own_slice_ {w : World} {base e z n : Nat} {v : Value} {xs : List Value} (h : w.ownsRow base e z v n xs) : ∃ A c, v = .slice A n c := by
  rcases h.2 with ⟨rfl, rfl⟩ | ⟨g, cap, cur, rfl, _⟩
  · exact ⟨none, 0, rfl⟩
  · exact ⟨_, cap, rfl⟩
theorem RowS.of_own {w : World} {base e z : Nat} {A : Option Addr} {n c : Nat} {xs : List Value} (h : w.ownsRow base e z (.slice A n c) n xs) (hz : 0 < z) : RowS w (fun b => base ≤ b) A xs := ⟨fun hn => by
  rcases h.2 with ⟨_, h0⟩ | ⟨g, cap, cur, hv, hb, hg, _⟩
  · have := h.1
    rw [h0, Nat.zero_mul] at this; omega
  · injection hv with h1 h2 h3
    subst h1
    exact ⟨g, 0, rfl, hb, (Array.getElem?_eq_some_iff.1 hg).1, fun k u hu => by
      have := h.cells (g := g) rfl k u hu
      have e : (⟨g, 0, none⟩ : Addr).add k = ⟨g, 0 + k, none⟩ := by unfold Addr.add; split <;> simp_all
      rwa [e] at this⟩⟩
theorem infoStr : (Tryz.prog.info? 9).map (fun i => (i.zero, i.size, i.bytes)) = some (some (.string ⟨#[]⟩), 1, 16) := by kernel_rfl
theorem infoType : (Tryz.prog.info? 26).map (fun i => (i.zero, i.size, i.bytes)) = some (some (.agg #[.int .i64 0, .int .i64 0, .int .i64 0, .int .i64 0, .string ⟨#[]⟩, .slice none 0 0, .slice none 0 0]), 7, 96) := by kernel_rfl
/-- a call hands back a copy of names -/
def NewNs (ns : List ByteArray) (w : World) (r : Ending) (w' : World) : Prop := ∃ A c, r = .returned (.slice A ns.length c) ∧ RowS w' (New w) A (svals ns) ∧ Below w.heap.size w w'
set_option maxRecDepth 100000 in
set_option maxHeartbeats 2000000 in
theorem clone_any (ns : List ByteArray) (A : Option Addr) (c : Nat) (w : World) (hr : Row w w.heap.size A (svals ns)) (hl : ns.length ≤ 1000000) :
    Calls Tryz.prog 61 #[.slice A ns.length c] w (NewNs ns w) := by
  have hnil := fun (W : World) (a : Option Addr) (l c : Nat) => Lib.run_eql_slice_nil (P := Tryz.prog) W 23 9 a l c 0 0 Tryz.underlying23
  cases A with
  | none =>
    have h0 : ns.length = 0 := by
      apply Classical.byContradiction
      intro hn
      obtain ⟨b, off, h, _⟩ := hr.cells (by rw [svals_len]; omega)
      cases h
    obtain rfl := List.eq_nil_of_length_eq_zero h0
    go_enter Tryz.func61, Tryz.ntmps61
    go_wp2_with fail
    go_ret
    exact ⟨none, 0, rfl, ⟨fun h => absurd h (by simp [svals])⟩, Below.refl _ _⟩
  | some a =>
    have hcells : ∀ j u, (svals ns)[j]? = some u → w.cell? (a.add j) = some u := fun j u hu => by
      obtain ⟨b, off, h, hb, hc⟩ := hr.cells (Nat.lt_of_le_of_lt (Nat.zero_le _) (List.getElem?_eq_some_iff.1 hu).1)
      cases h
      rw [Go.WideShapes.add_plain]; exact hc j u hu
    have hblk : ∀ j u, (svals ns)[j]? = some u → a.block < w.heap.size := fun j u hu => by
      obtain ⟨b, off, h, hb, hc⟩ := hr.cells (Nat.lt_of_le_of_lt (Nat.zero_le _) (List.getElem?_eq_some_iff.1 hu).1)
      cases h; exact hb
    have HC := Lib.hid hcells
    have HB := Lib.hid hblk
    obtain ⟨i0, hi, hz0, hz1, hz2⟩ := info_parts infoStr
    have hown : (w.alloc (.cells #[] 9)).ownsRow w.heap.size 9 1 (.slice (some ⟨w.heap.size, 0, none⟩) 0 0) 0 [] := World.ownsRow_made (e := 9) (size := 1) (base := w.heap.size) w #[] 0 (Nat.le_refl _) (by unfold maxLen; omega) rfl
    have hlm := Lib.hid (show (svals ns).length = ns.length * 1 by rw [svals_len]; omega)
    clear hcells hblk hr
    go_enter Tryz.func61, Tryz.ntmps61
    go_wp2_with (at_builtin; refine wpList_append_own _ rfl _ _ 23 rfl w.heap.size 9 i0 (.string ⟨#[]⟩) 1 16 Tryz.underlying23 hi hz0 hz1 hz2 rfl (by decide) _ _ _ rfl hown a ns.length c (svals ns) rfl hlm.out ?c1 ?c2 ?c3 ?c4 ?c5 ?_)
    case c1 =>
      intro j u hu
      have hb := HB.out j u hu
      have e : (a.add j).block = a.block := by unfold Addr.add; split <;> rfl
      rw [World.cell?_alloc_lt _ _ _ (by rw [e]; exact hb)]
      exact HC.out j u hu
    case c2 =>
      intro u hu
      unfold svals at hu
      obtain ⟨x, _, rfl⟩ := List.mem_map.1 hu
      rfl
    case c3 => unfold maxLen; omega
    case c4 => simp; omega
    case c5 => simp
    intro v' w3 hown' hgrow _
    have b3 : Below w.heap.size w w3 := (al1 w (.cells #[] 9)).grown hgrow (by simp) (fun k e => by simp [Value.ownBlock] at e; omega)
    replace hown' : w3.ownsRow w.heap.size 9 1 v' ns.length (svals ns) := by simpa using hown'
    obtain ⟨An, cn, rfl⟩ := own_slice_ hown'
    have hrow := RowS.of_own hown' (by decide)
    clear hown' hgrow hown
    go_wp2_with fail
    go_ret
    exact ⟨An, cn, rfl, hrow, b3⟩
end Go.Proofs.YtlifnabeilnblaaGreatDoor
