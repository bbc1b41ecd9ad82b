/- My texts, packed: Lib, T1, T2, Math3, T3. -/
import Derived.Shelf.Strings.BuilderK
import Derived.Shelf.Spec.TrailingZeros
import Derived.Test.YtkpomjdablopaaaGreatDoorProg
import Derived.Test.YtkpomjdablopaaaGreatDoorZ1
import Derived.Test.YtkpomjdablopaaaGreatDoorZ3
import Derived.Shelf.Strings.Repeat
import Derived.Lib.ItoaMem
import Derived.Lib.AppendIntMem
import Derived.Lib.LaidTab
import Derived.Lib.Repeat
import Derived.BigRegion
/- Contracts of strings.Builder and math/bits.TrailingZeros64 at the numbers of this translation. -/
namespace Go.Proofs.YtkpomjdablopaaaGreatDoor
open Go.RowKit
def layWS_ren : Go.Shelf.Ren := ⟨fun | 240 => 88 | 276 => 123 | 166 => 54 | 167 => 52 | 169 => 57 | n => n, fun | 0 => 0 | 3 => 3 | 4 => 4 | 5 => 5 | 9 => 9 | 20 => 20 | 37 => 71 | 70 => 70 | 72 => 73 | 75 => 75 | 80 => 84 | 127 => 109 | 164 => 123 | n => n, fun | n => n⟩
theorem layWS : Go.Proofs.Lays.n166 Tryz.prog layWS_ren := {
  mixed := by kernel_rfl
  f166 := Tryz.func54.trans (congrArg some (by kernel_rfl))
  f240 := Tryz.func88.trans (congrArg some (by kernel_rfl))
  f276 := Tryz.func123.trans (congrArg some (by kernel_rfl))
  t0 := Tryz.underlying0
  a0 := Tryz.isAgg0
  z0 := Tryz.sizeOf0
  v0 := Tryz.zeroValue0
  t3 := Tryz.underlying3
  a3 := Tryz.isAgg3
  z3 := Tryz.sizeOf3
  v3 := Tryz.zeroValue3
  t4 := Tryz.underlying4
  a4 := Tryz.isAgg4
  z4 := Tryz.sizeOf4
  v4 := Tryz.zeroValue4
  t9 := Tryz.underlying9
  a9 := Tryz.isAgg9
  z9 := Tryz.sizeOf9
  v9 := Tryz.zeroValue9
  t20 := Tryz.underlying20
  a20 := Tryz.isAgg20
  z20 := Tryz.sizeOf20
  v20 := Tryz.zeroValue20
  t37 := Tryz.underlying71
  a37 := Tryz.isAgg71
  z37 := Tryz.sizeOf71
  v37 := Tryz.zeroValue71
  t70 := Tryz.underlying70
  a70 := Tryz.isAgg70
  z70 := Tryz.sizeOf70
  v70 := Tryz.zeroValue70
  t72 := Tryz.underlying73
  a72 := Tryz.isAgg73
  z72 := Tryz.sizeOf73
  v72 := Tryz.zeroValue73
  t75 := Tryz.underlying75
  a75 := Tryz.isAgg75
  z75 := Tryz.sizeOf75
  v75 := Tryz.zeroValue75
  t164 := Tryz.underlying123
  a164 := Tryz.isAgg123
  z164 := Tryz.sizeOf123
  v164 := Tryz.zeroValue123 }
def layWB_ren : Go.Shelf.Ren := ⟨fun | 240 => 88 | 276 => 123 | 166 => 54 | 167 => 52 | 169 => 57 | n => n, fun | 0 => 0 | 3 => 3 | 4 => 4 | 5 => 5 | 9 => 9 | 20 => 20 | 37 => 71 | 70 => 70 | 72 => 73 | 75 => 75 | 80 => 84 | 127 => 109 | 164 => 123 | n => n, fun | n => n⟩
theorem layWB : Go.Proofs.Lays.n167 Tryz.prog layWB_ren := {
  mixed := by kernel_rfl
  f167 := Tryz.func52.trans (congrArg some (by kernel_rfl))
  f240 := Tryz.func88.trans (congrArg some (by kernel_rfl))
  f276 := Tryz.func123.trans (congrArg some (by kernel_rfl))
  t0 := Tryz.underlying0
  a0 := Tryz.isAgg0
  z0 := Tryz.sizeOf0
  v0 := Tryz.zeroValue0
  t4 := Tryz.underlying4
  a4 := Tryz.isAgg4
  z4 := Tryz.sizeOf4
  v4 := Tryz.zeroValue4
  t5 := Tryz.underlying5
  a5 := Tryz.isAgg5
  z5 := Tryz.sizeOf5
  v5 := Tryz.zeroValue5
  t9 := Tryz.underlying9
  a9 := Tryz.isAgg9
  z9 := Tryz.sizeOf9
  v9 := Tryz.zeroValue9
  t20 := Tryz.underlying20
  a20 := Tryz.isAgg20
  z20 := Tryz.sizeOf20
  v20 := Tryz.zeroValue20
  t37 := Tryz.underlying71
  a37 := Tryz.isAgg71
  z37 := Tryz.sizeOf71
  v37 := Tryz.zeroValue71
  t70 := Tryz.underlying70
  a70 := Tryz.isAgg70
  z70 := Tryz.sizeOf70
  v70 := Tryz.zeroValue70
  t72 := Tryz.underlying73
  a72 := Tryz.isAgg73
  z72 := Tryz.sizeOf73
  v72 := Tryz.zeroValue73
  t75 := Tryz.underlying75
  a75 := Tryz.isAgg75
  z75 := Tryz.sizeOf75
  v75 := Tryz.zeroValue75
  t164 := Tryz.underlying123
  a164 := Tryz.isAgg123
  z164 := Tryz.sizeOf123
  v164 := Tryz.zeroValue123 }
def layStr_ren : Go.Shelf.Ren := ⟨fun | 240 => 88 | 276 => 123 | 166 => 54 | 167 => 52 | 169 => 57 | n => n, fun | 0 => 0 | 3 => 3 | 4 => 4 | 5 => 5 | 9 => 9 | 20 => 20 | 37 => 71 | 70 => 70 | 72 => 73 | 75 => 75 | 80 => 84 | 127 => 109 | 164 => 123 | n => n, fun | n => n⟩
theorem layStr : Go.Proofs.Lays.n169 Tryz.prog layStr_ren := {
  mixed := by kernel_rfl
  f169 := Tryz.func57.trans (congrArg some (by kernel_rfl))
  t0 := Tryz.underlying0
  a0 := Tryz.isAgg0
  z0 := Tryz.sizeOf0
  v0 := Tryz.zeroValue0
  t3 := Tryz.underlying3
  a3 := Tryz.isAgg3
  z3 := Tryz.sizeOf3
  v3 := Tryz.zeroValue3
  t9 := Tryz.underlying9
  a9 := Tryz.isAgg9
  z9 := Tryz.sizeOf9
  v9 := Tryz.zeroValue9
  t37 := Tryz.underlying71
  a37 := Tryz.isAgg71
  z37 := Tryz.sizeOf71
  v37 := Tryz.zeroValue71
  t70 := Tryz.underlying70
  a70 := Tryz.isAgg70
  z70 := Tryz.sizeOf70
  v70 := Tryz.zeroValue70
  t72 := Tryz.underlying73
  a72 := Tryz.isAgg73
  z72 := Tryz.sizeOf73
  v72 := Tryz.zeroValue73
  t127 := Tryz.underlying109
  a127 := Tryz.isAgg109
  z127 := Tryz.sizeOf109
  v127 := Tryz.zeroValue109 }
theorem layWS_x : Builder.Extra Tryz.prog layWS_ren := {
  sizeBuilder := by kernel_rfl
  liesBuilder := by kernel_rfl
  t5 := Tryz.underlying5
  a5 := Tryz.isAgg5
  z5 := Tryz.sizeOf5
  v5 := Tryz.zeroValue5
  infoByte := by kernel_rfl
  cellsByte := by kernel_rfl
  sizeByte := by kernel_rfl
  neB5 := by decide }
theorem layWB_x : Builder.Extra Tryz.prog layWB_ren := {
  sizeBuilder := by kernel_rfl
  liesBuilder := by kernel_rfl
  t5 := Tryz.underlying5
  a5 := Tryz.isAgg5
  z5 := Tryz.sizeOf5
  v5 := Tryz.zeroValue5
  infoByte := by kernel_rfl
  cellsByte := by kernel_rfl
  sizeByte := by kernel_rfl
  neB5 := by decide }
theorem layStr_x : Builder.Extra Tryz.prog layStr_ren := {
  sizeBuilder := by kernel_rfl
  liesBuilder := by kernel_rfl
  t5 := Tryz.underlying5
  a5 := Tryz.isAgg5
  z5 := Tryz.sizeOf5
  v5 := Tryz.zeroValue5
  infoByte := by kernel_rfl
  cellsByte := by kernel_rfl
  sizeByte := by kernel_rfl
  neB5 := by decide }
theorem writeByte (B b : Nat) (bs : List Value) (c : Int) (w : World) (h : Lib.IsBuilderF 73 5 B b bs w) (hlen : bs.length + 1 ≤ 140737488355328) (hBw : B ≤ w.heap.size) :
    Calls Tryz.prog 52 #[.pointer (some ⟨b, 0, none⟩), .int .u8 c] w fun e w' => e = .returned .nilIface ∧ (Lib.BuilderAtF 73 5 B b (.pointer (some ⟨b, 0, none⟩)) (bs ++ [.int .u8 c]) w' ∧ Below B w w' ∧ Lib.OthersKept 5 (some b) w w') := Any.Builder_WriteByte_k layWB layWB_x B b bs c w h hlen hBw
theorem writeString (B b : Nat) (bs : List Value) (s : ByteArray) (w : World) (h : Lib.IsBuilderF 73 5 B b bs w) (hlen : bs.length + s.size ≤ 140737488355328) (hBw : B ≤ w.heap.size) :
    Calls Tryz.prog 54 #[.pointer (some ⟨b, 0, none⟩), .string s] w fun e w' => e = .returned (.tuple #[.int .i64 s.size, .nilIface]) ∧ (Lib.BuilderAtF 73 5 B b (.pointer (some ⟨b, 0, none⟩)) (bs ++ Lib.strCells s) w' ∧ Below B w w' ∧ Lib.OthersKept 5 (some b) w w') := Any.Builder_WriteString_k layWS layWS_x B b bs s w h hlen hBw
theorem builderString (B b : Nat) (l : List UInt8) (w : World) (h : Lib.IsBuilderF 73 5 B b (Lib.byteCells l) w) (hBw : B ≤ w.heap.size) :
    Calls Tryz.prog 57 #[.pointer (some ⟨b, 0, none⟩)] w fun e w' => e = .returned (.string ⟨l.toArray⟩) ∧ (Lib.IsBuilderF 73 5 B b (Lib.byteCells l) w' ∧ Below B w w' ∧ Lib.OthersKept 5 (some b) w w') := Any.Builder_String_any_k layStr layStr_x B b l w h hBw
def layTz_ren : Go.Shelf.Ren := ⟨fun | 29 => 174 | n => n, fun | 0 => 0 | 3 => 3 | 4 => 4 | 5 => 5 | 22 => 82 | 25 => 103 | 54 => 184 | n => n, fun | 1 => 9 | n => n⟩
theorem layTz : Go.Proofs.Lays7.n29 Tryz.prog layTz_ren := {
  mixed := by kernel_rfl
  f29 := Tryz.func174.trans (congrArg some (by kernel_rfl))
  t0 := Tryz.underlying0
  a0 := Tryz.isAgg0
  z0 := Tryz.sizeOf0
  v0 := Tryz.zeroValue0
  i0 := by kernel_rfl
  t3 := Tryz.underlying3
  a3 := Tryz.isAgg3
  z3 := Tryz.sizeOf3
  v3 := Tryz.zeroValue3
  i3 := by kernel_rfl
  t4 := Tryz.underlying4
  a4 := Tryz.isAgg4
  z4 := Tryz.sizeOf4
  v4 := Tryz.zeroValue4
  i4 := by kernel_rfl
  t5 := Tryz.underlying5
  a5 := Tryz.isAgg5
  z5 := Tryz.sizeOf5
  v5 := Tryz.zeroValue5
  i5 := by kernel_rfl
  t22 := Tryz.underlying82
  a22 := Tryz.isAgg82
  z22 := Tryz.sizeOf82
  v22 := Tryz.zeroValue82
  i22 := by kernel_rfl
  t25 := Tryz.underlying103
  a25 := Tryz.isAgg103
  z25 := Tryz.sizeOf103
  v25 := Tryz.zeroValue103
  i25 := by kernel_rfl
  t54 := Tryz.underlying184
  a54 := Tryz.isAgg184
  z54 := Tryz.sizeOf184
  g1 := by kernel_rfl }
theorem trailingZeros (x : Nat) (hx : x < 18446744073709551616) (w : World) (hT : x ≠ 0 → TabAt 9 Lib.deBruijn64tab w) :
    Calls Tryz.prog 174 #[.int .u64 x] w fun e w' => e = .returned (.int .i64 (Lib.ctz 64 x)) ∧ w' = w := Any7.bits_TrailingZeros64 layTz x hx w hT
end Go.Proofs.YtkpomjdablopaaaGreatDoor
/- Walks: strconv.FormatUint at base 10, strings.Repeat. -/
namespace Go.Proofs.YtkpomjdablopaaaGreatDoor
open Go.RowKit Go.Sort Go.Lib
set_option linter.unusedVariables false

/-- the powers of ten, as start-up lays them -/
structure Tabs (w : World) : Prop where
  pw : Lib.TabIs Tryz.prog w "internal/strconv.uint64pow10" .u64 Lib.pow10Tab
  h2 : 3 < w.heap.size
theorem gPow : Tryz.prog.globalNamed "internal/strconv.uint64pow10" = some 3 := by kernel_rfl
theorem Tabs.below {w w' : World} (h : Tabs w) (hb : Below w.heap.size w w') : Tabs w' where
  pw := var?_below hb gPow h.h2 h.pw
  h2 := Nat.lt_of_lt_of_le h.h2 hb.size

theorem repX : Builder.Extra Tryz.prog Tryz.lays105_ren := {
  sizeBuilder := by kernel_rfl
  liesBuilder := by kernel_rfl
  t5 := Tryz.underlying5
  a5 := Tryz.isAgg5
  z5 := Tryz.sizeOf5
  v5 := Tryz.zeroValue5
  infoByte := by kernel_rfl
  cellsByte := by kernel_rfl
  sizeByte := by kernel_rfl
  neB5 := by decide }
theorem repeat_any (s : ByteArray) (c : Nat) (w : World) (hc : c ≤ 9223372036854775807) (hlen : s.size * c ≤ 140737488355328) :
    Calls Tryz.prog 56 #[.string s, .int .i64 (c : Int)] w fun e w' => e = .returned (.string ⟨(Lib.repeatL s.data.toList c).toArray⟩) ∧ Below w.heap.size w w' :=
  Any.strings_Repeat Tryz.lays105 repX s c w hc hlen

theorem bytes0 : (⟨#[]⟩ : ByteArray) = ⟨([] : List UInt8).toArray⟩ := rfl

set_option maxHeartbeats 3200000 in
set_option maxRecDepth 100000 in
theorem ifmt_any (u : Nat) (hu64 : u < 18446744073709551616) (w : World) (ht : Tabs w) :
    Calls Tryz.prog 92 #[.int .u64 (u : Int), .int .i64 10] w fun e w' => e = .returned (.string ⟨(Lib.decDigits u).toArray⟩) ∧ Below w.heap.size w w' := by
  by_cases hs : u < 100
  · go_enter Tryz.func92, Tryz.ntmps92
    go_wp2_with (go_at_call 125; refine (Tryz.internal_strconv_small u hs _).mono ?_; rintro e w' ⟨rfl, rfl⟩)
    go_ret
    exact ⟨rfl, Below.refl _ _⟩
  · have hu1 : 1 ≤ u := by omega
    have hnd20 : Lib.nDigits u ≤ 20 := by have := Lib.numDigits_eq u hu1 hu64; split at this <;> omega
    have hal : Tryz.prog.arrayLen 127 = 24 := by kernel_rfl
    have hsl : ∀ W, (Instr.sliceAt 127 (.pointer (some ⟨w.heap.size, 0, none⟩)) none (some (.int .i64 (Lib.nDigits u : Int))) none).run Tryz.prog W = .ok (.slice (some ⟨w.heap.size, 0, none⟩) (Lib.nDigits u) 24) W := fun W => by
      rw [run_sliceAt_array_h W 127 ⟨w.heap.size, 0, none⟩ (by kernel_rfl) .i64 (Lib.nDigits u : Int) (by omega) (by rw [hal]; omega)]
      go_simp
    clear hal
    have hH0 := Lib.holds_zero0 w 127 (Lib.nDigits u) (by omega)
    have hfmt := Tryz.internal_strconv_formatBase10 w.heap.size 0 24 u (Array.replicate (Lib.nDigits u) 0) (w.alloc (.cells Lib.zeros24 127)) hH0 (by rw [Array.size_replicate]; exact Lib.lt_pow_nDigits u) hu64 (by rw [Array.size_replicate]; omega)
    rw [Array.size_replicate] at hfmt
    have HH0 := Lib.hid hH0
    clear hH0
    go_enter Tryz.func92, Tryz.ntmps92
    go_wp2_with (first
      | (go_at_call 126; refine (Tryz.internal_strconv_numDigits u hu1 hu64 _ (Lib.tabIs_alloc ht.pw _)).mono ?_; rintro e w' ⟨rfl, rfl⟩))
    go_at_call 127
    refine hfmt.mono ?_
    rintro e w' ⟨rfl, k, v', dk, rfl, hF⟩
    have hcv : (convert 71 9 (.slice (some ⟨w.heap.size, 0, none⟩) (Lib.nDigits u) 24)).run Tryz.prog ((putRow (fun (b : UInt8) => Value.int .u8 (b.toNat : Int)) (w.alloc (.cells Lib.zeros24 127)) w.heap.size 0 dk).drewN k) = .ok (.string ⟨(Lib.decDigits u).toArray⟩) ((putRow (fun (b : UInt8) => Value.int .u8 (b.toNat : Int)) (w.alloc (.cells Lib.zeros24 127)) w.heap.size 0 dk).drewN k) := by
      have h := run_convert_bytes_back (P := Tryz.prog) ((putRow (fun (b : UInt8) => Value.int .u8 (b.toNat : Int)) (w.alloc (.cells Lib.zeros24 127)) w.heap.size 0 dk).drewN k) 71 9 5 ⟨w.heap.size, 0, none⟩ 24 (Lib.decDigits u) Tryz.underlying71 Tryz.underlying5 Tryz.underlying9 (fun j hj => by
        rw [Lib.row_is_numeral hF j hj, Lib.add_plain, World.cell?_drewN]
        exact cell?_putRow (fun (b : UInt8) => Value.int .u8 (b.toNat : Int)) _ w.heap.size 0 _ dk HH0.out (by rw [hF.size, Array.size_replicate]) j (by rw [hF.size]; rw [Lib.decDigits_length] at hj; exact hj))
      rw [Lib.decDigits_length] at h
      exact h
    go_wp2
    go_ret
    obtain ⟨os, eo⟩ := Lib.fin_at w (.cells Lib.zeros24 127) dk k 0
    exact ⟨rfl, by rw [eo]; exact Lib.below_grow _ w (Nat.le_refl _) k os⟩

set_option maxRecDepth 100000 in
theorem fmt_any (u : Nat) (hu64 : u < 18446744073709551616) (w : World) (ht : Tabs w) :
    Calls Tryz.prog 55 #[.int .u64 (u : Int), .int .i64 10] w fun e w' => e = .returned (.string ⟨(Lib.decDigits u).toArray⟩) ∧ Below w.heap.size w w' := by
  go_enter Tryz.func55, Tryz.ntmps55
  go_wp2_with fail
  refine (ifmt_any u hu64 w ht).mono ?_
  rintro e w' ⟨rfl, hb⟩
  go_wp2_with fail
  go_ret
  exact ⟨rfl, hb⟩

end Go.Proofs.YtkpomjdablopaaaGreatDoor
/- Walks: math/bits.Div64 at ten to the nineteenth. -/
namespace Go.Proofs.YtkpomjdablopaaaGreatDoor
open Go.RowKit
set_option linter.unusedVariables false

theorem lz_len : Lib.bitLen (Int.toNat 10000000000000000000) = 64 := by decide +kernel
theorem lz_top (y : Nat) (h : Hid (y = 10000000000000000000)) (w : World) : Calls Tryz.prog 124 #[.int .u64 (y : Int)] w fun e w' => e = .returned (.int .i64 0) ∧ w = w' := by
  rw [h.out]
  exact (Tryz.bits_LeadingZeros64 10000000000000000000 w (by decide) (by decide)).mono fun e w' ⟨he, hw⟩ => ⟨by rw [he, lz_len]; rfl, hw.symm⟩

/-- what a digit's guess keeps -/
def Gs (h u q r : Nat) : Prop := q * 2328306436 + r = h ∧ h * 4294967296 + u < (q + 1) * 10000000000000000000
theorem gs_start {h u : Nat} (hh : h < 10000000000000000000) (hu : u < 4294967296) : Gs h u (h / 2328306436) (h % 2328306436) ∧ h / 2328306436 ≤ 4294967296 := by
  have e := Nat.div_add_mod h 2328306436
  have l := Nat.mod_lt h (show 0 < 2328306436 by decide)
  unfold Gs
  generalize h / 2328306436 = q at *
  generalize h % 2328306436 = r at *
  omega
theorem gs_step {h u q r : Nat} (hh : h < 10000000000000000000) (hu : u < 4294967296) (hr : r < 4294967296) (g : Gs h u q r) (hq : q ≤ 4294967296) (hc : 4294967296 ≤ q ∨ 4294967296 * r + u < q * 2313682944) : Gs h u (q - 1) (r + 2328306436) ∧ 0 < q := by
  unfold Gs at *; omega
theorem gs_end {h u q r : Nat} (g : Gs h u q r) (hc : q * 2313682944 ≤ 4294967296 * r + u) : (h * 4294967296 + u) / 10000000000000000000 = q := by
  unfold Gs at *
  rw [Nat.div_eq_iff (by decide)]
  omega
theorem gs_break {h u q r : Nat} (g : Gs h u q r) (hq : q ≤ 4294967296) (hr : 4294967296 ≤ r) : (h * 4294967296 + u) / 10000000000000000000 = q := by
  unfold Gs at *
  rw [Nat.div_eq_iff (by decide)]
  omega
theorem w64 {n : Nat} {z : Int} (h : z = (n : Int)) (hn : n < 18446744073709551616) : IntKind.u64.wrap z = (n : Int) := by rw [h]; exact wrap_nat hn
theorem rem_w {h u q y : Nat} (hh : h < 10000000000000000000) (hu : u < 4294967296) (hy : y = 10000000000000000000) (hq : (h * 4294967296 + u) / 10000000000000000000 = q) :
    IntKind.u64.wrap (IntKind.u64.wrap (IntKind.u64.wrap ((h : Int) * 4294967296) + (u : Int)) - IntKind.u64.wrap ((q : Int) * (y : Int))) = (((h * 4294967296 + u) % 10000000000000000000 : Nat) : Int) := by
  subst hy; rw [IntKind.wrap_u64, IntKind.wrap_u64, IntKind.wrap_u64, IntKind.wrap_u64]; omega

theorem div_e {hi lo u1 u0 v q1 q2 : Nat} (hh : hi < 10000000000000000000) (hl : lo < 18446744073709551616) (h1 : u1 = lo / 4294967296) (h0 : u0 = lo % 4294967296) (hv : v = (hi * 4294967296 + u1) % 10000000000000000000)
    (e1 : (hi * 4294967296 + u1) / 10000000000000000000 = q1) (e2 : (v * 4294967296 + u0) / 10000000000000000000 = q2) :
    (hi * 18446744073709551616 + lo) / 10000000000000000000 = q1 * 4294967296 + q2 := by
  have a1 : 10000000000000000000 * q1 + v = hi * 4294967296 + u1 := by rw [hv, ← e1]; exact Nat.div_add_mod _ _
  have a2 := Nat.div_add_mod (v * 4294967296 + u0) 10000000000000000000
  have a3 := Nat.mod_lt (v * 4294967296 + u0) (show 0 < 10000000000000000000 by decide)
  have a4 : v < 10000000000000000000 := by rw [hv]; exact Nat.mod_lt _ (by decide)
  rw [e2] at a2
  rw [Nat.div_eq_iff (by decide)]
  omega
theorem div_w {hi lo u1 u0 v q1 q2 : Nat} (hh : hi < 10000000000000000000) (hl : lo < 18446744073709551616) (h1 : u1 = lo / 4294967296) (h0 : u0 = lo % 4294967296) (hv : v = (hi * 4294967296 + u1) % 10000000000000000000)
    (e1 : (hi * 4294967296 + u1) / 10000000000000000000 = q1) (e2 : (v * 4294967296 + u0) / 10000000000000000000 = q2) :
    IntKind.u64.wrap (IntKind.u64.wrap ((q1 : Int) * 4294967296) + (q2 : Int)) = (((hi * 18446744073709551616 + lo) / 10000000000000000000 : Nat) : Int) := by
  have e := div_e hh hl h1 h0 hv e1 e2
  have hq : (hi * 18446744073709551616 + lo) / 10000000000000000000 < 18446744073709551616 := by omega
  rw [e] at hq ⊢
  rw [IntKind.wrap_u64, IntKind.wrap_u64]
  omega
theorem mod_w {hi lo u1 u0 v : Nat} (h1 : u1 = lo / 4294967296) (h0 : u0 = lo % 4294967296) (hv : v = (hi * 4294967296 + u1) % 10000000000000000000) :
    (v * 4294967296 + u0) % 10000000000000000000 = (hi * 18446744073709551616 + lo) % 10000000000000000000 := by
  have a1 := Nat.div_add_mod (hi * 4294967296 + u1) 10000000000000000000
  rw [← hv] at a1
  generalize (hi * 4294967296 + u1) / 10000000000000000000 = q at a1
  have e : hi * 18446744073709551616 + lo = v * 4294967296 + u0 + 10000000000000000000 * (4294967296 * q) := by omega
  rw [e, Nat.add_mul_mod_self_left]

set_option maxRecDepth 100000 in
set_option maxHeartbeats 4000000 in
theorem div64_any (hi lo y Q R : Nat) (hy : Hid (y = 10000000000000000000)) (h : hi < y) (hlo : Hid (lo < 18446744073709551616)) (hQ : Hid (Q = (hi * 18446744073709551616 + lo) / 10000000000000000000)) (hR : Hid (R = (hi * 18446744073709551616 + lo) % 10000000000000000000)) (w : World) :
    Calls Tryz.prog 91 #[.int .u64 (hi : Int), .int .u64 (lo : Int), .int .u64 (y : Int)] w fun e w' => e = .returned (.tuple #[.int .u64 (Q : Int), .int .u64 (R : Int)]) ∧ ∃ q, w' = w.drewN q := by
  have hy0 : 0 < y := by rw [hy.out]; decide
  by_cases h0 : hi = 0
  · subst h0
    have hyz : ((y : Int) == 0) = false := by simp; omega
    have hyle : ¬ ((y : Int) ≤ 0) := by omega
    have E1 : (lo : Int).tdiv (y : Int) = (Q : Int) := by rw [hQ.out, hy.out, ← Int.ofNat_tdiv, Nat.zero_mul, Nat.zero_add]
    have E2 : (lo : Int).tmod (y : Int) = (R : Int) := by rw [hR.out, hy.out, ← Int.ofNat_tmod, Nat.zero_mul, Nat.zero_add]
    have E3 : IntKind.u64.wrap (Q : Int) = (Q : Int) := w64 rfl (by rw [hQ.out]; have := hlo.out; omega)
    have E4 : IntKind.u64.wrap (R : Int) = (R : Int) := w64 rfl (by rw [hR.out]; omega)
    go_enter Tryz.func91, Tryz.ntmps91
    go_wp2_with fail
    go_quiet (fail)
    go_wp2_with fail
    go_ret2
    exact ⟨rfl, _, rfl⟩
  · have h01 : ((hi : Int) == 0) = false := by simp; omega
    have hyz : ((y : Int) == 0) = false := by simp; omega
    have hilt : Hid (hi < 10000000000000000000) := Lib.hid (by rw [← hy.out]; exact h)
    obtain ⟨n1, hn1⟩ : ∃ n : Nat, Hid (n = 2328306436) := ⟨_, Lib.hid rfl⟩
    obtain ⟨n0, hn0⟩ : ∃ n : Nat, Hid (n = 2313682944) := ⟨_, Lib.hid rfl⟩
    obtain ⟨u1, hu1⟩ : ∃ n : Nat, Hid (n = lo / 4294967296) := ⟨_, Lib.hid rfl⟩
    obtain ⟨u0, hu0⟩ : ∃ n : Nat, Hid (n = lo % 4294967296) := ⟨_, Lib.hid rfl⟩
    have u1l : Hid (u1 < 4294967296) := Lib.hid (by rw [hu1.out]; have := hlo.out; omega)
    have u0l : Hid (u0 < 4294967296) := Lib.hid (by rw [hu0.out]; omega)
    have D1 : IntKind.u64.wrap (y : Int) = (y : Int) := w64 rfl (by rw [hy.out]; decide)
    have D2 : (y : Int) / 4294967296 = (n1 : Int) := by rw [hy.out, hn1.out]; decide
    have D3 : bits BinOp.and IntKind.u64 (y : Int) 4294967295 = (n0 : Int) := by rw [hy.out, hn0.out]; decide +kernel
    have D4 : IntKind.u64.wrap (hi : Int) = (hi : Int) := w64 rfl (by have := hilt.out; omega)
    have D5 : (lo : Int) / 18446744073709551616 = 0 := by have := hlo.out; omega
    have D6 : bits BinOp.or IntKind.u64 (hi : Int) 0 = (hi : Int) := by
      have := u64_or_nat hi 0 (by have := hilt.out; omega) (by decide)
      simpa using this
    have D7 : IntKind.u64.wrap (lo : Int) = (lo : Int) := w64 rfl hlo.out
    have D8 : (lo : Int) / 4294967296 = (u1 : Int) := by rw [hu1.out]; omega
    have D9 : bits BinOp.and IntKind.u64 (lo : Int) 4294967295 = (u0 : Int) := by rw [and_low lo hlo.out, hu0.out]
    have n1p : 0 < n1 := by rw [hn1.out]; decide
    have n1z : ((n1 : Int) == 0) = false := by simp; omega
    obtain ⟨q1, hq1⟩ : ∃ q : Nat, Hid (q = hi / 2328306436) := ⟨_, Lib.hid rfl⟩
    obtain ⟨r1, hr1⟩ : ∃ r : Nat, Hid (r = hi % 2328306436) := ⟨_, Lib.hid rfl⟩
    obtain ⟨p1, hp1⟩ : ∃ p : Nat, Hid (p = hi / 2328306436 * 2328306436) := ⟨_, Lib.hid rfl⟩
    have G1 := Lib.hid (gs_start (h := hi) (u := u1) hilt.out u1l.out)
    have hqb1 : q1 ≤ 4294967296 := by rw [hq1.out]; exact G1.out.2
    have hrb1 : r1 < 4294967296 := by rw [hr1.out]; omega
    have GG1 : Hid (Gs hi u1 q1 r1) := Lib.hid (by rw [hq1.out, hr1.out]; exact G1.out.1)
    have E11 : (hi : Int).tdiv (n1 : Int) = (q1 : Int) := by rw [hn1.out, hq1.out, ← Int.ofNat_tdiv]
    have E21 : IntKind.u64.wrap (q1 : Int) = (q1 : Int) := w64 rfl (by omega)
    have E31 : IntKind.u64.wrap ((q1 : Int) * (n1 : Int)) = (p1 : Int) := w64 (by rw [hn1.out, hq1.out, hp1.out]; simp) (by rw [hp1.out]; have := hilt.out; omega)
    have E41 : IntKind.u64.wrap ((hi : Int) - (p1 : Int)) = (r1 : Int) := w64 (by rw [hp1.out, hr1.out]; omega) (by omega)
    go_enter Tryz.func91, Tryz.ntmps91
    go_wp2_with (go_at_call 124; refine (lz_top y hy _).mono ?_; rintro e w' ⟨rfl, rfl⟩)
    go_loop [15, 16] (fun qv rv => ∃ q r : Nat, qv = .int .u64 (q : Int) ∧ rv = .int .u64 (r : Int) ∧ q ≤ 4294967296 ∧ r < 4294967296 ∧ Hid (Gs hi u1 q r)) (fun qv _ => (intOf qv).toNat)
    case atStart => exact ⟨q1, r1, rfl, rfl, hqb1, hrb1, GG1⟩
    case round =>
      clear E11 E21 E31 E41 hqb1 hrb1 GG1 hq1 hr1 hp1 G1
      obtain ⟨q1, r1, rfl, rfl, hqb1, hrb1, GG1⟩ := hrel
      obtain ⟨a1, ha1⟩ : ∃ a : Nat, Hid (a = q1 * 2313682944) := ⟨_, Lib.hid rfl⟩
      obtain ⟨b1, hb1⟩ : ∃ b : Nat, Hid (b = 4294967296 * r1) := ⟨_, Lib.hid rfl⟩
      obtain ⟨c1, hc1⟩ : ∃ c : Nat, Hid (c = 4294967296 * r1 + u1) := ⟨_, Lib.hid rfl⟩
      have F11 : IntKind.u64.wrap ((q1 : Int) * (n0 : Int)) = (a1 : Int) := w64 (by rw [hn0.out, ha1.out]; simp) (by rw [ha1.out]; omega)
      have F21 : IntKind.u64.wrap (4294967296 * (r1 : Int)) = (b1 : Int) := w64 (by rw [hb1.out]; simp) (by rw [hb1.out]; omega)
      have F31 : IntKind.u64.wrap ((b1 : Int) + (u1 : Int)) = (c1 : Int) := w64 (by rw [hb1.out, hc1.out]; omega) (by rw [hc1.out]; have := u1l.out; omega)
      by_cases hcond : 4294967296 ≤ q1 ∨ c1 < a1
      · obtain ⟨GG2, hq0⟩ := gs_step hilt.out u1l.out hrb1 GG1.out hqb1 (by rw [← hc1.out, ← ha1.out]; exact hcond)
        obtain ⟨m1, hm1⟩ : ∃ m : Nat, m = q1 - 1 := ⟨_, rfl⟩
        obtain ⟨s1, hs1⟩ : ∃ s : Nat, s = r1 + 2328306436 := ⟨_, rfl⟩
        have F41 : IntKind.u64.wrap ((q1 : Int) - 1) = (m1 : Int) := w64 (by omega) (by omega)
        have F51 : IntKind.u64.wrap ((r1 : Int) + (n1 : Int)) = (s1 : Int) := w64 (by rw [hn1.out]; omega) (by omega)
        rw [← hm1, ← hs1] at GG2
        have HG21 := Lib.hid GG2
        clear GG2
        have hql1 : m1 < q1 := by omega
        have HQ1 := Lib.hid hm1
        have HR1 := Lib.hid hs1
        clear hm1 hs1
        have hq21 : m1 ≤ 4294967296 := by omega
        by_cases hq32 : 4294967296 ≤ q1
        · have cq1 : (4294967296 : Int) ≤ (q1 : Int) := by omega
          by_cases hbr : s1 < 4294967296
          · have cr1 : ¬ (4294967296 : Int) ≤ (s1 : Int) := by omega
            clear hcond
            go_wp2_with fail
            go_round
            case rel => exact ⟨m1, s1, rfl, rfl, hq21, hbr, HG21⟩
            case measure => simp [intOf]; omega
          · have cr1 : (4294967296 : Int) ≤ (s1 : Int) := by omega
            have HE1 : Hid ((hi * 4294967296 + u1) / 10000000000000000000 = m1) := Lib.hid (gs_break HG21.out hq21 (by omega))
            clear hcond hbr
            obtain ⟨v, hv⟩ : ∃ v : Nat, Hid (v = (hi * 4294967296 + u1) % 10000000000000000000) := ⟨_, Lib.hid rfl⟩
            have K1 : IntKind.u64.wrap (IntKind.u64.wrap (IntKind.u64.wrap ((hi : Int) * 4294967296) + (u1 : Int)) - IntKind.u64.wrap ((m1 : Int) * (y : Int))) = (v : Int) := by rw [hv.out]; exact rem_w hilt.out u1l.out hy.out HE1.out
            have vlt : Hid (v < 10000000000000000000) := Lib.hid (by rw [hv.out]; omega)
            obtain ⟨q2, hq2⟩ : ∃ q : Nat, Hid (q = v / 2328306436) := ⟨_, Lib.hid rfl⟩
            obtain ⟨r2, hr2⟩ : ∃ r : Nat, Hid (r = v % 2328306436) := ⟨_, Lib.hid rfl⟩
            obtain ⟨p2, hp2⟩ : ∃ p : Nat, Hid (p = v / 2328306436 * 2328306436) := ⟨_, Lib.hid rfl⟩
            have G2 := Lib.hid (gs_start (h := v) (u := u0) vlt.out u0l.out)
            have hqb2 : q2 ≤ 4294967296 := by rw [hq2.out]; exact G2.out.2
            have hrb2 : r2 < 4294967296 := by rw [hr2.out]; omega
            have GG2 : Hid (Gs v u0 q2 r2) := Lib.hid (by rw [hq2.out, hr2.out]; exact G2.out.1)
            have E12 : (v : Int).tdiv (n1 : Int) = (q2 : Int) := by rw [hn1.out, hq2.out, ← Int.ofNat_tdiv]
            have E22 : IntKind.u64.wrap (q2 : Int) = (q2 : Int) := w64 rfl (by omega)
            have E32 : IntKind.u64.wrap ((q2 : Int) * (n1 : Int)) = (p2 : Int) := w64 (by rw [hn1.out, hq2.out, hp2.out]; simp) (by rw [hp2.out]; have := vlt.out; omega)
            have E42 : IntKind.u64.wrap ((v : Int) - (p2 : Int)) = (r2 : Int) := w64 (by rw [hp2.out, hr2.out]; omega) (by omega)
            go_wp2_with fail
            go_loop [18, 16] (fun qv rv => ∃ q r : Nat, qv = .int .u64 (q : Int) ∧ rv = .int .u64 (r : Int) ∧ q ≤ 4294967296 ∧ r < 4294967296 ∧ Hid (Gs v u0 q r)) (fun qv _ => (intOf qv).toNat)
            case atStart => exact ⟨q2, r2, rfl, rfl, hqb2, hrb2, GG2⟩
            case round =>
              clear E12 E22 E32 E42 hqb2 hrb2 GG2 hq2 hr2 hp2 G2
              obtain ⟨q2, r2, rfl, rfl, hqb2, hrb2, GG2⟩ := hrel
              obtain ⟨a2, ha2⟩ : ∃ a : Nat, Hid (a = q2 * 2313682944) := ⟨_, Lib.hid rfl⟩
              obtain ⟨b2, hb2⟩ : ∃ b : Nat, Hid (b = 4294967296 * r2) := ⟨_, Lib.hid rfl⟩
              obtain ⟨c2, hc2⟩ : ∃ c : Nat, Hid (c = 4294967296 * r2 + u0) := ⟨_, Lib.hid rfl⟩
              have F12 : IntKind.u64.wrap ((q2 : Int) * (n0 : Int)) = (a2 : Int) := w64 (by rw [hn0.out, ha2.out]; simp) (by rw [ha2.out]; omega)
              have F22 : IntKind.u64.wrap (4294967296 * (r2 : Int)) = (b2 : Int) := w64 (by rw [hb2.out]; simp) (by rw [hb2.out]; omega)
              have F32 : IntKind.u64.wrap ((b2 : Int) + (u0 : Int)) = (c2 : Int) := w64 (by rw [hb2.out, hc2.out]; omega) (by rw [hc2.out]; have := u0l.out; omega)
              by_cases hcond : 4294967296 ≤ q2 ∨ c2 < a2
              · obtain ⟨GG2, hq0⟩ := gs_step vlt.out u0l.out hrb2 GG2.out hqb2 (by rw [← hc2.out, ← ha2.out]; exact hcond)
                obtain ⟨m2, hm2⟩ : ∃ m : Nat, m = q2 - 1 := ⟨_, rfl⟩
                obtain ⟨s2, hs2⟩ : ∃ s : Nat, s = r2 + 2328306436 := ⟨_, rfl⟩
                have F42 : IntKind.u64.wrap ((q2 : Int) - 1) = (m2 : Int) := w64 (by omega) (by omega)
                have F52 : IntKind.u64.wrap ((r2 : Int) + (n1 : Int)) = (s2 : Int) := w64 (by rw [hn1.out]; omega) (by omega)
                rw [← hm2, ← hs2] at GG2
                have HG22 := Lib.hid GG2
                clear GG2
                have hql2 : m2 < q2 := by omega
                have HQ2 := Lib.hid hm2
                have HR2 := Lib.hid hs2
                clear hm2 hs2
                have hq22 : m2 ≤ 4294967296 := by omega
                by_cases hq32 : 4294967296 ≤ q2
                · have cq2 : (4294967296 : Int) ≤ (q2 : Int) := by omega
                  by_cases hbr : s2 < 4294967296
                  · have cr2 : ¬ (4294967296 : Int) ≤ (s2 : Int) := by omega
                    clear hcond
                    go_wp2_with fail
                    go_round
                    case rel => exact ⟨m2, s2, rfl, rfl, hq22, hbr, HG22⟩
                    case measure => simp [intOf]; omega
                  · have cr2 : (4294967296 : Int) ≤ (s2 : Int) := by omega
                    have HE2 : Hid ((v * 4294967296 + u0) / 10000000000000000000 = m2) := Lib.hid (gs_break HG22.out hq22 (by omega))
                    clear hcond hbr
                    have K2 : IntKind.u64.wrap (IntKind.u64.wrap (IntKind.u64.wrap ((v : Int) * 4294967296) + (u0 : Int)) - IntKind.u64.wrap ((m2 : Int) * (y : Int))) = (R : Int) := by rw [rem_w vlt.out u0l.out hy.out HE2.out, mod_w hu1.out hu0.out hv.out, hR.out]
                    have K3 : IntKind.u64.wrap (IntKind.u64.wrap ((m1 : Int) * 4294967296) + (m2 : Int)) = (Q : Int) := by rw [div_w hilt.out hlo.out hu1.out hu0.out hv.out HE1.out HE2.out, hQ.out]
                    have K5 : Hid (Q = m1 * 4294967296 + m2) := Lib.hid (by rw [hQ.out]; exact div_e hilt.out hlo.out hu1.out hu0.out hv.out HE1.out HE2.out)
                    go_wp2_with fail
                    go_ret2
                    refine ⟨?_, 0, rfl⟩
                    first | (simp; done) | (have k5 := K5.out; simp; omega)
                · have cq2 : ¬ (4294967296 : Int) ≤ (q2 : Int) := by omega
                  have hca2 : c2 < a2 := by omega
                  by_cases hbr : s2 < 4294967296
                  · have cr2 : ¬ (4294967296 : Int) ≤ (s2 : Int) := by omega
                    clear hcond
                    go_wp2_with fail
                    go_round
                    case rel => exact ⟨m2, s2, rfl, rfl, hq22, hbr, HG22⟩
                    case measure => simp [intOf]; omega
                  · have cr2 : (4294967296 : Int) ≤ (s2 : Int) := by omega
                    have HE2 : Hid ((v * 4294967296 + u0) / 10000000000000000000 = m2) := Lib.hid (gs_break HG22.out hq22 (by omega))
                    clear hcond hbr
                    have K2 : IntKind.u64.wrap (IntKind.u64.wrap (IntKind.u64.wrap ((v : Int) * 4294967296) + (u0 : Int)) - IntKind.u64.wrap ((m2 : Int) * (y : Int))) = (R : Int) := by rw [rem_w vlt.out u0l.out hy.out HE2.out, mod_w hu1.out hu0.out hv.out, hR.out]
                    have K3 : IntKind.u64.wrap (IntKind.u64.wrap ((m1 : Int) * 4294967296) + (m2 : Int)) = (Q : Int) := by rw [div_w hilt.out hlo.out hu1.out hu0.out hv.out HE1.out HE2.out, hQ.out]
                    have K5 : Hid (Q = m1 * 4294967296 + m2) := Lib.hid (by rw [hQ.out]; exact div_e hilt.out hlo.out hu1.out hu0.out hv.out HE1.out HE2.out)
                    go_wp2_with fail
                    go_ret2
                    refine ⟨?_, 0, rfl⟩
                    first | (simp; done) | (have k5 := K5.out; simp; omega)
              · have hq32 : q2 < 4294967296 := by omega
                have cq2 : ¬ (4294967296 : Int) ≤ (q2 : Int) := by omega
                have hca2 : ¬ c2 < a2 := by omega
                have HE2 : Hid ((v * 4294967296 + u0) / 10000000000000000000 = q2) := Lib.hid (gs_end GG2.out (by rw [← ha2.out, ← hc2.out]; omega))
                clear hcond
                have K2 : IntKind.u64.wrap (IntKind.u64.wrap (IntKind.u64.wrap ((v : Int) * 4294967296) + (u0 : Int)) - IntKind.u64.wrap ((q2 : Int) * (y : Int))) = (R : Int) := by rw [rem_w vlt.out u0l.out hy.out HE2.out, mod_w hu1.out hu0.out hv.out, hR.out]
                have K3 : IntKind.u64.wrap (IntKind.u64.wrap ((m1 : Int) * 4294967296) + (q2 : Int)) = (Q : Int) := by rw [div_w hilt.out hlo.out hu1.out hu0.out hv.out HE1.out HE2.out, hQ.out]
                have K5 : Hid (Q = m1 * 4294967296 + q2) := Lib.hid (by rw [hQ.out]; exact div_e hilt.out hlo.out hu1.out hu0.out hv.out HE1.out HE2.out)
                go_wp2_with fail
                go_ret2
                refine ⟨?_, 0, rfl⟩
                first | (simp; done) | (have k5 := K5.out; simp; omega)
        · have cq1 : ¬ (4294967296 : Int) ≤ (q1 : Int) := by omega
          have hca1 : c1 < a1 := by omega
          by_cases hbr : s1 < 4294967296
          · have cr1 : ¬ (4294967296 : Int) ≤ (s1 : Int) := by omega
            clear hcond
            go_wp2_with fail
            go_round
            case rel => exact ⟨m1, s1, rfl, rfl, hq21, hbr, HG21⟩
            case measure => simp [intOf]; omega
          · have cr1 : (4294967296 : Int) ≤ (s1 : Int) := by omega
            have HE1 : Hid ((hi * 4294967296 + u1) / 10000000000000000000 = m1) := Lib.hid (gs_break HG21.out hq21 (by omega))
            clear hcond hbr
            obtain ⟨v, hv⟩ : ∃ v : Nat, Hid (v = (hi * 4294967296 + u1) % 10000000000000000000) := ⟨_, Lib.hid rfl⟩
            have K1 : IntKind.u64.wrap (IntKind.u64.wrap (IntKind.u64.wrap ((hi : Int) * 4294967296) + (u1 : Int)) - IntKind.u64.wrap ((m1 : Int) * (y : Int))) = (v : Int) := by rw [hv.out]; exact rem_w hilt.out u1l.out hy.out HE1.out
            have vlt : Hid (v < 10000000000000000000) := Lib.hid (by rw [hv.out]; omega)
            obtain ⟨q2, hq2⟩ : ∃ q : Nat, Hid (q = v / 2328306436) := ⟨_, Lib.hid rfl⟩
            obtain ⟨r2, hr2⟩ : ∃ r : Nat, Hid (r = v % 2328306436) := ⟨_, Lib.hid rfl⟩
            obtain ⟨p2, hp2⟩ : ∃ p : Nat, Hid (p = v / 2328306436 * 2328306436) := ⟨_, Lib.hid rfl⟩
            have G2 := Lib.hid (gs_start (h := v) (u := u0) vlt.out u0l.out)
            have hqb2 : q2 ≤ 4294967296 := by rw [hq2.out]; exact G2.out.2
            have hrb2 : r2 < 4294967296 := by rw [hr2.out]; omega
            have GG2 : Hid (Gs v u0 q2 r2) := Lib.hid (by rw [hq2.out, hr2.out]; exact G2.out.1)
            have E12 : (v : Int).tdiv (n1 : Int) = (q2 : Int) := by rw [hn1.out, hq2.out, ← Int.ofNat_tdiv]
            have E22 : IntKind.u64.wrap (q2 : Int) = (q2 : Int) := w64 rfl (by omega)
            have E32 : IntKind.u64.wrap ((q2 : Int) * (n1 : Int)) = (p2 : Int) := w64 (by rw [hn1.out, hq2.out, hp2.out]; simp) (by rw [hp2.out]; have := vlt.out; omega)
            have E42 : IntKind.u64.wrap ((v : Int) - (p2 : Int)) = (r2 : Int) := w64 (by rw [hp2.out, hr2.out]; omega) (by omega)
            go_wp2_with fail
            go_loop [18, 16] (fun qv rv => ∃ q r : Nat, qv = .int .u64 (q : Int) ∧ rv = .int .u64 (r : Int) ∧ q ≤ 4294967296 ∧ r < 4294967296 ∧ Hid (Gs v u0 q r)) (fun qv _ => (intOf qv).toNat)
            case atStart => exact ⟨q2, r2, rfl, rfl, hqb2, hrb2, GG2⟩
            case round =>
              clear E12 E22 E32 E42 hqb2 hrb2 GG2 hq2 hr2 hp2 G2
              obtain ⟨q2, r2, rfl, rfl, hqb2, hrb2, GG2⟩ := hrel
              obtain ⟨a2, ha2⟩ : ∃ a : Nat, Hid (a = q2 * 2313682944) := ⟨_, Lib.hid rfl⟩
              obtain ⟨b2, hb2⟩ : ∃ b : Nat, Hid (b = 4294967296 * r2) := ⟨_, Lib.hid rfl⟩
              obtain ⟨c2, hc2⟩ : ∃ c : Nat, Hid (c = 4294967296 * r2 + u0) := ⟨_, Lib.hid rfl⟩
              have F12 : IntKind.u64.wrap ((q2 : Int) * (n0 : Int)) = (a2 : Int) := w64 (by rw [hn0.out, ha2.out]; simp) (by rw [ha2.out]; omega)
              have F22 : IntKind.u64.wrap (4294967296 * (r2 : Int)) = (b2 : Int) := w64 (by rw [hb2.out]; simp) (by rw [hb2.out]; omega)
              have F32 : IntKind.u64.wrap ((b2 : Int) + (u0 : Int)) = (c2 : Int) := w64 (by rw [hb2.out, hc2.out]; omega) (by rw [hc2.out]; have := u0l.out; omega)
              by_cases hcond : 4294967296 ≤ q2 ∨ c2 < a2
              · obtain ⟨GG2, hq0⟩ := gs_step vlt.out u0l.out hrb2 GG2.out hqb2 (by rw [← hc2.out, ← ha2.out]; exact hcond)
                obtain ⟨m2, hm2⟩ : ∃ m : Nat, m = q2 - 1 := ⟨_, rfl⟩
                obtain ⟨s2, hs2⟩ : ∃ s : Nat, s = r2 + 2328306436 := ⟨_, rfl⟩
                have F42 : IntKind.u64.wrap ((q2 : Int) - 1) = (m2 : Int) := w64 (by omega) (by omega)
                have F52 : IntKind.u64.wrap ((r2 : Int) + (n1 : Int)) = (s2 : Int) := w64 (by rw [hn1.out]; omega) (by omega)
                rw [← hm2, ← hs2] at GG2
                have HG22 := Lib.hid GG2
                clear GG2
                have hql2 : m2 < q2 := by omega
                have HQ2 := Lib.hid hm2
                have HR2 := Lib.hid hs2
                clear hm2 hs2
                have hq22 : m2 ≤ 4294967296 := by omega
                by_cases hq32 : 4294967296 ≤ q2
                · have cq2 : (4294967296 : Int) ≤ (q2 : Int) := by omega
                  by_cases hbr : s2 < 4294967296
                  · have cr2 : ¬ (4294967296 : Int) ≤ (s2 : Int) := by omega
                    clear hcond
                    go_wp2_with fail
                    go_round
                    case rel => exact ⟨m2, s2, rfl, rfl, hq22, hbr, HG22⟩
                    case measure => simp [intOf]; omega
                  · have cr2 : (4294967296 : Int) ≤ (s2 : Int) := by omega
                    have HE2 : Hid ((v * 4294967296 + u0) / 10000000000000000000 = m2) := Lib.hid (gs_break HG22.out hq22 (by omega))
                    clear hcond hbr
                    have K2 : IntKind.u64.wrap (IntKind.u64.wrap (IntKind.u64.wrap ((v : Int) * 4294967296) + (u0 : Int)) - IntKind.u64.wrap ((m2 : Int) * (y : Int))) = (R : Int) := by rw [rem_w vlt.out u0l.out hy.out HE2.out, mod_w hu1.out hu0.out hv.out, hR.out]
                    have K3 : IntKind.u64.wrap (IntKind.u64.wrap ((m1 : Int) * 4294967296) + (m2 : Int)) = (Q : Int) := by rw [div_w hilt.out hlo.out hu1.out hu0.out hv.out HE1.out HE2.out, hQ.out]
                    have K5 : Hid (Q = m1 * 4294967296 + m2) := Lib.hid (by rw [hQ.out]; exact div_e hilt.out hlo.out hu1.out hu0.out hv.out HE1.out HE2.out)
                    go_wp2_with fail
                    go_ret2
                    refine ⟨?_, 0, rfl⟩
                    first | (simp; done) | (have k5 := K5.out; simp; omega)
                · have cq2 : ¬ (4294967296 : Int) ≤ (q2 : Int) := by omega
                  have hca2 : c2 < a2 := by omega
                  by_cases hbr : s2 < 4294967296
                  · have cr2 : ¬ (4294967296 : Int) ≤ (s2 : Int) := by omega
                    clear hcond
                    go_wp2_with fail
                    go_round
                    case rel => exact ⟨m2, s2, rfl, rfl, hq22, hbr, HG22⟩
                    case measure => simp [intOf]; omega
                  · have cr2 : (4294967296 : Int) ≤ (s2 : Int) := by omega
                    have HE2 : Hid ((v * 4294967296 + u0) / 10000000000000000000 = m2) := Lib.hid (gs_break HG22.out hq22 (by omega))
                    clear hcond hbr
                    have K2 : IntKind.u64.wrap (IntKind.u64.wrap (IntKind.u64.wrap ((v : Int) * 4294967296) + (u0 : Int)) - IntKind.u64.wrap ((m2 : Int) * (y : Int))) = (R : Int) := by rw [rem_w vlt.out u0l.out hy.out HE2.out, mod_w hu1.out hu0.out hv.out, hR.out]
                    have K3 : IntKind.u64.wrap (IntKind.u64.wrap ((m1 : Int) * 4294967296) + (m2 : Int)) = (Q : Int) := by rw [div_w hilt.out hlo.out hu1.out hu0.out hv.out HE1.out HE2.out, hQ.out]
                    have K5 : Hid (Q = m1 * 4294967296 + m2) := Lib.hid (by rw [hQ.out]; exact div_e hilt.out hlo.out hu1.out hu0.out hv.out HE1.out HE2.out)
                    go_wp2_with fail
                    go_ret2
                    refine ⟨?_, 0, rfl⟩
                    first | (simp; done) | (have k5 := K5.out; simp; omega)
              · have hq32 : q2 < 4294967296 := by omega
                have cq2 : ¬ (4294967296 : Int) ≤ (q2 : Int) := by omega
                have hca2 : ¬ c2 < a2 := by omega
                have HE2 : Hid ((v * 4294967296 + u0) / 10000000000000000000 = q2) := Lib.hid (gs_end GG2.out (by rw [← ha2.out, ← hc2.out]; omega))
                clear hcond
                have K2 : IntKind.u64.wrap (IntKind.u64.wrap (IntKind.u64.wrap ((v : Int) * 4294967296) + (u0 : Int)) - IntKind.u64.wrap ((q2 : Int) * (y : Int))) = (R : Int) := by rw [rem_w vlt.out u0l.out hy.out HE2.out, mod_w hu1.out hu0.out hv.out, hR.out]
                have K3 : IntKind.u64.wrap (IntKind.u64.wrap ((m1 : Int) * 4294967296) + (q2 : Int)) = (Q : Int) := by rw [div_w hilt.out hlo.out hu1.out hu0.out hv.out HE1.out HE2.out, hQ.out]
                have K5 : Hid (Q = m1 * 4294967296 + q2) := Lib.hid (by rw [hQ.out]; exact div_e hilt.out hlo.out hu1.out hu0.out hv.out HE1.out HE2.out)
                go_wp2_with fail
                go_ret2
                refine ⟨?_, 0, rfl⟩
                first | (simp; done) | (have k5 := K5.out; simp; omega)
      · have hq32 : q1 < 4294967296 := by omega
        have cq1 : ¬ (4294967296 : Int) ≤ (q1 : Int) := by omega
        have hca1 : ¬ c1 < a1 := by omega
        have HE1 : Hid ((hi * 4294967296 + u1) / 10000000000000000000 = q1) := Lib.hid (gs_end GG1.out (by rw [← ha1.out, ← hc1.out]; omega))
        clear hcond
        obtain ⟨v, hv⟩ : ∃ v : Nat, Hid (v = (hi * 4294967296 + u1) % 10000000000000000000) := ⟨_, Lib.hid rfl⟩
        have K1 : IntKind.u64.wrap (IntKind.u64.wrap (IntKind.u64.wrap ((hi : Int) * 4294967296) + (u1 : Int)) - IntKind.u64.wrap ((q1 : Int) * (y : Int))) = (v : Int) := by rw [hv.out]; exact rem_w hilt.out u1l.out hy.out HE1.out
        have vlt : Hid (v < 10000000000000000000) := Lib.hid (by rw [hv.out]; omega)
        obtain ⟨q2, hq2⟩ : ∃ q : Nat, Hid (q = v / 2328306436) := ⟨_, Lib.hid rfl⟩
        obtain ⟨r2, hr2⟩ : ∃ r : Nat, Hid (r = v % 2328306436) := ⟨_, Lib.hid rfl⟩
        obtain ⟨p2, hp2⟩ : ∃ p : Nat, Hid (p = v / 2328306436 * 2328306436) := ⟨_, Lib.hid rfl⟩
        have G2 := Lib.hid (gs_start (h := v) (u := u0) vlt.out u0l.out)
        have hqb2 : q2 ≤ 4294967296 := by rw [hq2.out]; exact G2.out.2
        have hrb2 : r2 < 4294967296 := by rw [hr2.out]; omega
        have GG2 : Hid (Gs v u0 q2 r2) := Lib.hid (by rw [hq2.out, hr2.out]; exact G2.out.1)
        have E12 : (v : Int).tdiv (n1 : Int) = (q2 : Int) := by rw [hn1.out, hq2.out, ← Int.ofNat_tdiv]
        have E22 : IntKind.u64.wrap (q2 : Int) = (q2 : Int) := w64 rfl (by omega)
        have E32 : IntKind.u64.wrap ((q2 : Int) * (n1 : Int)) = (p2 : Int) := w64 (by rw [hn1.out, hq2.out, hp2.out]; simp) (by rw [hp2.out]; have := vlt.out; omega)
        have E42 : IntKind.u64.wrap ((v : Int) - (p2 : Int)) = (r2 : Int) := w64 (by rw [hp2.out, hr2.out]; omega) (by omega)
        go_wp2_with fail
        go_loop [18, 16] (fun qv rv => ∃ q r : Nat, qv = .int .u64 (q : Int) ∧ rv = .int .u64 (r : Int) ∧ q ≤ 4294967296 ∧ r < 4294967296 ∧ Hid (Gs v u0 q r)) (fun qv _ => (intOf qv).toNat)
        case atStart => exact ⟨q2, r2, rfl, rfl, hqb2, hrb2, GG2⟩
        case round =>
          clear E12 E22 E32 E42 hqb2 hrb2 GG2 hq2 hr2 hp2 G2
          obtain ⟨q2, r2, rfl, rfl, hqb2, hrb2, GG2⟩ := hrel
          obtain ⟨a2, ha2⟩ : ∃ a : Nat, Hid (a = q2 * 2313682944) := ⟨_, Lib.hid rfl⟩
          obtain ⟨b2, hb2⟩ : ∃ b : Nat, Hid (b = 4294967296 * r2) := ⟨_, Lib.hid rfl⟩
          obtain ⟨c2, hc2⟩ : ∃ c : Nat, Hid (c = 4294967296 * r2 + u0) := ⟨_, Lib.hid rfl⟩
          have F12 : IntKind.u64.wrap ((q2 : Int) * (n0 : Int)) = (a2 : Int) := w64 (by rw [hn0.out, ha2.out]; simp) (by rw [ha2.out]; omega)
          have F22 : IntKind.u64.wrap (4294967296 * (r2 : Int)) = (b2 : Int) := w64 (by rw [hb2.out]; simp) (by rw [hb2.out]; omega)
          have F32 : IntKind.u64.wrap ((b2 : Int) + (u0 : Int)) = (c2 : Int) := w64 (by rw [hb2.out, hc2.out]; omega) (by rw [hc2.out]; have := u0l.out; omega)
          by_cases hcond : 4294967296 ≤ q2 ∨ c2 < a2
          · obtain ⟨GG2, hq0⟩ := gs_step vlt.out u0l.out hrb2 GG2.out hqb2 (by rw [← hc2.out, ← ha2.out]; exact hcond)
            obtain ⟨m2, hm2⟩ : ∃ m : Nat, m = q2 - 1 := ⟨_, rfl⟩
            obtain ⟨s2, hs2⟩ : ∃ s : Nat, s = r2 + 2328306436 := ⟨_, rfl⟩
            have F42 : IntKind.u64.wrap ((q2 : Int) - 1) = (m2 : Int) := w64 (by omega) (by omega)
            have F52 : IntKind.u64.wrap ((r2 : Int) + (n1 : Int)) = (s2 : Int) := w64 (by rw [hn1.out]; omega) (by omega)
            rw [← hm2, ← hs2] at GG2
            have HG22 := Lib.hid GG2
            clear GG2
            have hql2 : m2 < q2 := by omega
            have HQ2 := Lib.hid hm2
            have HR2 := Lib.hid hs2
            clear hm2 hs2
            have hq22 : m2 ≤ 4294967296 := by omega
            by_cases hq32 : 4294967296 ≤ q2
            · have cq2 : (4294967296 : Int) ≤ (q2 : Int) := by omega
              by_cases hbr : s2 < 4294967296
              · have cr2 : ¬ (4294967296 : Int) ≤ (s2 : Int) := by omega
                clear hcond
                go_wp2_with fail
                go_round
                case rel => exact ⟨m2, s2, rfl, rfl, hq22, hbr, HG22⟩
                case measure => simp [intOf]; omega
              · have cr2 : (4294967296 : Int) ≤ (s2 : Int) := by omega
                have HE2 : Hid ((v * 4294967296 + u0) / 10000000000000000000 = m2) := Lib.hid (gs_break HG22.out hq22 (by omega))
                clear hcond hbr
                have K2 : IntKind.u64.wrap (IntKind.u64.wrap (IntKind.u64.wrap ((v : Int) * 4294967296) + (u0 : Int)) - IntKind.u64.wrap ((m2 : Int) * (y : Int))) = (R : Int) := by rw [rem_w vlt.out u0l.out hy.out HE2.out, mod_w hu1.out hu0.out hv.out, hR.out]
                have K3 : IntKind.u64.wrap (IntKind.u64.wrap ((q1 : Int) * 4294967296) + (m2 : Int)) = (Q : Int) := by rw [div_w hilt.out hlo.out hu1.out hu0.out hv.out HE1.out HE2.out, hQ.out]
                have K5 : Hid (Q = q1 * 4294967296 + m2) := Lib.hid (by rw [hQ.out]; exact div_e hilt.out hlo.out hu1.out hu0.out hv.out HE1.out HE2.out)
                go_wp2_with fail
                go_ret2
                refine ⟨?_, 0, rfl⟩
                first | (simp; done) | (have k5 := K5.out; simp; omega)
            · have cq2 : ¬ (4294967296 : Int) ≤ (q2 : Int) := by omega
              have hca2 : c2 < a2 := by omega
              by_cases hbr : s2 < 4294967296
              · have cr2 : ¬ (4294967296 : Int) ≤ (s2 : Int) := by omega
                clear hcond
                go_wp2_with fail
                go_round
                case rel => exact ⟨m2, s2, rfl, rfl, hq22, hbr, HG22⟩
                case measure => simp [intOf]; omega
              · have cr2 : (4294967296 : Int) ≤ (s2 : Int) := by omega
                have HE2 : Hid ((v * 4294967296 + u0) / 10000000000000000000 = m2) := Lib.hid (gs_break HG22.out hq22 (by omega))
                clear hcond hbr
                have K2 : IntKind.u64.wrap (IntKind.u64.wrap (IntKind.u64.wrap ((v : Int) * 4294967296) + (u0 : Int)) - IntKind.u64.wrap ((m2 : Int) * (y : Int))) = (R : Int) := by rw [rem_w vlt.out u0l.out hy.out HE2.out, mod_w hu1.out hu0.out hv.out, hR.out]
                have K3 : IntKind.u64.wrap (IntKind.u64.wrap ((q1 : Int) * 4294967296) + (m2 : Int)) = (Q : Int) := by rw [div_w hilt.out hlo.out hu1.out hu0.out hv.out HE1.out HE2.out, hQ.out]
                have K5 : Hid (Q = q1 * 4294967296 + m2) := Lib.hid (by rw [hQ.out]; exact div_e hilt.out hlo.out hu1.out hu0.out hv.out HE1.out HE2.out)
                go_wp2_with fail
                go_ret2
                refine ⟨?_, 0, rfl⟩
                first | (simp; done) | (have k5 := K5.out; simp; omega)
          · have hq32 : q2 < 4294967296 := by omega
            have cq2 : ¬ (4294967296 : Int) ≤ (q2 : Int) := by omega
            have hca2 : ¬ c2 < a2 := by omega
            have HE2 : Hid ((v * 4294967296 + u0) / 10000000000000000000 = q2) := Lib.hid (gs_end GG2.out (by rw [← ha2.out, ← hc2.out]; omega))
            clear hcond
            have K2 : IntKind.u64.wrap (IntKind.u64.wrap (IntKind.u64.wrap ((v : Int) * 4294967296) + (u0 : Int)) - IntKind.u64.wrap ((q2 : Int) * (y : Int))) = (R : Int) := by rw [rem_w vlt.out u0l.out hy.out HE2.out, mod_w hu1.out hu0.out hv.out, hR.out]
            have K3 : IntKind.u64.wrap (IntKind.u64.wrap ((q1 : Int) * 4294967296) + (q2 : Int)) = (Q : Int) := by rw [div_w hilt.out hlo.out hu1.out hu0.out hv.out HE1.out HE2.out, hQ.out]
            have K5 : Hid (Q = q1 * 4294967296 + q2) := Lib.hid (by rw [hQ.out]; exact div_e hilt.out hlo.out hu1.out hu0.out hv.out HE1.out HE2.out)
            go_wp2_with fail
            go_ret2
            refine ⟨?_, 0, rfl⟩
            first | (simp; done) | (have k5 := K5.out; simp; omega)
end Go.Proofs.YtkpomjdablopaaaGreatDoor
/- Rows of digits in any base; decimal texts by groups of nineteen: plain mathematics, of no program. -/
namespace Go.Proofs.YtkpomjdablopaaaGreatDoor.Kn
open Go

/-- the number of a row of digits in base b, the least significant first -/
def vb (b : Nat) : List Nat → Nat
  | [] => 0
  | x :: l => x + b * vb b l
theorem vb_append (b : Nat) (l m : List Nat) : vb b (l ++ m) = vb b l + b ^ l.length * vb b m := by
  induction l with
  | nil => simp [vb]
  | cons x l ih =>
    rw [List.cons_append]
    show x + b * vb b (l ++ m) = x + b * vb b l + b ^ (l.length + 1) * vb b m
    rw [ih, Nat.pow_succ, Nat.mul_add, Nat.mul_comm (b ^ l.length) b, Nat.mul_assoc]; omega
theorem vb_split (b : Nat) (l : List Nat) (k : Nat) (hk : k ≤ l.length) : vb b l = vb b (l.take k) + b ^ k * vb b (l.drop k) := by
  have h := vb_append b (l.take k) (l.drop k)
  rw [List.take_append_drop, List.length_take, Nat.min_eq_left hk] at h
  exact h
theorem vb_drop (b : Nat) (l : List Nat) {k : Nat} (hk : k < l.length) : vb b (l.drop k) = l.getD k 0 + b * vb b (l.drop (k + 1)) := by
  rw [drop_cons l hk]; rfl
theorem vb_set (b : Nat) (l : List Nat) {k : Nat} (x : Nat) (hk : k < l.length) : vb b (l.set k x) + b ^ k * l.getD k 0 = vb b l + b ^ k * x := by
  rw [vb_split b (l.set k x) k (by simpa using Nat.le_of_lt hk), vb_split b l k (Nat.le_of_lt hk), take_set_le, vb_drop b (l.set k x) (by simpa using hk), vb_drop b l hk, drop_set l x (by omega), getD_set _ _ _ _ hk, if_pos rfl, Nat.mul_add, Nat.mul_add]
  omega
theorem vb_zeros (b n : Nat) : vb b (List.replicate n 0) = 0 := by
  induction n with
  | zero => rfl
  | succ n ih => rw [List.replicate_succ]; show 0 + b * vb b _ = 0; rw [ih]; simp
theorem vb_take_succ (b : Nat) (l : List Nat) {k : Nat} (hk : k < l.length) : vb b (l.take (k + 1)) = vb b (l.take k) + b ^ k * l.getD k 0 := by
  rw [take_snoc l hk, vb_append, List.length_take, Nat.min_eq_left (by omega)]
  show _ = vb b (l.take k) + b ^ k * l.getD k 0
  simp [vb]
theorem vb_pos {b : Nat} (hb : 0 < b) (l : List Nat) {k : Nat} (hk : k < l.length) (h : l.getD k 0 ≠ 0) : 0 < vb b (l.take (k + 1)) := by
  rw [vb_take_succ b l hk]
  have := Nat.mul_pos (Nat.pow_pos hb (n := k)) (Nat.pos_of_ne_zero h)
  omega

/-- pairs of words -/
theorem pw_even (j : Nat) : pw (2 * j) = 18446744073709551616 ^ j := by unfold pw; rw [Nat.pow_mul]
theorem pair_even {ws ps : List Nat} {j x : Nat} (hj : j < ps.length) (hv : vb 18446744073709551616 ps = val (ws.take (2 * j))) (h0 : ps.getD j 0 = 0) (hx : x = ws.getD (2 * j) 0) :
    vb 18446744073709551616 (ps.set j x) = val (ws.take (2 * j + 1)) := by
  have h := vb_set 18446744073709551616 ps x hj
  rw [val_take_step, pw_even, ← hx]
  rw [h0] at h
  omega
theorem pair_odd {ws ps : List Nat} {j x o : Nat} (hj : j < ps.length) (hv : vb 18446744073709551616 ps = val (ws.take (2 * j + 1))) (h0 : ps.getD j 0 = o) (hx : x = ws.getD (2 * j + 1) 0) :
    vb 18446744073709551616 (ps.set j (o + x * 4294967296)) = val (ws.take (2 * j + 2)) := by
  have h := vb_set 18446744073709551616 ps (o + x * 4294967296) hj
  rw [show 2 * j + 2 = 2 * j + 1 + 1 by omega, val_take_step, pw_succ, pw_even, ← hx]
  rw [h0, Nat.mul_add] at h
  have e : 18446744073709551616 ^ j * (x * 4294967296) = 4294967296 * 18446744073709551616 ^ j * x := by
    rw [Nat.mul_comm x, ← Nat.mul_assoc, Nat.mul_comm (18446744073709551616 ^ j)]
  rw [e] at h
  omega

/-- one step of a long division of a row by g -/
theorem div_step {b g V p rest q r V' v : Nat} (hV : V = g * V' + rest) (hq : q = (rest * b + p) / g) (hr : r = (rest * b + p) % g) (hv : v = p + b * V) : v = g * (q + b * V') + r := by
  have h := Nat.div_add_mod (rest * b + p) g
  rw [← hq, ← hr] at h
  rw [hv, hV, Nat.mul_add, Nat.mul_add, Nat.mul_left_comm g b V', Nat.mul_comm b rest]
  omega

/-- nineteen digits -/
def pad (k g : Nat) : List UInt8 := List.replicate (k - (Lib.decDigits g).length) 48 ++ Lib.decDigits g
theorem dec_small {n : Nat} (h : n < 10) : Lib.decDigits n = [UInt8.ofNat (48 + n)] := Lib.decDigits_one h
theorem dec_big {n : Nat} (h : ¬ n < 10) : Lib.decDigits n = Lib.decDigits (n / 10) ++ [UInt8.ofNat (48 + n % 10)] := by
  rw [Lib.decDigits, dif_neg h]
theorem dec_len {k g : Nat} (h : g < 10 ^ (k + 1)) : (Lib.decDigits g).length ≤ k + 1 := by
  induction k generalizing g with
  | zero => rw [dec_small (by simpa using h)]; simp
  | succ k ih =>
    by_cases hs : g < 10
    · rw [dec_small hs]; simp
    · rw [dec_big hs, List.length_append]
      have := ih (g := g / 10) (by rw [Nat.pow_succ] at h; omega)
      simp; omega
theorem pad_succ {k g : Nat} (h : g < 10 ^ (k + 2)) : pad (k + 2) g = pad (k + 1) (g / 10) ++ [UInt8.ofNat (48 + g % 10)] := by
  unfold pad
  by_cases hs : g < 10
  · rw [dec_small hs, show g / 10 = 0 by omega, show g % 10 = g by omega, dec_small (show 0 < 10 by decide)]
    show List.replicate (k + 2 - 1) 48 ++ [UInt8.ofNat (48 + g)] = List.replicate (k + 1 - 1) 48 ++ [UInt8.ofNat (48 + 0)] ++ [UInt8.ofNat (48 + g)]
    rw [show k + 2 - 1 = k + 1 by omega, show k + 1 - 1 = k by omega, List.replicate_succ']
    rfl
  · rw [dec_big hs, List.length_append, List.append_assoc]
    have := dec_len (k := k) (g := g / 10) (by rw [Nat.pow_succ] at h; omega)
    rw [show k + 2 - ((Lib.decDigits (g / 10)).length + [UInt8.ofNat (48 + g % 10)].length) = k + 1 - (Lib.decDigits (g / 10)).length by simp]
theorem dec_split {k g n : Nat} (hn : 0 < n) (h : g < 10 ^ (k + 1)) : Lib.decDigits (g + 10 ^ (k + 1) * n) = Lib.decDigits n ++ pad (k + 1) g := by
  induction k generalizing g with
  | zero =>
    have hg : g < 10 := by simpa using h
    rw [dec_big (by omega), show (g + 10 ^ (0 + 1) * n) / 10 = n by omega, show (g + 10 ^ (0 + 1) * n) % 10 = g by omega]
    unfold pad
    rw [dec_small hg]; rfl
  | succ k ih =>
    have hp := Nat.pow_pos (show 0 < 10 by decide) (n := k + 1)
    have e : 10 ^ (k + 1 + 1) * n = 10 * (10 ^ (k + 1) * n) := by rw [Nat.pow_succ, Nat.mul_comm (10 ^ (k + 1)) 10, Nat.mul_assoc]
    have hm := Nat.mul_pos hp hn
    rw [e, dec_big (by omega), show (g + 10 * (10 ^ (k + 1) * n)) / 10 = g / 10 + 10 ^ (k + 1) * n by omega, show (g + 10 * (10 ^ (k + 1) * n)) % 10 = g % 10 by omega,
      ih (g := g / 10) (by rw [Nat.pow_succ] at h; omega), pad_succ h, List.append_assoc]

/-- the text of groups of nineteen digits -/
def gtext : List Nat → List UInt8
  | [] => []
  | [g] => Lib.decDigits g
  | g :: g' :: l => gtext (g' :: l) ++ pad 19 g
theorem gtext_eq (gs : List Nat) (h : ∀ x ∈ gs, x < 10000000000000000000) (hl : 0 < gs.length) (h0 : gs.getD (gs.length - 1) 0 ≠ 0) : gtext gs = Lib.decDigits (vb 10000000000000000000 gs) ∧ 0 < vb 10000000000000000000 gs := by
  induction gs with
  | nil => simp at hl
  | cons g l ih =>
    cases l with
    | nil =>
      have hg : g ≠ 0 := by simpa using h0
      have e : vb 10000000000000000000 [g] = g := by simp [vb]
      rw [e]
      exact ⟨rfl, by omega⟩
    | cons g' l =>
      obtain ⟨i1, i2⟩ := ih (fun x hx => h x (List.mem_cons_of_mem _ hx)) (by simp) (by
        rw [List.getD_eq_getElem?_getD] at h0 ⊢; simpa using h0)
      have hg := h g (List.mem_cons_self)
      have e : vb 10000000000000000000 (g :: g' :: l) = g + 10 ^ (18 + 1) * vb 10000000000000000000 (g' :: l) := rfl
      refine ⟨?_, by rw [e]; have := Nat.mul_pos (show 0 < 10 ^ (18 + 1) by decide) i2; omega⟩
      rw [e, dec_split i2 hg, ← i1]; rfl
theorem gtext_drop (gs : List Nat) {i : Nat} (hi : i + 1 < gs.length) : gtext (gs.drop i) = gtext (gs.drop (i + 1)) ++ pad 19 (gs.getD i 0) := by
  rw [drop_cons gs (by omega), drop_cons gs (show i + 1 < gs.length by omega)]; rfl
theorem gtext_last (gs : List Nat) (hl : 0 < gs.length) : gtext (gs.drop (gs.length - 1)) = Lib.decDigits (gs.getD (gs.length - 1) 0) := by
  rw [drop_cons gs (by omega), List.drop_of_length_le (by omega)]; rfl
end Go.Proofs.YtkpomjdablopaaaGreatDoor.Kn
/- Walks: pairUp, trimPairs. -/
namespace Go.Proofs.YtkpomjdablopaaaGreatDoor
open Go.RowKit
set_option linter.unusedVariables false

theorem infoU64 : (Tryz.prog.info? 82).map (fun i => (i.zero, i.size, i.bytes)) = some (some (.int .u64 0), 1, 8) := by kernel_rfl
theorem makeU64 (n : Nat) (hn : n ≤ 1000000000) (z : Int) (hz : z = (n : Int)) (W : World) : (Instr.makeSlice 77 (.int .i64 z) (.int .i64 z)).run Tryz.prog W = .ok (.slice (some ⟨W.heap.size, 0, none⟩) n n) (W.alloc (.cells (ncells .u64 (List.replicate n 0)) 82)) := by
  subst hz
  obtain ⟨i, hi, hzz⟩ := Option.map_eq_some_iff.1 infoU64
  simp only [Prod.mk.injEq] at hzz
  have h := run_make (P := Tryz.prog) W 77 82 i (.int .u64 0) Tryz.underlying77 hi hzz.1 .i64 .i64 n n (by omega) (by omega) (by rw [hzz.2.2]; omega) (by omega)
  rw [hzz.2.1, show (Value.int .u64 0).cells = #[.int .u64 0] from rfl] at h
  rw [← ncells_made]
  simpa using h

def W64 (l : List Nat) : Prop := ∀ k, l.getD k 0 < 18446744073709551616
theorem W64.set {l : List Nat} (h : W64 l) {k x : Nat} (hk : k < l.length) (hx : x < 18446744073709551616) : W64 (l.set k x) := fun j => by
  rw [Kn.getD_set _ _ _ _ hk]; split
  · exact hx
  · exact h j
/-- a block of pairs of words -/
structure Fill6 (w wr : World) (g n : Nat) (ps : List Nat) : Prop where
  row : Blk .u64 82 wr g ps
  len : ps.length = n
  wd : W64 ps
  bel : Below w.heap.size w wr
  hg : w.heap.size ≤ g
section
variable {w wr wx : World} {g n : Nat} {ps : List Nat}
theorem Fill6.put (h : Fill6 w wr g n ps) (k : Nat) (hk : k < n) {x : Nat} (hx : x < 18446744073709551616) : Fill6 w (wr.setCell ⟨g, k, none⟩ (.int .u64 (x : Int))) g n (ps.set k x) :=
  ⟨h.row.set_ k x, by rw [List.length_set]; exact h.len, h.wd.set (by have := h.len; omega) hx, h.bel.setCell (p := ⟨g, k, none⟩) h.hg _, h.hg⟩
theorem Fill6.drew (h : Fill6 w wr g n ps) : Fill6 w wr.drew g n ps := ⟨h.row.drew, h.len, h.wd, bDrew1 h.bel, h.hg⟩
theorem Fill6.drewN (h : Fill6 w wr g n ps) (q : Nat) : Fill6 w (wr.drewN q) g n ps := ⟨h.row.drewN q, h.len, h.wd, bDrew h.bel q, h.hg⟩
theorem Fill6.new_ (w : World) (n : Nat) : Fill6 w (w.alloc (.cells (ncells .u64 (List.replicate n 0)) 82)) w.heap.size n (List.replicate n 0) :=
  ⟨Blk.new_ _ _ _ _, by simp, fun k => by rw [List.getD_eq_getElem?_getD, List.getElem?_replicate]; split <;> simp, (Below.refl _ _).alloc (Nat.le_refl _) _, Nat.le_refl _⟩
end

theorem or_any (a b : Nat) (ha : a < 18446744073709551616) (hb : b < 18446744073709551616) : bits BinOp.or IntKind.u64 (a : Int) (b : Int) = ((a ||| b : Nat) : Int) := u64_or_nat a b ha hb

set_option maxRecDepth 100000 in
set_option maxHeartbeats 1000000 in
theorem pairUp_any (A : Option Addr) (c : Nat) (ws : List Nat) (w : World) (h : Sl w w.heap.size A c ws) (hl : ws.length ≤ 100000000) :
    Calls Tryz.prog 90 #[.slice A ws.length c] w fun e w' => ∃ n ps, e = .returned (.slice (some ⟨w.heap.size, 0, none⟩) n n) ∧ Fill6 w w' w.heap.size n ps ∧ Kn.vb 18446744073709551616 ps = Kn.val ws ∧ n ≤ 100000000 := by
  obtain ⟨n, hn⟩ : ∃ n : Nat, n = (ws.length + 1) / 2 := ⟨_, rfl⟩
  have hmk := makeU64 n (by omega) ((((ws.length : Nat) : Int) + 1) / 2) (by omega)
  have e1 : ((((ws.length : Nat) : Int) + 1) / 2).toNat = n := by omega
  have hn1 : ws.length ≤ 2 * n := by omega
  have hn2 : n ≤ 100000000 := by omega
  have HN := Lib.hid hn
  clear hn
  go_enter Tryz.func90, Tryz.ntmps90
  go_wp2_with fail
  have F0 := Fill6.new_ w n
  revert F0
  generalize w.alloc (.cells (ncells .u64 (List.replicate n 0)) 82) = w1
  intro F0
  clear hmk e1
  go_loopw [13] (fun iv wr => ∃ k ps, k ≤ ws.length ∧ iv = .int .i64 (k : Nat) ∧ Fill6 w wr w.heap.size n ps ∧ Hid (Kn.vb 18446744073709551616 ps = Kn.val (ws.take k) ∧ (∀ t, k ≤ 2 * t → ps.getD t 0 = 0) ∧ (∀ t, k = 2 * t + 1 → ps.getD t 0 < 4294967296))) (fun iv _ => ws.length - (intOf iv).toNat)
  case atStart => exact ⟨0, _, Nat.zero_le _, rfl, F0, Lib.hid ⟨by rw [Kn.vb_zeros]; simp [Kn.val], fun t _ => by rw [List.getD_eq_getElem?_getD, List.getElem?_replicate]; split <;> rfl, fun t ht => by omega⟩⟩
  case round =>
    obtain ⟨k, ps, hk, rfl, F, HI⟩ := hrel
    by_cases hlt : k < ws.length
    · obtain ⟨b1, o1, x, rfl, hb1, hc1, hx, hxl⟩ := (h.below F.bel).word hlt
      obtain ⟨j, hj⟩ : ∃ j : Nat, j = k / 2 := ⟨_, rfl⟩
      have hjn : j < n := by omega
      have k2 : (k : Int) / 2 = (j : Int) := by omega
      obtain ⟨o, ho⟩ : ∃ o : Nat, Hid (o = ps.getD j 0) := ⟨_, Lib.hid rfl⟩
      have hcg := F.row.cell (k := j) (by have := F.len; omega)
      rw [← ho.out] at hcg
      have hfg := F.row.frozen j
      have hI1 : (j : Int) < (n : Int) := by omega
      have hI2 : (0 : Int) ≤ (j : Int) := by omega
      have hjl : j < ps.length := by have := F.len; omega
      rcases Nat.mod_two_eq_zero_or_one k with hm | hm
      · have km : (k : Int) % 2 = 0 := by omega
        have o0 : Hid (o = 0) := Lib.hid (by rw [ho.out]; exact HI.out.2.1 j (by omega))
        have HV : Hid (Kn.vb 18446744073709551616 (ps.set j x) = Kn.val (ws.take (k + 1)) ∧ (∀ t, k + 1 ≤ 2 * t → (ps.set j x).getD t 0 = 0) ∧ (∀ t, k + 1 = 2 * t + 1 → (ps.set j x).getD t 0 < 4294967296)) := Lib.hid (by
          have hk2 : k = 2 * j := by omega
          refine ⟨?_, fun t ht => ?_, fun t ht => ?_⟩
          · rw [hk2]; exact Kn.pair_even hjl (by rw [← hk2]; exact HI.out.1) (by rw [← ho.out]; exact o0.out) (by rw [← hk2]; exact hx.out)
          · rw [Kn.getD_set _ _ _ _ hjl, if_neg (by omega)]; exact HI.out.2.1 t (by omega)
          · rw [Kn.getD_set _ _ _ _ hjl, if_pos (by omega)]; exact hxl)
        have EO : Hid (bits BinOp.or IntKind.u64 (o : Int) (x : Int) = (x : Int)) := Lib.hid (by rw [or_any o x (by rw [o0.out]; decide) (by omega), o0.out, Nat.zero_or])
        have HF := (F.put j hjn (x := x) (by omega)).drew
        have HK := Lib.hid hm
        have HJ := Lib.hid hj
        clear hm hj
        go_wp2_with fail
        go_region
        all_goals
          go_wp2_with fail
          rw [EO.out]
          go_roundw
          case rel => exact ⟨k + 1, _, by omega, by go_num, HF, HV⟩
          case measure => simp [intOf]; omega
      · have km : (k : Int) % 2 = 1 := by omega
        have o1 : o < 4294967296 := by rw [ho.out]; exact HI.out.2.2 j (by omega)
        obtain ⟨y, hy⟩ : ∃ y : Nat, Hid (y = o + x * 4294967296) := ⟨_, Lib.hid rfl⟩
        have HV : Hid (Kn.vb 18446744073709551616 (ps.set j y) = Kn.val (ws.take (k + 1)) ∧ (∀ t, k + 1 ≤ 2 * t → (ps.set j y).getD t 0 = 0) ∧ (∀ t, k + 1 = 2 * t + 1 → (ps.set j y).getD t 0 < 4294967296)) := Lib.hid (by
          have hk2 : k = 2 * j + 1 := by omega
          refine ⟨?_, fun t ht => ?_, fun t ht => by omega⟩
          · rw [hk2, hy.out]; exact Kn.pair_odd hjl (by rw [← hk2]; exact HI.out.1) ho.out.symm (by rw [← hk2]; exact hx.out)
          · rw [Kn.getD_set _ _ _ _ hjl, if_neg (by omega)]; exact HI.out.2.1 t (by omega))
        have EO : Hid (bits BinOp.or IntKind.u64 (o : Int) ((x : Int) * 4294967296) = (y : Int)) := Lib.hid (by
          have := or_any o (x * 4294967296) (by omega) (by omega)
          rw [Int.natCast_mul] at this
          rw [show ((4294967296 : Nat) : Int) = 4294967296 from rfl] at this
          rw [this, hy.out]
          congr 1
          have h2 := Nat.shiftLeft_add_eq_or_of_lt (i := 32) (show o < 2 ^ 32 by omega) x
          rw [Nat.shiftLeft_eq] at h2
          rw [Nat.or_comm, ← h2]; omega)
        have HF := (F.put j hjn (x := y) (by rw [hy.out]; omega)).drew
        have HK := Lib.hid hm
        have HJ := Lib.hid hj
        clear hm hj
        go_wp2_with fail
        go_region
        all_goals
          go_wp2_with fail
          rw [EO.out]
          go_roundw
          case rel => exact ⟨k + 1, _, by omega, by go_num, HF, HV⟩
          case measure => simp [intOf]; omega
    · obtain rfl : k = ws.length := by omega
      have HV := HI.out.1
      rw [List.take_length] at HV
      have HVV := Lib.hid HV
      clear HV
      go_wp2_with fail
      go_ret
      exact ⟨n, ps, rfl, F, HVV.out, hn2⟩

set_option maxHeartbeats 400000 in
theorem trimPairs_any (g : Nat) (c n N : Nat) (ps : List Nat) (w0 w : World) (h : Fill6 w0 w g N ps) (hn : n ≤ N) (hc : n ≤ c) (hl : N ≤ 100000000) :
    Calls Tryz.prog 89 #[.slice (some ⟨g, 0, none⟩) n c] w fun e w' => ∃ m, m ≤ n ∧ e = .returned (.slice (some ⟨g, 0, none⟩) m c) ∧ w = w' ∧ Kn.vb 18446744073709551616 (ps.take m) = Kn.vb 18446744073709551616 (ps.take n) ∧ (m = 0 ∨ ps.getD (m - 1) 0 ≠ 0) := by
  go_enter Tryz.func89, Tryz.ntmps89
  go_wp2
  go_loop [0] (fun v => ∃ k : Nat, k ≤ n ∧ v = .slice (some ⟨g, 0, none⟩) k c ∧ Hid (Kn.vb 18446744073709551616 (ps.take k) = Kn.vb 18446744073709551616 (ps.take n))) (fun v => match v with | .slice _ n _ => n | _ => 0)
  case atStart => exact ⟨n, Nat.le_refl _, rfl, Lib.hid rfl⟩
  case round =>
    obtain ⟨k, hk, rfl, HV⟩ := hrel
    by_cases hk0 : k = 0
    · have H0 := Lib.hid hk0
      subst hk0
      go_wp2
      go_ret
      exact ⟨0, Nat.zero_le _, rfl, rfl, HV.out, Or.inl rfl⟩
    · have hk1 : 0 < k := by omega
      have hlen := h.len
      have hcell := h.row.cell (k := k - 1) (by omega)
      obtain ⟨x, hx⟩ : ∃ x, Hid (x = ps.getD (k - 1) 0) := ⟨_, Lib.hid rfl⟩
      rw [← hx.out] at hcell
      have e1 : ((k : Int) - 1).toNat = k - 1 := by omega
      have e2 : (0 : Int) ≤ (k : Int) - 1 := by omega
      have HL := Lib.hid hlen
      clear hk0 hlen
      by_cases hx0 : x = 0
      · subst hx0
        have hv : Hid (Kn.vb 18446744073709551616 (ps.take (k - 1)) = Kn.vb 18446744073709551616 (ps.take n)) := Lib.hid (by
          have h1 := Kn.vb_take_succ 18446744073709551616 ps (k := k - 1) (by have := HL.out; omega)
          rw [← hx.out, Nat.mul_zero, Nat.sub_add_cancel hk1, HV.out] at h1
          omega)
        go_wp2
        go_round
        case rel => exact ⟨k - 1, by omega, by first | rfl | (congr 1; omega) | (rw [e1]), hv⟩
        case measure => simp; omega
      · have hx1 : ((x : Int) == 0) = false := by simp; omega
        have HX := Lib.hid hx0
        clear hx0
        go_wp2
        go_ret
        exact ⟨k, hk, rfl, rfl, HV.out, Or.inr (by have e := hx.out; rw [List.getD_eq_getElem?_getD] at e; rw [← e]; exact HX.out)⟩
end Go.Proofs.YtkpomjdablopaaaGreatDoor
