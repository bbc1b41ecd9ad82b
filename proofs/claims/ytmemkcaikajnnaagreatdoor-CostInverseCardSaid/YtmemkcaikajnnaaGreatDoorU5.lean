/- Walks: decimal texts of small numbers, Print of the reference. -/
import Derived.Test.YtmemkcaikajnnaaGreatDoorT5
import Derived.Test.YtmemkcaikajnnaaGreatDoorU4
import Derived.Laws.BytesString
import Derived.Deep.RegionHeld3
namespace Go.Proofs.YtmemkcaikajnnaaGreatDoor
open Go.RowKit Go.Sort
set_option linter.unusedVariables false

theorem mk_app (a b : List UInt8) : mkB a ++ mkB b = mkB (a ++ b) := by
  show ((⟨a.toArray⟩ : ByteArray) ++ ⟨b.toArray⟩) = ⟨(a ++ b).toArray⟩
  exact ByteArray.ext (by rw [ByteArray.data_append]; simp)

namespace Kp
theorem itoa_step {n : Nat} (h : n ≤ 100) : Lib.itoa (n : Int) = (if n < 10 then [] else Lib.itoa ((n / 10 : Nat) : Int)) ++ [UInt8.ofNat (48 + n % 10)] := by
  have hall : ∀ k : Fin 101, Lib.itoa ((k.val : Nat) : Int) = (if k.val < 10 then [] else Lib.itoa ((k.val / 10 : Nat) : Int)) ++ [UInt8.ofNat (48 + k.val % 10)] := by decide +kernel
  exact hall ⟨n, by omega⟩
end Kp
set_option maxRecDepth 100000 in
set_option maxHeartbeats 1000000 in
theorem num_step (n : Nat) (hn : n ≤ 100) (HR : 10 ≤ n → ∀ W : World, Calls Tryz.prog 14 #[.int .i64 ((n / 10 : Nat) : Int)] W fun e w' => e = .returned (.string (mkB (Lib.itoa ((n / 10 : Nat) : Int)))) ∧ Below W.heap.size W w') (w : World) :
    Calls Tryz.prog 14 #[.int .i64 (n : Int)] w fun e w' => e = .returned (.string (mkB (Lib.itoa (n : Int)))) ∧ Below w.heap.size w w' := by
  have hst := Kp.itoa_step hn
  obtain ⟨d, hd⟩ : ∃ d, Hid (n % 10 = d) := ⟨_, Lib.hid rfl⟩
  obtain ⟨q, hq⟩ : ∃ q, Hid (n / 10 = q) := ⟨_, Lib.hid rfl⟩
  obtain ⟨b, hb⟩ : ∃ b : UInt8, Hid (UInt8.ofNat (48 + d) = b) := ⟨_, Lib.hid rfl⟩
  have hd10 : d < 10 := by rw [← hd.out]; exact Nat.mod_lt _ (by decide)
  have hbn : b.toNat = 48 + d := by rw [← hb.out, UInt8.toNat_ofNat_of_lt' (by show 48 + d < 256; omega)]
  have f1 : ((n : Int)).tmod 10 = (d : Int) := by rw [← hd.out]; exact (Int.ofNat_tmod n 10).symm
  have f2 : ((n : Int)).tdiv 10 = (q : Int) := by rw [← hq.out]; exact (Int.ofNat_tdiv n 10).symm
  have f1' : (n : Int) % 10 = (d : Int) := by rw [← hd.out]; rfl
  have f2' : (n : Int) / 10 = (q : Int) := by rw [← hq.out]; rfl
  have e1 : IntKind.i64.wrap (d : Int) = (d : Int) := IntWalk.i64_in _ (by omega)
  have e2 : IntKind.i64.wrap (q : Int) = (q : Int) := IntWalk.i64_in _ (by have := hq.out; omega)
  have e3 : IntKind.i64.wrap (48 + (d : Int)) = (b.toNat : Int) := by rw [IntWalk.i64_in _ (by omega), hbn]; rfl
  have e4 : IntKind.u8.wrap (b.toNat : Int) = (b.toNat : Int) := by
    have := b.toNat_lt
    show ((b.toNat : Nat) : Int) % 256 = _
    omega
  obtain ⟨sb, hsb⟩ : ∃ s, Hid (mkB [b] = s) := ⟨_, Lib.hid rfl⟩
  have hcv : (convert 68 9 (.slice (some ⟨w.heap.size, 0, none⟩) 1 1)).run Tryz.prog (w.alloc (.cells #[.int .u8 (b.toNat : Int)] 5)) = .ok (.string sb) (w.alloc (.cells #[.int .u8 (b.toNat : Int)] 5)) := by
    have h := run_convert_bytes_back (P := Tryz.prog) (w.alloc (.cells #[.int .u8 (b.toNat : Int)] 5)) 68 9 5 ⟨w.heap.size, 0, none⟩ 1 [b] Tryz.underlying68 Tryz.underlying5 Tryz.underlying9 (fun j hj => by
      exact cell_one_new w (.int .u8 (b.toNat : Int)) 5 j _ (by
        match j, hj with
        | 0, _ => rfl))
    rw [← hsb.out]
    exact h
  have hsz : sb.size = 1 := by rw [← hsb.out]; rfl
  rw [hd.out, hq.out, hb.out] at hst
  rw [hq.out] at HR
  have HB := Lib.hid hbn
  have hal := al1 w (.cells #[.int .u8 (b.toNat : Int)] 5)
  clear hbn hd hq hb
  by_cases hlt : n < 10
  · have HX : Hid (sb = mkB (Lib.itoa (n : Int))) := Lib.hid (by rw [← hsb.out, hst, if_pos hlt]; rfl)
    have hltI : (n : Int) < 10 := by omega
    clear hst hsb HR
    go_enter Tryz.func14, Tryz.ntmps14
    go_wp2_with fail
    go_ret
    exact ⟨by rw [HX.out]; rfl, hal⟩
  · obtain ⟨s2, hs2⟩ : ∃ s, Hid (mkB (Lib.itoa (q : Int)) = s) := ⟨_, Lib.hid rfl⟩
    have HX : Hid (s2 ++ sb = mkB (Lib.itoa (n : Int))) := Lib.hid (by rw [← hsb.out, ← hs2.out, hst, if_neg hlt, mk_app])
    have HR2 := Lib.hid (by have h := HR (by omega); rw [hs2.out] at h; exact h)
    have hz : s2.size ≤ 4 := by
      rw [← hs2.out, mk_size]
      exact Kp.itoa_len4 _ (by omega) (by have : q ≤ n := by have := e2; omega
                                          omega)
    have k1 : (9223372036854775807 < s2.size + sb.size) = False := eq_false (by omega)
    have hltI : ¬ (n : Int) < 10 := by omega
    clear hst hsb HR hs2 hz hsz
    go_enter Tryz.func14, Tryz.ntmps14
    go_wp2_with fail
    refine (HR2.out _).mono ?_
    rintro r w2 ⟨rfl, b2⟩
    have b3 := bTrans hal b2
    go_wp2_with fail
    go_ret
    exact ⟨by rw [← HX.out]; rfl, b3⟩
theorem number_any (n : Nat) (hn : n ≤ 100) (w : World) : Calls Tryz.prog 14 #[.int .i64 (n : Int)] w fun e w' => e = .returned (.string (mkB (Lib.itoa (n : Int)))) ∧ Below w.heap.size w w' := by
  have h0 : ∀ k : Nat, k < 10 → ∀ W : World, Calls Tryz.prog 14 #[.int .i64 (k : Int)] W fun e w' => e = .returned (.string (mkB (Lib.itoa (k : Int)))) ∧ Below W.heap.size W w' := fun k hk W => num_step k (by omega) (fun h => absurd h (by omega)) W
  have h1 : ∀ k : Nat, k < 100 → ∀ W : World, Calls Tryz.prog 14 #[.int .i64 (k : Int)] W fun e w' => e = .returned (.string (mkB (Lib.itoa (k : Int)))) ∧ Below W.heap.size W w' := fun k hk W => num_step k (by omega) (fun _ => h0 (k / 10) (by omega)) W
  exact num_step n hn (fun _ => h1 (n / 10) (by omega)) w
end Go.Proofs.YtmemkcaikajnnaaGreatDoor
