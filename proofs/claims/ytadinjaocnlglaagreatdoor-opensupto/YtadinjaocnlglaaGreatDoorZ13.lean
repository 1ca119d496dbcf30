/-
  The walks of bits.Len64, bits.Len, tree.leftSize.
  The walks of label's methods, Tree.halves, Tree.Top.
  The walks of proof.labels and proof.Top.
  The walks of layout's leavesOf and rootOf.
  The walk of stripe.Whole.
  The walk of layout.Blocks.
  The walks of strings.Join without a separator, and of layout.Volumes.
-/
import Derived.Test.YtadinjaocnlglaaGreatDoorProg
import Derived.Test.YtadinjaocnlglaaGreatDoorZ12
import Derived.Lib.BitFns
import Derived.WalkKit
import Derived.WalkSpells
import Derived.WalkLawsBesides
import Derived.Test.YtadinjaocnlglaaGreatDoorZ04
import Derived.Maps.AppendAt
import Derived.BigRegion
import Derived.BigQuiet
import Derived.Deep.QuietTactic
import Derived.Deep.RegionWith
import Derived.Deep.RegionHeld3
import Derived.Test.YtadinjaocnlglaaGreatDoorZ08
import Derived.Test.YtadinjaocnlglaaGreatDoorZ06
import Derived.Deep.RegionLaw
namespace Go.Proofs.YtadinjaocnlglaaGreatDoor
open Go.RowKit
set_option maxRecDepth 100000
theorem fold51 : (⟨(([0, 1, 2, 2, 3, 3, 3, 3, 4, 4, 4, 4, 4, 4, 4, 4, 5, 5, 5, 5, 5, 5, 5, 5, 5, 5, 5, 5, 5, 5, 5, 5, 6, 6, 6, 6, 6, 6, 6, 6, 6, 6, 6, 6, 6, 6, 6, 6, 6, 6, 6, 6, 6, 6, 6, 6, 6, 6, 6, 6, 6, 6, 6, 6].append [7, 7, 7, 7, 7, 7, 7, 7, 7, 7, 7, 7, 7, 7, 7, 7, 7, 7, 7, 7, 7, 7, 7, 7, 7, 7, 7, 7, 7, 7, 7, 7, 7, 7, 7, 7, 7, 7, 7, 7, 7, 7, 7, 7, 7, 7, 7, 7, 7, 7, 7, 7, 7, 7, 7, 7, 7, 7, 7, 7, 7, 7, 7, 7]).append ([8, 8, 8, 8, 8, 8, 8, 8, 8, 8, 8, 8, 8, 8, 8, 8, 8, 8, 8, 8, 8, 8, 8, 8, 8, 8, 8, 8, 8, 8, 8, 8, 8, 8, 8, 8, 8, 8, 8, 8, 8, 8, 8, 8, 8, 8, 8, 8, 8, 8, 8, 8, 8, 8, 8, 8, 8, 8, 8, 8, 8, 8, 8, 8].append [8, 8, 8, 8, 8, 8, 8, 8, 8, 8, 8, 8, 8, 8, 8, 8, 8, 8, 8, 8, 8, 8, 8, 8, 8, 8, 8, 8, 8, 8, 8, 8, 8, 8, 8, 8, 8, 8, 8, 8, 8, 8, 8, 8, 8, 8, 8, 8, 8, 8, 8, 8, 8, 8, 8, 8, 8, 8, 8, 8, 8, 8, 8, 8])).toArray⟩ : ByteArray) = Lib.len8tab := by kernel_rfl
theorem tabb : ∃ t : ByteArray, Lib.len8tab = t ∧ ∀ (y : Nat) (w : World), y < 256 → (Instr.index 9 (.string t) (.int .u8 (y : Int))).run Tryz.prog w = .ok (.int .u8 (Lib.len8 (y : Int))) w :=
 ⟨_, rfl, fun y w hy => Lib.run_index_len8tab (P := Tryz.prog) (w := w) 9 .u8 (y : Int) Tryz.underlying9 (by omega) (by omega)⟩
set_option maxHeartbeats 2000000 in
theorem len64_0 (x : Nat) (w : World) (hx : x < 256) :
  Calls Tryz.prog 318 #[.int .u64 x] w fun e w' => e = .returned (.int .i64 (Lib.bitLen x)) ∧ w' = w := by
 obtain ⟨y, hy⟩ : ∃ y : Nat, y = x := ⟨_, rfl⟩
 have hy2 : y < 256 := by omega
 have he : (x : Int) = (y : Int) := by omega
 obtain ⟨t, ht, hix⟩ := tabb
 have hi := fun w => hix y w hy2
 have hl : Lib.len8 (y : Int) = ((Lib.bitLen y : Nat) : Int) := Lib.len8_eq ⟨y, hy2⟩
 have h8 : Lib.bitLen y ≤ 8 := Lib.bitLen_le8 ⟨y, hy2⟩
 have hz : Lib.bitLen x = 0 + Lib.bitLen y := by
  rw [hy]
  omega
 have HZ : Hid _ := hz
 rw [hl] at hi
 have f1 : decide ((4294967296 : Int) ≤ (x : Int)) = false := by simp; omega
 have f2 : decide ((65536 : Int) ≤ (x : Int)) = false := by simp; omega
 have f3 : decide ((256 : Int) ≤ (x : Int)) = false := by simp; omega
 clear hix hl hz hx
 subst hy
 clear he
 go_enter Tryz.func318, Tryz.ntmps318
 rw [fold51, ht]
 clear ht
 go_wp2
 go_ret
 rw [HZ.out]
 exact ⟨by simp, rfl⟩
set_option maxHeartbeats 2000000 in
theorem len64_1 (x : Nat) (w : World) (hx : 256 ≤ x ∧ x < 65536) :
  Calls Tryz.prog 318 #[.int .u64 x] w fun e w' => e = .returned (.int .i64 (Lib.bitLen x)) ∧ w' = w := by
 obtain ⟨y, hy⟩ : ∃ y : Nat, y = (x / 256) := ⟨_, rfl⟩
 have hy2 : y < 256 := by omega
 have he : (x : Int) / 256 = (y : Int) := by omega
 obtain ⟨t, ht, hix⟩ := tabb
 have hi := fun w => hix y w hy2
 have hl : Lib.len8 (y : Int) = ((Lib.bitLen y : Nat) : Int) := Lib.len8_eq ⟨y, hy2⟩
 have h8 : Lib.bitLen y ≤ 8 := Lib.bitLen_le8 ⟨y, hy2⟩
 have hz : Lib.bitLen x = 8 + Lib.bitLen y := by
  rw [hy]
  exact Lib.bitLen_shift8 x (by omega) (by omega)
 have HZ : Hid _ := hz
 rw [hl] at hi
 have f1 : decide ((4294967296 : Int) ≤ (x : Int)) = false := by simp; omega
 have f2 : decide ((65536 : Int) ≤ (x : Int)) = false := by simp; omega
 have f3 : decide ((256 : Int) ≤ (x : Int)) = true := by simp; omega
 clear hix hl hz hx hy
 go_enter Tryz.func318, Tryz.ntmps318
 rw [fold51, ht]
 clear ht
 go_wp2
 go_ret
 rw [HZ.out]
 exact ⟨by simp, rfl⟩
set_option maxHeartbeats 2000000 in
theorem len64_2 (x : Nat) (w : World) (hx : 65536 ≤ x ∧ x < 16777216) :
  Calls Tryz.prog 318 #[.int .u64 x] w fun e w' => e = .returned (.int .i64 (Lib.bitLen x)) ∧ w' = w := by
 obtain ⟨y, hy⟩ : ∃ y : Nat, y = (x / 65536) := ⟨_, rfl⟩
 have hy2 : y < 256 := by omega
 have he : (x : Int) / 65536 = (y : Int) := by omega
 obtain ⟨t, ht, hix⟩ := tabb
 have hi := fun w => hix y w hy2
 have hl : Lib.len8 (y : Int) = ((Lib.bitLen y : Nat) : Int) := Lib.len8_eq ⟨y, hy2⟩
 have h8 : Lib.bitLen y ≤ 8 := Lib.bitLen_le8 ⟨y, hy2⟩
 have hz : Lib.bitLen x = 16 + Lib.bitLen y := by
  rw [hy]
  exact Lib.bitLen_shift16 x (by omega) (by omega)
 have HZ : Hid _ := hz
 rw [hl] at hi
 have f1 : decide ((4294967296 : Int) ≤ (x : Int)) = false := by simp; omega
 have f2 : decide ((65536 : Int) ≤ (x : Int)) = true := by simp; omega
 have f3 : decide ((256 : Int) ≤ (x : Int) / 65536) = false := by simp; omega
 clear hix hl hz hx hy
 go_enter Tryz.func318, Tryz.ntmps318
 rw [fold51, ht]
 clear ht
 go_wp2
 go_ret
 rw [HZ.out]
 exact ⟨by simp, rfl⟩
set_option maxHeartbeats 2000000 in
theorem len64_3 (x : Nat) (w : World) (hx : 16777216 ≤ x ∧ x < 4294967296) :
  Calls Tryz.prog 318 #[.int .u64 x] w fun e w' => e = .returned (.int .i64 (Lib.bitLen x)) ∧ w' = w := by
 obtain ⟨y, hy⟩ : ∃ y : Nat, y = ((x / 65536) / 256) := ⟨_, rfl⟩
 have hy2 : y < 256 := by omega
 have he : (x : Int) / 65536 / 256 = (y : Int) := by omega
 obtain ⟨t, ht, hix⟩ := tabb
 have hi := fun w => hix y w hy2
 have hl : Lib.len8 (y : Int) = ((Lib.bitLen y : Nat) : Int) := Lib.len8_eq ⟨y, hy2⟩
 have h8 : Lib.bitLen y ≤ 8 := Lib.bitLen_le8 ⟨y, hy2⟩
 have hz : Lib.bitLen x = 24 + Lib.bitLen y := by
  rw [hy]
  rw [Lib.bitLen_shift16 x (by omega) (by omega), Lib.bitLen_shift8 _ (by omega) (by omega)]; omega
 have HZ : Hid _ := hz
 rw [hl] at hi
 have f1 : decide ((4294967296 : Int) ≤ (x : Int)) = false := by simp; omega
 have f2 : decide ((65536 : Int) ≤ (x : Int)) = true := by simp; omega
 have f3 : decide ((256 : Int) ≤ (x : Int) / 65536) = true := by simp; omega
 clear hix hl hz hx hy
 go_enter Tryz.func318, Tryz.ntmps318
 rw [fold51, ht]
 clear ht
 go_wp2
 go_ret
 rw [HZ.out]
 exact ⟨by simp, rfl⟩
set_option maxHeartbeats 2000000 in
theorem len64_4 (x : Nat) (w : World) (hx : 4294967296 ≤ x ∧ x < 1099511627776) :
  Calls Tryz.prog 318 #[.int .u64 x] w fun e w' => e = .returned (.int .i64 (Lib.bitLen x)) ∧ w' = w := by
 obtain ⟨y, hy⟩ : ∃ y : Nat, y = (x / 4294967296) := ⟨_, rfl⟩
 have hy2 : y < 256 := by omega
 have he : (x : Int) / 4294967296 = (y : Int) := by omega
 obtain ⟨t, ht, hix⟩ := tabb
 have hi := fun w => hix y w hy2
 have hl : Lib.len8 (y : Int) = ((Lib.bitLen y : Nat) : Int) := Lib.len8_eq ⟨y, hy2⟩
 have h8 : Lib.bitLen y ≤ 8 := Lib.bitLen_le8 ⟨y, hy2⟩
 have hz : Lib.bitLen x = 32 + Lib.bitLen y := by
  rw [hy]
  exact Lib.bitLen_shift32 x (by omega) (by omega)
 have HZ : Hid _ := hz
 rw [hl] at hi
 have f1 : decide ((4294967296 : Int) ≤ (x : Int)) = true := by simp; omega
 have f2 : decide ((65536 : Int) ≤ (x : Int) / 4294967296) = false := by simp; omega
 have f3 : decide ((256 : Int) ≤ (x : Int) / 4294967296) = false := by simp; omega
 rw [he] at f2 f3
 clear hix hl hz hx hy
 go_enter Tryz.func318, Tryz.ntmps318
 rw [fold51, ht]
 clear ht
 go_wp2
 go_ret
 rw [HZ.out]
 exact ⟨by simp, rfl⟩
set_option maxHeartbeats 2000000 in
theorem len64_5 (x : Nat) (w : World) (hx : 1099511627776 ≤ x ∧ x < 281474976710656) :
  Calls Tryz.prog 318 #[.int .u64 x] w fun e w' => e = .returned (.int .i64 (Lib.bitLen x)) ∧ w' = w := by
 obtain ⟨y, hy⟩ : ∃ y : Nat, y = ((x / 4294967296) / 256) := ⟨_, rfl⟩
 have hy2 : y < 256 := by omega
 have he : (x : Int) / 4294967296 / 256 = (y : Int) := by omega
 obtain ⟨t, ht, hix⟩ := tabb
 have hi := fun w => hix y w hy2
 have hl : Lib.len8 (y : Int) = ((Lib.bitLen y : Nat) : Int) := Lib.len8_eq ⟨y, hy2⟩
 have h8 : Lib.bitLen y ≤ 8 := Lib.bitLen_le8 ⟨y, hy2⟩
 have hz : Lib.bitLen x = 40 + Lib.bitLen y := by
  rw [hy]
  rw [Lib.bitLen_shift32 x (by omega) (by omega), Lib.bitLen_shift8 _ (by omega) (by omega)]; omega
 have HZ : Hid _ := hz
 rw [hl] at hi
 have f1 : decide ((4294967296 : Int) ≤ (x : Int)) = true := by simp; omega
 have f2 : decide ((65536 : Int) ≤ (x : Int) / 4294967296) = false := by simp; omega
 have f3 : decide ((256 : Int) ≤ (x : Int) / 4294967296) = true := by simp; omega
 clear hix hl hz hx hy
 go_enter Tryz.func318, Tryz.ntmps318
 rw [fold51, ht]
 clear ht
 go_wp2
 go_ret
 rw [HZ.out]
 exact ⟨by simp, rfl⟩
set_option maxHeartbeats 2000000 in
theorem len64_6 (x : Nat) (w : World) (hx : 281474976710656 ≤ x ∧ x < 72057594037927936) :
  Calls Tryz.prog 318 #[.int .u64 x] w fun e w' => e = .returned (.int .i64 (Lib.bitLen x)) ∧ w' = w := by
 obtain ⟨y, hy⟩ : ∃ y : Nat, y = ((x / 4294967296) / 65536) := ⟨_, rfl⟩
 have hy2 : y < 256 := by omega
 have he : (x : Int) / 4294967296 / 65536 = (y : Int) := by omega
 obtain ⟨t, ht, hix⟩ := tabb
 have hi := fun w => hix y w hy2
 have hl : Lib.len8 (y : Int) = ((Lib.bitLen y : Nat) : Int) := Lib.len8_eq ⟨y, hy2⟩
 have h8 : Lib.bitLen y ≤ 8 := Lib.bitLen_le8 ⟨y, hy2⟩
 have hz : Lib.bitLen x = 48 + Lib.bitLen y := by
  rw [hy]
  rw [Lib.bitLen_shift32 x (by omega) (by omega), Lib.bitLen_shift16 _ (by omega) (by omega)]; omega
 have HZ : Hid _ := hz
 rw [hl] at hi
 have f1 : decide ((4294967296 : Int) ≤ (x : Int)) = true := by simp; omega
 have f2 : decide ((65536 : Int) ≤ (x : Int) / 4294967296) = true := by simp; omega
 have f3 : decide ((256 : Int) ≤ (x : Int) / 4294967296 / 65536) = false := by simp; omega
 clear hix hl hz hx hy
 go_enter Tryz.func318, Tryz.ntmps318
 rw [fold51, ht]
 clear ht
 go_wp2
 go_ret
 rw [HZ.out]
 exact ⟨by simp, rfl⟩
set_option maxHeartbeats 2000000 in
theorem len64_7 (x : Nat) (w : World) (hx : 72057594037927936 ≤ x ∧ x < 18446744073709551616) :
  Calls Tryz.prog 318 #[.int .u64 x] w fun e w' => e = .returned (.int .i64 (Lib.bitLen x)) ∧ w' = w := by
 obtain ⟨y, hy⟩ : ∃ y : Nat, y = (((x / 4294967296) / 65536) / 256) := ⟨_, rfl⟩
 have hy2 : y < 256 := by omega
 have he : (x : Int) / 4294967296 / 65536 / 256 = (y : Int) := by omega
 obtain ⟨t, ht, hix⟩ := tabb
 have hi := fun w => hix y w hy2
 have hl : Lib.len8 (y : Int) = ((Lib.bitLen y : Nat) : Int) := Lib.len8_eq ⟨y, hy2⟩
 have h8 : Lib.bitLen y ≤ 8 := Lib.bitLen_le8 ⟨y, hy2⟩
 have hz : Lib.bitLen x = 56 + Lib.bitLen y := by
  rw [hy]
  rw [Lib.bitLen_shift32 x (by omega) (by omega), Lib.bitLen_shift16 _ (by omega) (by omega), Lib.bitLen_shift8 _ (by omega) (by omega)]; omega
 have HZ : Hid _ := hz
 rw [hl] at hi
 have f1 : decide ((4294967296 : Int) ≤ (x : Int)) = true := by simp; omega
 have f2 : decide ((65536 : Int) ≤ (x : Int) / 4294967296) = true := by simp; omega
 have f3 : decide ((256 : Int) ≤ (x : Int) / 4294967296 / 65536) = true := by simp; omega
 clear hix hl hz hx hy
 go_enter Tryz.func318, Tryz.ntmps318
 rw [fold51, ht]
 clear ht
 go_wp2
 go_ret
 rw [HZ.out]
 exact ⟨by simp, rfl⟩
theorem len64_any (x : Nat) (w : World) (h : x < 18446744073709551616) :
  Calls Tryz.prog 318 #[.int .u64 x] w fun e w' => e = .returned (.int .i64 (Lib.bitLen x)) ∧ w' = w := by
 by_cases h0 : x < 256
 ·exact len64_0 x w h0
 by_cases h1 : x < 65536
 ·exact len64_1 x w ⟨by omega, h1⟩
 by_cases h2 : x < 16777216
 ·exact len64_2 x w ⟨by omega, h2⟩
 by_cases h3 : x < 4294967296
 ·exact len64_3 x w ⟨by omega, h3⟩
 by_cases h4 : x < 1099511627776
 ·exact len64_4 x w ⟨by omega, h4⟩
 by_cases h5 : x < 281474976710656
 ·exact len64_5 x w ⟨by omega, h5⟩
 by_cases h6 : x < 72057594037927936
 ·exact len64_6 x w ⟨by omega, h6⟩
 exact len64_7 x w ⟨by omega, h⟩
theorem bitLen_log (x : Nat) (h : x < 2 ^ 64) (h0 : x ≠ 0) : Lib.bitLen x = Nat.log2 x + 1 := by
 induction x using Nat.strongRecOn with
 | ind x ih =>
  rw [Lib.bitLen_half x h0 h, Nat.log2_def]
  by_cases h2 : x < 2
  ·obtain rfl : x = 1 := by omega
   rfl
  ·rw [if_pos (by omega), ih (x / 2) (by omega) (by omega) (by omega)]
   omega
set_option maxHeartbeats 400000 in
theorem len_any (x : Nat) (w : World) (h : x < 9223372036854775808) :
  Calls Tryz.prog 281 #[.int .u64 x] w fun e w' => e = .returned (.int .i64 (Lib.bitLen x)) ∧ w' = w := by
 have H : Hid _ := fun W => len64_any x W (by omega)
 go_enter Tryz.func281, Tryz.ntmps281
 go_wp2_with fail
 refine (H.out _).mono ?_
 rintro e w' ⟨rfl, rfl⟩
 go_wp2
 go_ret
 exact ⟨rfl, rfl⟩
set_option maxHeartbeats 400000 in
theorem leftSize_any (n : Nat) (w : World) (h2 : 2 ≤ n) (h : n < 9223372036854775808) :
  Calls Tryz.prog 325 #[.int .i64 n] w fun e w' => e = .returned (.int .i64 (hf n : Nat)) ∧ w' = w := by
 obtain ⟨m, hm⟩ : ∃ m, n = m + 1 := ⟨n - 1, by omega⟩
 subst hm
 have H : Hid _ := fun W => len_any m W (by omega)
 obtain ⟨k, hk⟩ : ∃ k, k = Nat.log2 m := ⟨_, rfl⟩
 have hl := bitLen_log m (by omega) (by omega)
 have hk2 : k < 63 := by rw [hk]; exact (Nat.log2_lt (by omega)).2 (by omega)
 rw [← hk] at hl
 rw [hl] at H
 have HF : Hid (hf (m + 1) = 2 ^ k) := by show hf (m + 1) = 2 ^ k; unfold hf; rw [hk]; rfl
 clear hk hl
 go_enter Tryz.func325, Tryz.ntmps325
 go_wp2_with fail
 refine (H.out _).mono ?_
 rintro e w' ⟨rfl, rfl⟩
 have hp : (2 : Int) ^ k ≤ 2 ^ 62 := by exact_mod_cast Nat.pow_le_pow_right (n := 2) (by omega) (show k ≤ 62 by omega)
 have hp0 : (0 : Int) < 2 ^ k := by exact_mod_cast Nat.two_pow_pos k
 have HP : Hid (wrap64 (2 ^ k) = (2 : Int) ^ k) := by show wrap64 (2 ^ k) = (2 : Int) ^ k; unfold wrap64; omega
 clear hp hp0
 go_wp2
 go_ret
 rw [HF.out, HP.out]
 exact ⟨by simp, rfl⟩
theorem ofT_size (kt : Nat → Int) (s : ByteArray) : (ofT kt s).size = 32 := by
 unfold ofT
 rw [strOfNums_size, tl_len]
theorem m_join (v : Value) (w : World) : (method 587 367 v "Join").run Tryz.prog w = .ok (369, v) w := by kernel_rfl
theorem m_empty (v : Value) (w : World) : (method 587 367 v "Empty").run Tryz.prog w = .ok (368, v) w := by kernel_rfl
set_option maxHeartbeats 400000 in
theorem join_any (kt : Nat → Int) (a b : ByteArray) (w : World) (ha : a.size ≤ 35184372088832) (hb : b.size ≤ 35184372088832) (hG : Gd kt w) :
  Calls Tryz.prog 369 #[.string a, .string b] w fun e w' => e = .returned (.string (jn (ofT kt) a b)) ∧ Below w.heap.size w w' := by
 have hs : ((⟨#[1]⟩ : ByteArray) ++ a ++ b).size ≤ 140737488351232 := by
  simp only [ByteArray.size_append]
  have : (⟨#[1]⟩ : ByteArray).size = 1 := rfl
  omega
 have H : Hid _ := of_any kt _ w hs hG.tab hG.one
 clear hG hs
 go_enter Tryz.func369, Tryz.ntmps369
 go_wp2_with fail
 refine Calls.mono H.out ?_
 rintro e w1 ⟨rfl, hB⟩
 go_wp2
 go_ret
 exact ⟨rfl, hB⟩
set_option maxHeartbeats 400000 in
theorem empty_any (kt : Nat → Int) (a : ByteArray) (w : World) (hG : Gd kt w) :
  Calls Tryz.prog 368 #[.string a] w fun e w' => e = .returned (.string (ofT kt ⟨#[]⟩)) ∧ Below w.heap.size w w' := by
 have H : Hid _ := of_any kt ⟨#[]⟩ w (by decide) hG.tab hG.one
 clear hG
 go_enter Tryz.func368, Tryz.ntmps368
 go_wp2_with fail
 refine Calls.mono H.out ?_
 rintro e w1 ⟨rfl, hB⟩
 go_wp2
 go_ret
 exact ⟨rfl, hB⟩
set_option maxHeartbeats 400000 in
theorem halves_any (b o n cap : Nat) (w : World) (h2 : 2 ≤ n) (hn : n ≤ cap) (hc : cap < 9223372036854775808) :
  Calls Tryz.prog 301 #[.slice (some ⟨b, o, none⟩) n cap] w fun e w' => e = .returned (.tuple #[.slice (some ⟨b, o, none⟩) (hf n) cap, .slice (some ⟨b, o + hf n, none⟩) (n - hf n) (cap - hf n)]) ∧ ∃ q, w' = w.drewN q := by
 have H : Hid _ := fun W => leftSize_any n W h2 (by omega)
 have h1 := hf_lt n h2
 obtain ⟨m, hm⟩ : ∃ m, hf n = m := ⟨_, rfl⟩
 rw [hm] at h1 H ⊢
 clear hm
 go_enter Tryz.func301, Tryz.ntmps301
 go_wp2_with fail
 refine (H.out _).mono ?_
 rintro e w' ⟨rfl, rfl⟩
 go_wp2
 go_quiet (fail)
 go_wp2
 go_ret2
 exact ⟨rfl, _, rfl⟩
def Co (w : World) (b o n : Nat) (v : Nat → Value) : Prop := ∀ i, i < n → w.cell? ⟨b, o + i, none⟩ = some (v i)
theorem Co.below {w w' : World} {b o n : Nat} {v : Nat → Value} (h : Co w b o n v) {B : Nat} (hb : Below B w w') (hB : b < B) : Co w' b o n v := fun i hi => (hb.cell (p := ⟨b, o + i, none⟩) hB).trans (h i hi)
theorem Co.lo {w : World} {b o n m : Nat} {v : Nat → Value} (h : Co w b o n v) (hm : m ≤ n) : Co w b o m v := fun i hi => h i (by omega)
theorem Co.hi {w : World} {b o n m : Nat} {L : Nat → ByteArray} (h : Co w b o n (tI L)) (hm : m ≤ n) : Co w b (o + m) (n - m) (tI fun j => L (m + j)) := fun i hi => by
 have := h (m + i) (by omega)
 rw [← Nat.add_assoc] at this
 exact this
theorem Cl.co {w : World} {b n : Nat} {v : Nat → Value} (h : Cl w b n v) : Co w b 0 n v := fun i hi => by rw [Nat.zero_add]; exact h i hi
theorem ofT_le (kt : Nat → Int) (s : ByteArray) : (ofT kt s).size ≤ 35184372088832 := by rw [ofT_size]; omega
set_option maxHeartbeats 1000000 in
theorem ttop_any (kt : Nat → Int) : ∀ (n : Nat) (L : Nat → ByteArray) (b o cap : Nat) (w : World), n ≤ cap → cap < 9223372036854775808 → Gd kt w → b < w.heap.size → (∀ i, i < n → (L i).size ≤ 35184372088832) → Co w b o n (tI L) →
  Calls Tryz.prog 263 #[.slice (some ⟨b, o, none⟩) n cap] w fun e w' => e = .returned (.string (topT (ofT kt) n L)) ∧ Below w.heap.size w w' := by
 intro n
 induction n using Nat.strongRecOn with
 | ind n ih =>
 intro L b o cap w hn hc hG hb hL hC
 by_cases h0 : n = 0
 ·subst h0
  have H : Hid _ := fun a => empty_any kt a w hG
  have hm := m_empty
  rw [topT_0]
  clear ih hC hL hG
  go_enter Tryz.func263, Tryz.ntmps263
  go_wp2_with fail
  refine Calls.mono (H.out _) ?_
  rintro e w1 ⟨rfl, hB⟩
  go_wp2
  go_ret
  exact ⟨rfl, hB⟩
 ·by_cases h1 : n = 1
  ·subst h1
   rw [topT_1]
   have c0 : w.cell? ⟨b, o, none⟩ = some (.string (L 0)) := hC 0 (by omega)
   clear ih hC hL hG
   go_enter Tryz.func263, Tryz.ntmps263
   go_wp2
   go_ret
   exact ⟨rfl, Below.refl _ _⟩
  ·have h2 : 2 ≤ n := by omega
   rw [topT_n _ n L h2]
   have e1 := hf_lt n h2
   have e2 := hf_pos n
   have HH : Hid _ := halves_any b o n cap w h2 hn hc
   have H1 : Hid _ := fun W => ih (hf n) e1 L b o cap W (by omega) hc
   have H2 : Hid _ := fun W => ih (n - hf n) (by omega) (fun j => L (hf n + j)) b (o + hf n) (cap - hf n) W (by omega) (by omega)
   have hT1 := topT_le (ofT kt) 35184372088832 (ofT_le kt) (hf n) L (fun i hi => hL i (by omega))
   have hT2 := topT_le (ofT kt) 35184372088832 (ofT_le kt) (n - hf n) (fun j => L (hf n + j)) (fun i hi => hL _ (by omega))
   have HL : Hid _ := hL
   have HC : Hid (Co w b o n (tI L)) := hC
   have HG : Hid _ := hG
   have hm := m_join
   obtain ⟨A, hA⟩ : ∃ A, topT (ofT kt) (hf n) L = A := ⟨_, rfl⟩
   obtain ⟨B, hBB⟩ : ∃ B, topT (ofT kt) (n - hf n) (fun j => L (hf n + j)) = B := ⟨_, rfl⟩
   rw [hA] at hT1 H1 ⊢
   rw [hBB] at hT2 H2 ⊢
   obtain ⟨m, hm2⟩ : ∃ m, hf n = m := ⟨_, rfl⟩
   rw [hm2] at e1 e2 HH H1 H2
   clear ih hC hL hG hA hBB hm2
   go_enter Tryz.func263, Tryz.ntmps263
   go_wp2_with fail
   refine Calls.mono HH.out ?_
   rintro e w1 ⟨rfl, q, hq⟩
   have hz1 : w1.heap.size = w.heap.size := by rw [hq]; rfl
   have hB1 : Below w.heap.size w w1 := by rw [hq]; exact below_drewN (Below.refl _ _) q
   clear hq
   have HB1 : Hid _ := hB1
   have HZ1 : Hid _ := hz1
   clear hB1 hz1
   go_wp2_with fail
   refine Calls.mono (H1.out _ (HG.out.below HB1.out) (by rw [HZ1.out]; exact hb) (fun i hi => HL.out i (by omega)) ((Co.lo HC.out (by omega)).below HB1.out hb)) ?_
   rintro e w2 ⟨rfl, hB2⟩
   have hz2 : w1.heap.size ≤ w2.heap.size := hB2.size
   have hB12 : Below w.heap.size w w2 := HB1.out.trans (by rw [← HZ1.out]; exact hB2)
   have HB2 : Hid _ := hB12
   have hb2 : b < w2.heap.size := by have := HZ1.out; omega
   clear hB2 hz2 hB12
   go_wp2_with fail
   refine Calls.mono (H2.out _ (HG.out.below HB2.out) hb2 (fun i hi => HL.out _ (by omega)) ((Co.hi HC.out (by omega)).below HB2.out hb)) ?_
   rintro e w3 ⟨rfl, hB3⟩
   have hB13 : Below w.heap.size w w3 := HB2.out.trans (hB3.mono HB2.out.size)
   have HB3 : Hid _ := hB13
   clear hB3 hB13
   go_wp2_with fail
   refine (join_any kt A B _ hT1 hT2 (HG.out.below HB3.out)).mono ?_
   rintro e w4 ⟨rfl, hB4⟩
   have hB14 : Below w.heap.size w w4 := HB3.out.trans (hB4.mono HB3.out.size)
   clear hB4
   go_wp2
   go_ret
   exact ⟨rfl, hB14⟩
theorem info42 : (Tryz.prog.info? 367).map (fun i => (i.zero, i.size, i.bytes)) = some (some (.string ⟨#[]⟩), 1, 16) := by kernel_rfl
def Ls (w : World) (v : Value) (n : Nat) (L : Nat → ByteArray) : Prop := (v = .slice none 0 0 ∧ n = 0) ∨ ∃ b cap, v = .slice (some ⟨b, 0, none⟩) n cap ∧ b < w.heap.size ∧ Cl w b n (tI L)
set_option maxHeartbeats 400000 in
theorem labels_some (L : Nat → ByteArray) (b n cap : Nat) (w : World) (hn : n ≤ 4398046511104) (hb0 : b < w.heap.size) (hc : Cl w b n (tI L)) :
  Calls Tryz.prog 262 #[.slice (some ⟨b, 0, none⟩) n cap] w fun e w' => e = .returned (.slice (some ⟨w.heap.size, 0, none⟩) n n) ∧ Rw w' w.heap.size n 367 (tI L) ∧ Below w.heap.size w w' := by
 have HC : Hid _ := hc
 clear hc
 have hmk := run_make_row' (P := Tryz.prog) 368 367 (.string ⟨#[]⟩) 16 Tryz.underlying368 info42 rfl .i64 .i64 n (by omega) (by omega)
 go_enter Tryz.func262, Tryz.ntmps262
 go_wp2
 go_loopw [11] (fun i wr => ∃ k : Nat, k ≤ n ∧ i = .int .i64 k ∧ Below w.heap.size w wr ∧ Rw wr w.heap.size n 367 (part' k (tI L) (.string ⟨#[]⟩))) (fun i _ => n - (intOf i).toNat)
 case atStart => exact ⟨0, by omega, rfl, (Below.refl _ _).alloc (Nat.le_refl _) _, (Rw.made w n 367 (.string ⟨#[]⟩)).to (fun j _ => (part_0 _ _ j).symm)⟩
 case round =>
  obtain ⟨k, hk, rfl, hb, hR⟩ := hrel
  by_cases hlt : k < n
  ·have c1 := hR.cell k hlt
   have c2 := hR.free k
   have c3 : wr.cell? ⟨b, k, none⟩ = some (.string (L k)) := Cl.below HC.out hb hb0 k hlt
   go_wp2
   go_roundw
   case rel => exact ⟨k + 1, by omega, by go_num, hb.setCell (Nat.le_refl _) _, (hR.put k _).to (fun j _ => by rw [← part_step]; rfl)⟩
   case measure => simp [intOf]; omega
  ·have e : k = n := by omega
   subst e
   go_wp2
   go_ret
   exact ⟨rfl, hR.to (fun j hj => by simp [part', hj]), hb⟩
set_option maxHeartbeats 400000 in
theorem labels_nil (w : World) :
  Calls Tryz.prog 262 #[.slice none 0 0] w fun e w' => e = .returned (.slice (some ⟨w.heap.size, 0, none⟩) 0 0) ∧ Rw w' w.heap.size 0 367 (tI fun _ => ⟨#[]⟩) ∧ Below w.heap.size w w' := by
 have hmk : ∀ w : World, (Instr.makeSlice 368 (.int .i64 0) (.int .i64 0)).run Tryz.prog w = .ok (.slice (some ⟨w.heap.size, 0, none⟩) 0 0) (w.alloc (.cells (madeCells #[.string ⟨#[]⟩] 0) 367)) := run_make_row' (P := Tryz.prog) 368 367 (.string ⟨#[]⟩) 16 Tryz.underlying368 info42 rfl .i64 .i64 0 (by omega) (by omega)
 go_enter Tryz.func262, Tryz.ntmps262
 go_wp2
 refine wp_loop_rounds 1 ?_
 rw [rounds_succ]
 go_wp2
 go_ret
 exact ⟨rfl, Rw.made w 0 367 (.string ⟨#[]⟩), (Below.refl _ _).alloc (Nat.le_refl _) _⟩
theorem labels_any (L : Nat → ByteArray) (n : Nat) (v : Value) (w : World) (hn : n ≤ 4398046511104) (h : Ls w v n L) :
  Calls Tryz.prog 262 #[v] w fun e w' => e = .returned (.slice (some ⟨w.heap.size, 0, none⟩) n n) ∧ Rw w' w.heap.size n 367 (tI L) ∧ Below w.heap.size w w' := by
 rcases h with ⟨rfl, rfl⟩ | ⟨b, cap, rfl, hb, hc⟩
 ·exact (labels_nil w).mono fun e w' h => ⟨h.1, h.2.1.to (fun j hj => by omega), h.2.2⟩
 ·exact labels_some L b n cap w hn hb hc
set_option maxHeartbeats 400000 in
theorem ptop_any (kt : Nat → Int) (L : Nat → ByteArray) (n : Nat) (v : Value) (w : World) (hn : n ≤ 4398046511104) (hG : Gd kt w) (hL : ∀ i, i < n → (L i).size ≤ 35184372088832) (h : Ls w v n L) :
  Calls Tryz.prog 224 #[v] w fun e w' => e = .returned (.string (topT (ofT kt) n L)) ∧ Below w.heap.size w w' := by
 have H : Hid _ := labels_any L n v w hn h
 have HL : Hid _ := hL
 have HG : Hid _ := hG
 have hT := topT_le (ofT kt) 35184372088832 (ofT_le kt) n L hL
 clear h hL hG
 go_enter Tryz.func224, Tryz.ntmps224
 go_wp2_with fail
 refine Calls.mono H.out ?_
 rintro e w1 ⟨rfl, hR1, hB1⟩
 have HR : Hid (Rw w1 w.heap.size n 367 (tI L)) := hR1
 have HB1 : Hid _ := hB1
 clear hR1 hB1
 go_wp2_with fail
 refine (ttop_any kt n L w.heap.size 0 n w1 (Nat.le_refl _) (by omega) (HG.out.below HB1.out) HR.out.lt HL.out (Rw.cl HR.out).co).mono ?_
 rintro e w2 ⟨rfl, hB2⟩
 have HB2 : Hid (Below w.heap.size w w2) := HB1.out.trans (hB2.mono HB1.out.size)
 clear hB2
 go_wp2_with fail
 refine (sclone_any _ _ (by omega)).mono ?_
 rintro e w3 ⟨rfl, hB3⟩
 have hB : Below w.heap.size w w3 := HB2.out.trans (hB3.mono HB2.out.size)
 clear hB3
 go_wp2
 go_ret
 exact ⟨rfl, hB⟩
set_option maxHeartbeats 2000000
def leafT (D : ByteArray → ByteArray) (s : ByteArray) : ByteArray := D (⟨#[0]⟩ ++ s)
theorem leaf_any (kt : Nat → Int) (s : ByteArray) (w : World) (hs : s.size ≤ 1000000) (hG : Gd kt w) :
  Calls Tryz.prog 223 #[.string s] w fun e w' => e = .returned (.string (leafT (ofT kt) s)) ∧ Below w.heap.size w w' := by
 have hsz : ((⟨#[0]⟩ : ByteArray) ++ s).size ≤ 140737488351232 := by
  rw [ByteArray.size_append]
  have : (⟨#[0]⟩ : ByteArray).size = 1 := rfl
  omega
 have H : Hid _ := of_any kt _ w hsz hG.tab hG.one
 clear hG hsz
 go_enter Tryz.func223, Tryz.ntmps223
 go_wp2_with fail
 refine Calls.mono H.out ?_
 rintro e w1 ⟨rfl, hb1⟩
 go_wp2
 go_ret
 exact ⟨rfl, hb1⟩
def rootT (D : ByteArray → ByteArray) (l : ByteArray) (n : Nat) (L : Nat → ByteArray) : ByteArray := D (⟨#[2]⟩ ++ l ++ topT D n L)
theorem rootOf_any (kt : Nat → Int) (l : ByteArray) (L : Nat → ByteArray) (b n cap : Nat) (w : World) (hl : l.size ≤ 1000000000) (hn : n ≤ 1000000) (hL : ∀ i, i < n → (L i).size ≤ 32) (hG : Gd kt w) (hb : b < w.heap.size) (hC : Cl w b n (tI L)) :
  Calls Tryz.prog 182 #[.string l, .slice (some ⟨b, 0, none⟩) n cap] w fun e w' => e = .returned (.string (rootT (ofT kt) l n L)) ∧ Below w.heap.size w w' := by
 have H : Hid _ := ptop_any kt L n (.slice (some ⟨b, 0, none⟩) n cap) w (by omega) hG (fun i hi => Nat.le_trans (hL i hi) (by omega)) (.inr ⟨b, cap, rfl, hb, hC⟩)
 have HG : Hid _ := hG
 have HT : Hid ((topT (ofT kt) n L).size ≤ 35184372088832) := topT_le (ofT kt) 35184372088832 (ofT_le kt) n L (fun i hi => Nat.le_trans (hL i hi) (by omega))
 clear hC hG hL
 go_enter Tryz.func182, Tryz.ntmps182
 go_wp2_with fail
 refine Calls.mono H.out ?_
 rintro e w1 ⟨rfl, hb1⟩
 have hG1 := HG.out.below hb1
 have HO : Hid _ := of_any kt (⟨#[2]⟩ ++ l ++ topT (ofT kt) n L) w1 (by
  have := HT.out
  rw [ByteArray.size_append, ByteArray.size_append]
  have : (⟨#[2]⟩ : ByteArray).size = 1 := rfl
  omega) hG1.tab hG1.one
 have HB1 : Hid (Below w.heap.size w w1) := hb1
 have q1 : ((⟨#[2]⟩ : ByteArray) ++ l).size ≤ 1000000001 := by
  rw [ByteArray.size_append]
  have : (⟨#[2]⟩ : ByteArray).size = 1 := rfl
  omega
 have q2 := HT.out
 clear hG1 hb1 H
 go_wp2_with fail
 refine Calls.mono HO.out ?_
 rintro e w2 ⟨rfl, hb2⟩
 have HB2 : Hid (Below w.heap.size w w2) := HB1.out.trans (hb2.mono HB1.out.size)
 clear hb2 HO
 go_wp2
 go_ret
 exact ⟨rfl, HB2.out⟩
def whl (S : Nat → ByteArray) (k m c : Nat) : List Value := tV S k ++ tV (vl (fun i => i) (fun i => k + i) k c S) m
theorem nst_len (z len : Nat) (hz : 0 < z) : nst z len ≤ len := by
 unfold nst
 rcases Nat.eq_zero_or_pos len with h | h
 ·subst h; rw [Nat.div_eq_of_lt (by omega)]; omega
 ·apply Nat.div_le_of_le_mul
  obtain ⟨z', rfl⟩ : ∃ z', z = z' + 1 := ⟨z - 1, by omega⟩
  obtain ⟨l', rfl⟩ : ∃ l', len = l' + 1 := ⟨len - 1, by omega⟩
  rw [Nat.succ_mul, Nat.mul_succ]
  omega
def dat (t : ByteArray) (z C i : Nat) : Nat → ByteArray := fun j => pc (pc t z i) C j
def blkV (t : ByteArray) (z K M C : Nat) : Nat → List Value
 | 0 => []
 | i + 1 => blkV t z K M C i ++ whl (dat t z C i) K M C
theorem whl_len (S : Nat → ByteArray) (k m c : Nat) : (whl S k m c).length = k + m := by simp [whl, tV]
def jL (F : Nat → ByteArray) (n : Nat) : List UInt8 := ((List.range n).map fun i => (F i).data.toList).flatten
def jT (F : Nat → ByteArray) (n : Nat) : ByteArray := ⟨(jL F n).toArray⟩
theorem jL_len (F : Nat → ByteArray) (c : Nat) : ∀ n, (∀ i, i < n → (F i).size ≤ c) → (jL F n).length ≤ n * c
 | 0, _ => by simp [jL]
 | n + 1, h => by
  have ih := jL_len F c n (fun i hi => h i (by omega))
  have h1 := h n (by omega)
  have e : jL F (n + 1) = jL F n ++ (F n).data.toList := by simp [jL, List.range_succ]
  rw [e, List.length_append, dl, Nat.succ_mul]
  omega
theorem join_flat : ∀ xs : List (List UInt8), Lib.join xs [] = xs.flatten
 | [] => rfl
 | x :: r => by rw [Lib.join_cons]; simp [Lib.joinTail]
theorem sjoin_any (F : Nat → ByteArray) (b o n cap c : Nat) (w : World) (hb : b < w.heap.size) (hcap : n ≤ cap) (hn : n ≤ 1000000) (hc : c ≤ 1000000) (hF : ∀ i, i < n → (F i).size ≤ c) (hC : ∀ i, i < n → w.cell? ⟨b, o + i, none⟩ = some (.string (F i))) :
  Calls Tryz.prog 184 #[.slice (some ⟨b, o, none⟩) n cap, .string ⟨#[]⟩] w fun e w' => e = .returned (.string (jT F n)) ∧ Below w.heap.size w w' := by
 rcases Nat.eq_zero_or_pos n with h0 | h0
 ·subst h0
  exact (join_none _ cap ⟨#[]⟩ w).mono fun e w' ⟨h1, h2⟩ => ⟨h1, by rw [h2]; exact Below.refl _ _⟩
 ·have hl : ((List.range n).map F).length = n := by simp
  have hj : Lib.join (((List.range n).map F).map (·.data.toList)) (⟨#[]⟩ : ByteArray).data.toList = jL F n := by
   show Lib.join _ [] = _
   rw [join_flat, List.map_map]
   rfl
  have h := join_some b o cap ((List.range n).map F) ⟨#[]⟩ w (fun j x hx => by
   have hjn : j < n := by have := (List.getElem?_eq_some_iff.1 hx).1; rwa [hl] at this
   simp [hjn] at hx
   rw [← hx]; exact hC j hjn) hb (by rw [hl]; omega) (by rw [hl]; exact hcap) (by
   rw [hj]
   have h1 := jL_len F c n hF
   have h2 : n * c ≤ 1000000 * 1000000 := Nat.mul_le_mul hn hc
   omega)
  rw [hl, hj] at h
  exact h
def volM : ByteArray := ⟨#[86, 79, 76, 49]⟩
end Go.Proofs.YtadinjaocnlglaaGreatDoor
