/-
  The walks of bits.Len64, bits.Len, tree.leftSize.
-/
import Derived.Test.YtnghgdficnkbbaaDoorRows
import Derived.Test.YtnghgdficnkbbaaDoorU0
import Derived.Lib.BitFns
import Derived.WalkKit
import Derived.WalkSpells
import Derived.WalkLawsBesides
namespace Go.Proofs.YtnghgdficnkbbaaDoor
open Go.RowKit
set_option maxRecDepth 100000
theorem fold51 : (⟨(([0, 1, 2, 2, 3, 3, 3, 3, 4, 4, 4, 4, 4, 4, 4, 4, 5, 5, 5, 5, 5, 5, 5, 5, 5, 5, 5, 5, 5, 5, 5, 5, 6, 6, 6, 6, 6, 6, 6, 6, 6, 6, 6, 6, 6, 6, 6, 6, 6, 6, 6, 6, 6, 6, 6, 6, 6, 6, 6, 6, 6, 6, 6, 6].append [7, 7, 7, 7, 7, 7, 7, 7, 7, 7, 7, 7, 7, 7, 7, 7, 7, 7, 7, 7, 7, 7, 7, 7, 7, 7, 7, 7, 7, 7, 7, 7, 7, 7, 7, 7, 7, 7, 7, 7, 7, 7, 7, 7, 7, 7, 7, 7, 7, 7, 7, 7, 7, 7, 7, 7, 7, 7, 7, 7, 7, 7, 7, 7]).append ([8, 8, 8, 8, 8, 8, 8, 8, 8, 8, 8, 8, 8, 8, 8, 8, 8, 8, 8, 8, 8, 8, 8, 8, 8, 8, 8, 8, 8, 8, 8, 8, 8, 8, 8, 8, 8, 8, 8, 8, 8, 8, 8, 8, 8, 8, 8, 8, 8, 8, 8, 8, 8, 8, 8, 8, 8, 8, 8, 8, 8, 8, 8, 8].append [8, 8, 8, 8, 8, 8, 8, 8, 8, 8, 8, 8, 8, 8, 8, 8, 8, 8, 8, 8, 8, 8, 8, 8, 8, 8, 8, 8, 8, 8, 8, 8, 8, 8, 8, 8, 8, 8, 8, 8, 8, 8, 8, 8, 8, 8, 8, 8, 8, 8, 8, 8, 8, 8, 8, 8, 8, 8, 8, 8, 8, 8, 8, 8])).toArray⟩ : ByteArray) = Lib.len8tab := by kernel_rfl
theorem e8 (y k : Nat) (hy : y < 256) (hk : k ≤ 56) : wrap64 ((k : Int) + Lib.len8 (y : Int)) = ((k + Lib.bitLen y : Nat) : Int) := by
  have := Lib.len8_eq ⟨y, hy⟩
  have h8 := Lib.bitLen_le8 ⟨y, hy⟩
  simp only at this h8
  rw [this]
  unfold wrap64
  omega
theorem tabb : ∃ t : ByteArray, Lib.len8tab = t ∧ ∀ (y : Nat) (w : World), y < 256 → (Instr.index 9 (.string t) (.int .u8 (y : Int))).run Tryd.prog w = .ok (.int .u8 (Lib.len8 (y : Int))) w :=
  ⟨_, rfl, fun y w hy => Lib.run_index_len8tab (P := Tryd.prog) (w := w) 9 .u8 (y : Int) Tryd.underlying9 (by omega) (by omega)⟩
set_option maxHeartbeats 2000000 in
theorem len64_0 (x : Nat) (w : World) (hx : x < 256) :
    Calls Tryd.prog 51 #[.int .u64 x] w fun e w' => e = .returned (.int .i64 (Lib.bitLen x)) ∧ w' = w := by
  obtain ⟨y, hy⟩ : ∃ y : Nat, y = x := ⟨_, rfl⟩
  have hy2 : y < 256 := by omega
  have he : (x : Int) = (y : Int) := by omega
  obtain ⟨t, ht, hix⟩ := tabb
  have hi := fun w => hix y w hy2
  have hl : Lib.len8 (y : Int) = ((Lib.bitLen y : Nat) : Int) := Lib.len8_eq ⟨y, hy2⟩
  have h8 : Lib.bitLen y ≤ 8 := Lib.bitLen_le8 ⟨y, hy2⟩
  have hz : Lib.bitLen x = 0 + Lib.bitLen y := by
    rw [hy]
    omega
  have HZ : Hid _ := hz
  rw [hl] at hi
  have f1 : decide ((4294967296 : Int) ≤ (x : Int)) = false := by simp; omega
  have f2 : decide ((65536 : Int) ≤ (x : Int)) = false := by simp; omega
  have f3 : decide ((256 : Int) ≤ (x : Int)) = false := by simp; omega
  clear hix hl hz hx
  subst hy
  clear he
  go_enter Tryd.func51, Tryd.ntmps51
  rw [fold51, ht]
  clear ht
  go_wp2
  go_ret
  rw [HZ.out]
  exact ⟨by simp, rfl⟩
set_option maxHeartbeats 2000000 in
theorem len64_1 (x : Nat) (w : World) (hx : 256 ≤ x ∧ x < 65536) :
    Calls Tryd.prog 51 #[.int .u64 x] w fun e w' => e = .returned (.int .i64 (Lib.bitLen x)) ∧ w' = w := by
  obtain ⟨y, hy⟩ : ∃ y : Nat, y = (x / 256) := ⟨_, rfl⟩
  have hy2 : y < 256 := by omega
  have he : (x : Int) / 256 = (y : Int) := by omega
  obtain ⟨t, ht, hix⟩ := tabb
  have hi := fun w => hix y w hy2
  have hl : Lib.len8 (y : Int) = ((Lib.bitLen y : Nat) : Int) := Lib.len8_eq ⟨y, hy2⟩
  have h8 : Lib.bitLen y ≤ 8 := Lib.bitLen_le8 ⟨y, hy2⟩
  have hz : Lib.bitLen x = 8 + Lib.bitLen y := by
    rw [hy]
    exact Lib.bitLen_shift8 x (by omega) (by omega)
  have HZ : Hid _ := hz
  rw [hl] at hi
  have f1 : decide ((4294967296 : Int) ≤ (x : Int)) = false := by simp; omega
  have f2 : decide ((65536 : Int) ≤ (x : Int)) = false := by simp; omega
  have f3 : decide ((256 : Int) ≤ (x : Int)) = true := by simp; omega
  clear hix hl hz hx hy
  go_enter Tryd.func51, Tryd.ntmps51
  rw [fold51, ht]
  clear ht
  go_wp2
  go_ret
  rw [HZ.out]
  exact ⟨by simp, rfl⟩
set_option maxHeartbeats 2000000 in
theorem len64_2 (x : Nat) (w : World) (hx : 65536 ≤ x ∧ x < 16777216) :
    Calls Tryd.prog 51 #[.int .u64 x] w fun e w' => e = .returned (.int .i64 (Lib.bitLen x)) ∧ w' = w := by
  obtain ⟨y, hy⟩ : ∃ y : Nat, y = (x / 65536) := ⟨_, rfl⟩
  have hy2 : y < 256 := by omega
  have he : (x : Int) / 65536 = (y : Int) := by omega
  obtain ⟨t, ht, hix⟩ := tabb
  have hi := fun w => hix y w hy2
  have hl : Lib.len8 (y : Int) = ((Lib.bitLen y : Nat) : Int) := Lib.len8_eq ⟨y, hy2⟩
  have h8 : Lib.bitLen y ≤ 8 := Lib.bitLen_le8 ⟨y, hy2⟩
  have hz : Lib.bitLen x = 16 + Lib.bitLen y := by
    rw [hy]
    exact Lib.bitLen_shift16 x (by omega) (by omega)
  have HZ : Hid _ := hz
  rw [hl] at hi
  have f1 : decide ((4294967296 : Int) ≤ (x : Int)) = false := by simp; omega
  have f2 : decide ((65536 : Int) ≤ (x : Int)) = true := by simp; omega
  have f3 : decide ((256 : Int) ≤ (x : Int) / 65536) = false := by simp; omega
  clear hix hl hz hx hy
  go_enter Tryd.func51, Tryd.ntmps51
  rw [fold51, ht]
  clear ht
  go_wp2
  go_ret
  rw [HZ.out]
  exact ⟨by simp, rfl⟩
set_option maxHeartbeats 2000000 in
theorem len64_3 (x : Nat) (w : World) (hx : 16777216 ≤ x ∧ x < 4294967296) :
    Calls Tryd.prog 51 #[.int .u64 x] w fun e w' => e = .returned (.int .i64 (Lib.bitLen x)) ∧ w' = w := by
  obtain ⟨y, hy⟩ : ∃ y : Nat, y = ((x / 65536) / 256) := ⟨_, rfl⟩
  have hy2 : y < 256 := by omega
  have he : (x : Int) / 65536 / 256 = (y : Int) := by omega
  obtain ⟨t, ht, hix⟩ := tabb
  have hi := fun w => hix y w hy2
  have hl : Lib.len8 (y : Int) = ((Lib.bitLen y : Nat) : Int) := Lib.len8_eq ⟨y, hy2⟩
  have h8 : Lib.bitLen y ≤ 8 := Lib.bitLen_le8 ⟨y, hy2⟩
  have hz : Lib.bitLen x = 24 + Lib.bitLen y := by
    rw [hy]
    rw [Lib.bitLen_shift16 x (by omega) (by omega), Lib.bitLen_shift8 _ (by omega) (by omega)]; omega
  have HZ : Hid _ := hz
  rw [hl] at hi
  have f1 : decide ((4294967296 : Int) ≤ (x : Int)) = false := by simp; omega
  have f2 : decide ((65536 : Int) ≤ (x : Int)) = true := by simp; omega
  have f3 : decide ((256 : Int) ≤ (x : Int) / 65536) = true := by simp; omega
  clear hix hl hz hx hy
  go_enter Tryd.func51, Tryd.ntmps51
  rw [fold51, ht]
  clear ht
  go_wp2
  go_ret
  rw [HZ.out]
  exact ⟨by simp, rfl⟩
set_option maxHeartbeats 2000000 in
theorem len64_4 (x : Nat) (w : World) (hx : 4294967296 ≤ x ∧ x < 1099511627776) :
    Calls Tryd.prog 51 #[.int .u64 x] w fun e w' => e = .returned (.int .i64 (Lib.bitLen x)) ∧ w' = w := by
  obtain ⟨y, hy⟩ : ∃ y : Nat, y = (x / 4294967296) := ⟨_, rfl⟩
  have hy2 : y < 256 := by omega
  have he : (x : Int) / 4294967296 = (y : Int) := by omega
  obtain ⟨t, ht, hix⟩ := tabb
  have hi := fun w => hix y w hy2
  have hl : Lib.len8 (y : Int) = ((Lib.bitLen y : Nat) : Int) := Lib.len8_eq ⟨y, hy2⟩
  have h8 : Lib.bitLen y ≤ 8 := Lib.bitLen_le8 ⟨y, hy2⟩
  have hz : Lib.bitLen x = 32 + Lib.bitLen y := by
    rw [hy]
    exact Lib.bitLen_shift32 x (by omega) (by omega)
  have HZ : Hid _ := hz
  rw [hl] at hi
  have f1 : decide ((4294967296 : Int) ≤ (x : Int)) = true := by simp; omega
  have f2 : decide ((65536 : Int) ≤ (x : Int) / 4294967296) = false := by simp; omega
  have f3 : decide ((256 : Int) ≤ (x : Int) / 4294967296) = false := by simp; omega
  rw [he] at f2 f3
  clear hix hl hz hx hy
  go_enter Tryd.func51, Tryd.ntmps51
  rw [fold51, ht]
  clear ht
  go_wp2
  go_ret
  rw [HZ.out]
  exact ⟨by simp, rfl⟩
set_option maxHeartbeats 2000000 in
theorem len64_5 (x : Nat) (w : World) (hx : 1099511627776 ≤ x ∧ x < 281474976710656) :
    Calls Tryd.prog 51 #[.int .u64 x] w fun e w' => e = .returned (.int .i64 (Lib.bitLen x)) ∧ w' = w := by
  obtain ⟨y, hy⟩ : ∃ y : Nat, y = ((x / 4294967296) / 256) := ⟨_, rfl⟩
  have hy2 : y < 256 := by omega
  have he : (x : Int) / 4294967296 / 256 = (y : Int) := by omega
  obtain ⟨t, ht, hix⟩ := tabb
  have hi := fun w => hix y w hy2
  have hl : Lib.len8 (y : Int) = ((Lib.bitLen y : Nat) : Int) := Lib.len8_eq ⟨y, hy2⟩
  have h8 : Lib.bitLen y ≤ 8 := Lib.bitLen_le8 ⟨y, hy2⟩
  have hz : Lib.bitLen x = 40 + Lib.bitLen y := by
    rw [hy]
    rw [Lib.bitLen_shift32 x (by omega) (by omega), Lib.bitLen_shift8 _ (by omega) (by omega)]; omega
  have HZ : Hid _ := hz
  rw [hl] at hi
  have f1 : decide ((4294967296 : Int) ≤ (x : Int)) = true := by simp; omega
  have f2 : decide ((65536 : Int) ≤ (x : Int) / 4294967296) = false := by simp; omega
  have f3 : decide ((256 : Int) ≤ (x : Int) / 4294967296) = true := by simp; omega
  clear hix hl hz hx hy
  go_enter Tryd.func51, Tryd.ntmps51
  rw [fold51, ht]
  clear ht
  go_wp2
  go_ret
  rw [HZ.out]
  exact ⟨by simp, rfl⟩
set_option maxHeartbeats 2000000 in
theorem len64_6 (x : Nat) (w : World) (hx : 281474976710656 ≤ x ∧ x < 72057594037927936) :
    Calls Tryd.prog 51 #[.int .u64 x] w fun e w' => e = .returned (.int .i64 (Lib.bitLen x)) ∧ w' = w := by
  obtain ⟨y, hy⟩ : ∃ y : Nat, y = ((x / 4294967296) / 65536) := ⟨_, rfl⟩
  have hy2 : y < 256 := by omega
  have he : (x : Int) / 4294967296 / 65536 = (y : Int) := by omega
  obtain ⟨t, ht, hix⟩ := tabb
  have hi := fun w => hix y w hy2
  have hl : Lib.len8 (y : Int) = ((Lib.bitLen y : Nat) : Int) := Lib.len8_eq ⟨y, hy2⟩
  have h8 : Lib.bitLen y ≤ 8 := Lib.bitLen_le8 ⟨y, hy2⟩
  have hz : Lib.bitLen x = 48 + Lib.bitLen y := by
    rw [hy]
    rw [Lib.bitLen_shift32 x (by omega) (by omega), Lib.bitLen_shift16 _ (by omega) (by omega)]; omega
  have HZ : Hid _ := hz
  rw [hl] at hi
  have f1 : decide ((4294967296 : Int) ≤ (x : Int)) = true := by simp; omega
  have f2 : decide ((65536 : Int) ≤ (x : Int) / 4294967296) = true := by simp; omega
  have f3 : decide ((256 : Int) ≤ (x : Int) / 4294967296 / 65536) = false := by simp; omega
  clear hix hl hz hx hy
  go_enter Tryd.func51, Tryd.ntmps51
  rw [fold51, ht]
  clear ht
  go_wp2
  go_ret
  rw [HZ.out]
  exact ⟨by simp, rfl⟩
set_option maxHeartbeats 2000000 in
theorem len64_7 (x : Nat) (w : World) (hx : 72057594037927936 ≤ x ∧ x < 18446744073709551616) :
    Calls Tryd.prog 51 #[.int .u64 x] w fun e w' => e = .returned (.int .i64 (Lib.bitLen x)) ∧ w' = w := by
  obtain ⟨y, hy⟩ : ∃ y : Nat, y = (((x / 4294967296) / 65536) / 256) := ⟨_, rfl⟩
  have hy2 : y < 256 := by omega
  have he : (x : Int) / 4294967296 / 65536 / 256 = (y : Int) := by omega
  obtain ⟨t, ht, hix⟩ := tabb
  have hi := fun w => hix y w hy2
  have hl : Lib.len8 (y : Int) = ((Lib.bitLen y : Nat) : Int) := Lib.len8_eq ⟨y, hy2⟩
  have h8 : Lib.bitLen y ≤ 8 := Lib.bitLen_le8 ⟨y, hy2⟩
  have hz : Lib.bitLen x = 56 + Lib.bitLen y := by
    rw [hy]
    rw [Lib.bitLen_shift32 x (by omega) (by omega), Lib.bitLen_shift16 _ (by omega) (by omega), Lib.bitLen_shift8 _ (by omega) (by omega)]; omega
  have HZ : Hid _ := hz
  rw [hl] at hi
  have f1 : decide ((4294967296 : Int) ≤ (x : Int)) = true := by simp; omega
  have f2 : decide ((65536 : Int) ≤ (x : Int) / 4294967296) = true := by simp; omega
  have f3 : decide ((256 : Int) ≤ (x : Int) / 4294967296 / 65536) = true := by simp; omega
  clear hix hl hz hx hy
  go_enter Tryd.func51, Tryd.ntmps51
  rw [fold51, ht]
  clear ht
  go_wp2
  go_ret
  rw [HZ.out]
  exact ⟨by simp, rfl⟩
theorem len64_any (x : Nat) (w : World) (h : x < 18446744073709551616) :
    Calls Tryd.prog 51 #[.int .u64 x] w fun e w' => e = .returned (.int .i64 (Lib.bitLen x)) ∧ w' = w := by
  by_cases h0 : x < 256
  · exact len64_0 x w h0
  by_cases h1 : x < 65536
  · exact len64_1 x w ⟨by omega, h1⟩
  by_cases h2 : x < 16777216
  · exact len64_2 x w ⟨by omega, h2⟩
  by_cases h3 : x < 4294967296
  · exact len64_3 x w ⟨by omega, h3⟩
  by_cases h4 : x < 1099511627776
  · exact len64_4 x w ⟨by omega, h4⟩
  by_cases h5 : x < 281474976710656
  · exact len64_5 x w ⟨by omega, h5⟩
  by_cases h6 : x < 72057594037927936
  · exact len64_6 x w ⟨by omega, h6⟩
  exact len64_7 x w ⟨by omega, h⟩
theorem bitLen_log (x : Nat) (h : x < 2 ^ 64) (h0 : x ≠ 0) : Lib.bitLen x = Nat.log2 x + 1 := by
  induction x using Nat.strongRecOn with
  | ind x ih =>
    rw [Lib.bitLen_half x h0 h, Nat.log2_def]
    by_cases h2 : x < 2
    · obtain rfl : x = 1 := by omega
      rfl
    · rw [if_pos (by omega), ih (x / 2) (by omega) (by omega) (by omega)]
      omega
set_option maxHeartbeats 400000 in
theorem len_any (x : Nat) (w : World) (h : x < 9223372036854775808) :
    Calls Tryd.prog 45 #[.int .u64 x] w fun e w' => e = .returned (.int .i64 (Lib.bitLen x)) ∧ w' = w := by
  have H : Hid _ := fun W => len64_any x W (by omega)
  go_enter Tryd.func45, Tryd.ntmps45
  go_wp2_with fail
  refine (H.out _).mono ?_
  rintro e w' ⟨rfl, rfl⟩
  go_wp2
  go_ret
  exact ⟨rfl, rfl⟩
set_option maxHeartbeats 400000 in
theorem leftSize_any (n : Nat) (w : World) (h2 : 2 ≤ n) (h : n < 9223372036854775808) :
    Calls Tryd.prog 39 #[.int .i64 n] w fun e w' => e = .returned (.int .i64 (hf n : Nat)) ∧ w' = w := by
  obtain ⟨m, hm⟩ : ∃ m, n = m + 1 := ⟨n - 1, by omega⟩
  subst hm
  have H : Hid _ := fun W => len_any m W (by omega)
  obtain ⟨k, hk⟩ : ∃ k, k = Nat.log2 m := ⟨_, rfl⟩
  have hl := bitLen_log m (by omega) (by omega)
  have hk2 : k < 63 := by rw [hk]; exact (Nat.log2_lt (by omega)).2 (by omega)
  rw [← hk] at hl
  rw [hl] at H
  have HF : Hid (hf (m + 1) = 2 ^ k) := by show hf (m + 1) = 2 ^ k; unfold hf; rw [hk]; rfl
  clear hk hl
  go_enter Tryd.func39, Tryd.ntmps39
  go_wp2_with fail
  refine (H.out _).mono ?_
  rintro e w' ⟨rfl, rfl⟩
  have hp : (2 : Int) ^ k ≤ 2 ^ 62 := by exact_mod_cast Nat.pow_le_pow_right (n := 2) (by omega) (show k ≤ 62 by omega)
  have hp0 : (0 : Int) < 2 ^ k := by exact_mod_cast Nat.two_pow_pos k
  have HP : Hid (wrap64 (2 ^ k) = (2 : Int) ^ k) := by show wrap64 (2 ^ k) = (2 : Int) ^ k; unfold wrap64; omega
  clear hp hp0
  go_wp2
  go_ret
  rw [HF.out, HP.out]
  exact ⟨by simp, rfl⟩
end Go.Proofs.YtnghgdficnkbbaaDoor
