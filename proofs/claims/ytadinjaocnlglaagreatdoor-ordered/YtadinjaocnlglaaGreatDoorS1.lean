/-
  The walks of package field.
-/
import Derived.Test.YtadinjaocnlglaaGreatDoorProg
import Derived.Test.YtadinjaocnlglaaGreatDoorGF
import Derived.WalkKit
import Derived.WalkSpells
import Derived.WalkLawsBesides
namespace Go.Proofs.YtadinjaocnlglaaGreatDoor
open Go.RowKit
set_option maxRecDepth 100000
theorem stepAB : allB 256 (fun A => bits BinOp.xor IntKind.u8 ((A : Int) * 2 % 256) (bits BinOp.and IntKind.u8 29 (-((A : Int) / 128) % 256)) == ((xt A : Nat) : Int)) = true := by decide +kernel
theorem stepA (A : Nat) (h : A < 256) : bits BinOp.xor IntKind.u8 ((A : Int) * 2 % 256) (bits BinOp.and IntKind.u8 29 (-((A : Int) / 128) % 256)) = ((xt A : Nat) : Int) := by
  have := allB_at _ 256 stepAB A h
  simpa using this
theorem maskB : allB 256 (fun A => bits BinOp.and IntKind.u8 (A : Int) 1 == ((A % 2 : Nat) : Int) && bits BinOp.and IntKind.u8 (A : Int) 255 == (A : Int) && bits BinOp.and IntKind.u8 (A : Int) 0 == 0) = true := by decide +kernel
theorem masks (A : Nat) (h : A < 256) : bits BinOp.and IntKind.u8 (A : Int) 1 = ((A % 2 : Nat) : Int) ∧ bits BinOp.and IntKind.u8 (A : Int) 255 = (A : Int) ∧ bits BinOp.and IntKind.u8 (A : Int) 0 = 0 := by
  have := allB_at _ 256 maskB A h
  simp only [Bool.and_eq_true, beq_iff_eq] at this
  exact ⟨this.1.1, this.1.2, this.2⟩
theorem stepP (P A B : Nat) (hP : P < 256) (hA : A < 256) (hB : B < 256) : bits BinOp.xor IntKind.u8 (P : Int) (bits BinOp.and IntKind.u8 (A : Int) (-bits BinOp.and IntKind.u8 (B : Int) 1 % 256)) = ((if B % 2 = 1 then P ^^^ A else P : Nat) : Int) := by
  rw [(masks B hB).1]
  by_cases h : B % 2 = 1
  · rw [if_pos h, h, show (-((1 : Nat) : Int) % 256) = 255 by decide, (masks A hA).2.1, u8_xor_nat P A hP hA]
  · have h0 : B % 2 = 0 := by omega
    rw [if_neg h, h0, show (-((0 : Nat) : Int) % 256) = 0 by decide, (masks A hA).2.2]
    have := u8_xor_nat P 0 hP (by omega)
    rw [Nat.xor_zero] at this
    exact this
set_option maxHeartbeats 400000 in
theorem times_any (a b : Nat) (w : World) (ha : a < 256) (hb : b < 256) :
    Calls Tryz.prog 385 #[.int .u8 a, .int .u8 b] w fun e w' => e = .returned (.int .u8 ((gm a b : Nat) : Int)) ∧ w' = w := by
  go_enter Tryz.func385, Tryz.ntmps385
  go_wp2
  go_loop [6, 0, 1, 5] (fun i x y p => ∃ k A B P : Nat, k ≤ 8 ∧ i = .int .i64 k ∧ x = .int .u8 A ∧ y = .int .u8 B ∧ p = .int .u8 P ∧ A < 256 ∧ B < 256 ∧ P < 256 ∧ gmS (8 - k) A B P = gm a b) (fun i _ _ _ => 8 - (intOf i).toNat)
  case atStart => exact ⟨0, a, b, 0, by omega, rfl, rfl, rfl, rfl, ha, hb, by omega, rfl⟩
  case round =>
    obtain ⟨k, A, B, P, hk, rfl, rfl, rfl, rfl, hA, hB, hP, hg⟩ := hrel
    have HG : Hid _ := hg
    clear hg
    by_cases hlt : k < 8
    · go_wp2
      go_round
      case rel =>
        refine ⟨k + 1, xt A, B / 2, (if B % 2 = 1 then P ^^^ A else P), by omega, by go_num, ?_, ?_, ?_, xt_lt A hA, by omega, ?_, ?_⟩
        · rw [stepA A hA]
        · go_num
        · rw [stepP P A B hP hA hB]
        · split
          · exact Nat.xor_lt_two_pow (n := 8) hP hA
          · exact hP
        · rw [← HG.out, show 8 - k = (8 - (k + 1)) + 1 by omega, gmS]
      case measure => simp [intOf]; omega
    · go_wp2
      go_ret
      have e : k = 8 := by omega
      subst e
      exact ⟨by rw [← HG.out]; rfl, rfl⟩
set_option maxHeartbeats 400000 in
theorem plus_any (a b : Nat) (w : World) (ha : a < 256) (hb : b < 256) :
    Calls Tryz.prog 384 #[.int .u8 a, .int .u8 b] w fun e w' => e = .returned (.int .u8 ((a ^^^ b : Nat) : Int)) ∧ w' = w := by
  have e := u8_xor_nat a b ha hb
  have E : Hid _ := e
  clear e
  go_enter Tryz.func384, Tryz.ntmps384
  go_wp2
  go_ret
  rw [E.out]
  exact ⟨rfl, rfl⟩
set_option maxHeartbeats 400000 in
theorem minus_any (a b : Nat) (w : World) (ha : a < 256) (hb : b < 256) :
    Calls Tryz.prog 381 #[.int .u8 a, .int .u8 b] w fun e w' => e = .returned (.int .u8 ((a ^^^ b : Nat) : Int)) ∧ w' = w := by
  have e := u8_xor_nat a b ha hb
  have E : Hid _ := e
  clear e
  go_enter Tryz.func381, Tryz.ntmps381
  go_wp2
  go_ret
  rw [E.out]
  exact ⟨rfl, rfl⟩
theorem one_any (a : Int) (w : World) : Calls Tryz.prog 382 #[.int .u8 a] w fun e w' => e = .returned (.int .u8 1) ∧ w' = w := by
  go_enter Tryz.func382, Tryz.ntmps382
  go_wp2
  go_ret
  exact ⟨rfl, rfl⟩
theorem giS_lt : ∀ n p r, p < 256 → r < 256 → giS n p r < 256
  | 0, _, _, _, hr => hr
  | n + 1, p, r, hp, hr => by rw [giS]; exact giS_lt n _ _ (gm_lt p p hp) (gm_lt r _ hr)
set_option maxHeartbeats 400000 in
theorem inverse_any (a : Nat) (w : World) (ha : a < 256) :
    Calls Tryz.prog 386 #[.int .u8 a] w fun e w' => e = .returned (.int .u8 ((gi a : Nat) : Int)) ∧ w' = w := by
  go_enter Tryz.func386, Tryz.ntmps386
  go_wp2
  go_loop [6, 3, 4] (fun i x y => ∃ k A R : Nat, k ≤ 7 ∧ i = .int .i64 k ∧ x = .int .u8 A ∧ y = .int .u8 R ∧ A < 256 ∧ R < 256 ∧ giS (7 - k) A R = gi a) (fun i _ _ => 7 - (intOf i).toNat)
  case atStart => exact ⟨0, a, 1, by omega, rfl, rfl, rfl, ha, by omega, rfl⟩
  case round =>
    obtain ⟨k, A, R, hk, rfl, rfl, rfl, hA, hR, hg⟩ := hrel
    have HG : Hid _ := hg
    have hAA := gm_lt A A hA
    clear hg
    by_cases hlt : k < 7
    · go_wp2_with fail
      refine (times_any A A _ hA hA).mono ?_
      rintro e w' ⟨rfl, rfl⟩
      go_wp2_with fail
      refine (times_any R (gm A A) _ hR hAA).mono ?_
      rintro e w' ⟨rfl, rfl⟩
      go_wp2
      go_round
      case rel => exact ⟨k + 1, gm A A, gm R (gm A A), by omega, by go_num, rfl, rfl, hAA, gm_lt R _ hR, by rw [← HG.out, show 7 - k = (7 - (k + 1)) + 1 by omega, giS]⟩
      case measure => simp [intOf]; omega
    · go_wp2
      go_ret
      have e : k = 7 := by omega
      subst e
      exact ⟨by rw [← HG.out]; rfl, rfl⟩
set_option maxHeartbeats 400000 in
theorem over_any (a b : Nat) (w : World) (ha : a < 256) (hb : b < 256) :
    Calls Tryz.prog 383 #[.int .u8 a, .int .u8 b] w fun e w' => e = .returned (.int .u8 ((gm a (gi b) : Nat) : Int)) ∧ w' = w := by
  have hgb := gi_lt b hb
  go_enter Tryz.func383, Tryz.ntmps383
  go_wp2_with fail
  refine (inverse_any b _ hb).mono ?_
  rintro e w' ⟨rfl, rfl⟩
  go_wp2_with fail
  refine (times_any a (gi b) _ ha hgb).mono ?_
  rintro e w' ⟨rfl, rfl⟩
  go_wp2
  go_ret
  exact ⟨rfl, rfl⟩
end Go.Proofs.YtadinjaocnlglaaGreatDoor
