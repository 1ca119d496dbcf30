/-
  The walks of vaultref's mul, inverse.
-/
import Derived.Test.YtbjgchlckmecaaaDoorS1
import Derived.WalkKit
import Derived.WalkSpells
import Derived.WalkLawsBesides
namespace Go.Proofs.YtbjgchlckmecaaaDoor
open Go.RowKit
set_option maxRecDepth 100000
theorem gmS_0 : ∀ n A P, gmS n A 0 P = P
  | 0, _, _ => rfl
  | n + 1, A, P => by rw [gmS]; simp; exact gmS_0 n _ P
theorem i64_xor_nat (a b : Nat) (ha : a < 9223372036854775808) (hb : b < 9223372036854775808) : bits .xor .i64 (a : Int) (b : Int) = ((a ^^^ b : Nat) : Int) := by
  have hx : a ^^^ b < 2 ^ 63 := Nat.xor_lt_two_pow (by omega) (by omega)
  have e : ∀ x : Nat, x < 9223372036854775808 → (BitVec.ofInt 64 (x : Int)).toNat = x := fun x h => by
    rw [BitVec.toNat_ofInt]; omega
  show IntKind.i64.wrap ((BitVec.ofInt 64 (a : Int) ^^^ BitVec.ofInt 64 (b : Int)).toNat : Int) = _
  rw [BitVec.toNat_xor, e a ha, e b hb, IntKind.wrap_i64]
  omega
theorem xt_B : allB 256 (fun A => decide (2 * A < 256) && (xt A == 2 * A) || decide (256 ≤ 2 * A) && (xt A == (2 * A) ^^^ 285)) = true := by decide +kernel
theorem xt_lo (A : Nat) (h : A < 256) (h2 : 2 * A < 256) : xt A = 2 * A := by
  have := allB_at _ 256 xt_B A h
  simp at this
  omega
theorem xt_hi (A : Nat) (h : A < 256) (h2 : 256 ≤ 2 * A) : xt A = (2 * A) ^^^ 285 := by
  have := allB_at _ 256 xt_B A h
  simp at this
  rcases this with h3 | h3
  · omega
  · exact h3.2
set_option maxHeartbeats 1000000 in
theorem mul_any (a b : Nat) (w : World) (ha : a < 256) (hb : b < 256) :
    Calls Tryd.prog 33 #[.int .i64 a, .int .i64 b] w fun e w' => e = .returned (.int .i64 (gm a b : Nat)) ∧ w' = w := by
  go_enter Tryd.func33, Tryd.ntmps33
  go_wp2
  go_loop [0, 1, 5] (fun x y p => ∃ k A B P : Nat, k ≤ 8 ∧ B < 2 ^ (8 - k) ∧ x = .int .i64 A ∧ y = .int .i64 B ∧ p = .int .i64 P ∧ A < 256 ∧ P < 256 ∧ gmS (8 - k) A B P = gm a b) (fun _ y _ => (intOf y).toNat)
  case atStart => exact ⟨0, a, b, 0, by omega, hb, rfl, rfl, rfl, ha, by omega, rfl⟩
  case round =>
    obtain ⟨k, A, B, P, hk, hB, rfl, rfl, rfl, hA, hP, hg⟩ := hrel
    have HG : Hid _ := hg
    have HBB : Hid _ := hB
    have hB8 : B < 256 := Nat.lt_of_lt_of_le hB (by exact Nat.pow_le_pow_right (n := 2) (by omega) (show 8 - k ≤ 8 by omega))
    clear hg hB
    by_cases hlt : 0 < B
    · have hk8 : k < 8 := by
        rcases Nat.lt_or_ge k 8 with h | h
        · exact h
        · exfalso
          have := HBB.out
          rw [show 8 - k = 0 by omega] at this
          omega
      have HN : Hid (gmS (8 - (k + 1)) (xt A) (B / 2) (if B % 2 = 1 then P ^^^ A else P) = gm a b) := by
        show gmS (8 - (k + 1)) (xt A) (B / 2) (if B % 2 = 1 then P ^^^ A else P) = gm a b
        rw [← HG.out, show 8 - k = (8 - (k + 1)) + 1 by omega, gmS]
      have HB2 : Hid (B / 2 < 2 ^ (8 - (k + 1))) := by
        show B / 2 < 2 ^ (8 - (k + 1))
        have := HBB.out
        rw [show 8 - k = (8 - (k + 1)) + 1 by omega, Nat.pow_succ] at this
        omega
      have hx1 := i64_xor_nat P A (by omega) (by omega)
      have hx2 := i64_xor_nat (2 * A) 285 (by omega) (by omega)
      have HX1 : Hid _ := hx1
      have HX2 : Hid (bits .xor .i64 (2 * (A : Int)) 285 = ((2 * A ^^^ 285 : Nat) : Int)) := by show bits .xor .i64 (2 * (A : Int)) 285 = _; rw [← hx2]; rfl
      clear hx1 hx2
      have hlt' : (0 : Int) < (B : Int) := by omega
      by_cases hodd : B % 2 = 1
      · by_cases hov : 256 ≤ 2 * A
        · have ho' : (((B : Int) % 2) == 1) = true := by simp; omega
          have hv' : decide ((256 : Int) ≤ 2 * (A : Int)) = true := by simp; omega
          go_wp2
          go_round
          case rel =>
            refine ⟨k + 1, xt A, B / 2, (if B % 2 = 1 then P ^^^ A else P), by omega, HB2.out, ?_, by go_num, ?_, xt_lt A hA, ?_, HN.out⟩
            · rw [xt_hi A hA hov, HX2.out]
            · rw [if_pos hodd, HX1.out]
            · rw [if_pos hodd]; exact Nat.xor_lt_two_pow (n := 8) hP hA
          case measure => simp [intOf]; omega
        · have ho' : (((B : Int) % 2) == 1) = true := by simp; omega
          have hv' : decide ((256 : Int) ≤ 2 * (A : Int)) = false := by simp; omega
          go_wp2
          go_round
          case rel =>
            refine ⟨k + 1, xt A, B / 2, (if B % 2 = 1 then P ^^^ A else P), by omega, HB2.out, ?_, by go_num, ?_, xt_lt A hA, ?_, HN.out⟩
            · rw [xt_lo A hA (by omega)]; go_num
            · rw [if_pos hodd, HX1.out]
            · rw [if_pos hodd]; exact Nat.xor_lt_two_pow (n := 8) hP hA
          case measure => simp [intOf]; omega
      · by_cases hov : 256 ≤ 2 * A
        · have ho' : (((B : Int) % 2) == 1) = false := by simp; omega
          have hv' : decide ((256 : Int) ≤ 2 * (A : Int)) = true := by simp; omega
          go_wp2
          go_round
          case rel =>
            refine ⟨k + 1, xt A, B / 2, (if B % 2 = 1 then P ^^^ A else P), by omega, HB2.out, ?_, by go_num, ?_, xt_lt A hA, ?_, HN.out⟩
            · rw [xt_hi A hA hov, HX2.out]
            · rw [if_neg hodd]
            · rw [if_neg hodd]; exact hP
          case measure => simp [intOf]; omega
        · have ho' : (((B : Int) % 2) == 1) = false := by simp; omega
          have hv' : decide ((256 : Int) ≤ 2 * (A : Int)) = false := by simp; omega
          go_wp2
          go_round
          case rel =>
            refine ⟨k + 1, xt A, B / 2, (if B % 2 = 1 then P ^^^ A else P), by omega, HB2.out, ?_, by go_num, ?_, xt_lt A hA, ?_, HN.out⟩
            · rw [xt_lo A hA (by omega)]; go_num
            · rw [if_neg hodd]
            · rw [if_neg hodd]; exact hP
          case measure => simp [intOf]; omega
    · have e : B = 0 := by omega
      have HE : Hid (gm a b = P) := by show gm a b = P; rw [← HG.out, e, gmS_0]
      clear HG HBB
      subst e
      rw [show (((0 : Nat)) : Int) = 0 from rfl]
      go_wp2
      go_ret
      exact ⟨by rw [HE.out]; rfl, rfl⟩
/-- the n-th power -/
def gp (a : Nat) : Nat → Nat
  | 0 => 1
  | n + 1 => gm (gp a n) a
theorem gp_lt (a : Nat) : ∀ n, gp a n < 256
  | 0 => by show 1 < 256; omega
  | n + 1 => gm_lt _ _ (gp_lt a n)
theorem gp_B : allB 256 (fun a => gp a 254 == gi a) = true := by decide +kernel
theorem gp_gi (a : Nat) (h : a < 256) : gp a 254 = gi a := by
  have := allB_at _ 256 gp_B a h
  simpa using this
set_option maxHeartbeats 1000000 in
theorem rinv_any (a : Nat) (w : World) (ha : a < 256) :
    Calls Tryd.prog 40 #[.int .i64 a] w fun e w' => e = .returned (.int .i64 (gi a : Nat)) ∧ w' = w := by
  have HE : Hid (gi a = gp a 254) := (gp_gi a ha).symm
  go_enter Tryd.func40, Tryd.ntmps40
  go_wp2
  go_loop [4, 3] (fun iv p => ∃ k : Nat, k ≤ 254 ∧ iv = .int .i64 k ∧ p = .int .i64 (gp a k : Nat)) (fun iv _ => 254 - (intOf iv).toNat)
  case atStart => exact ⟨0, by omega, rfl, rfl⟩
  case round =>
    obtain ⟨k, hk, rfl, rfl⟩ := hrel
    have hp := gp_lt a k
    have HN : Hid (gp a (k + 1) = gm (gp a k) a) := rfl
    obtain ⟨q, hq⟩ : ∃ q, gp a k = q := ⟨_, rfl⟩
    rw [hq] at hp HN ⊢
    by_cases hlt : k < 254
    · clear hq
      go_wp2_with fail
      refine (mul_any q a _ hp ha).mono ?_
      rintro e w' ⟨rfl, rfl⟩
      go_wp2
      go_round
      case rel => exact ⟨k + 1, by omega, by go_num, by rw [HN.out]⟩
      case measure => simp [intOf]; omega
    · have e : k = 254 := by omega
      have HQ : Hid (gi a = q) := by show gi a = q; rw [HE.out, ← hq, e]
      clear hq
      go_wp2
      go_ret
      exact ⟨by rw [HQ.out]; rfl, rfl⟩
end Go.Proofs.YtbjgchlckmecaaaDoor
