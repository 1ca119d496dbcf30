/-
  The walk of matrix.lagrangeScales.
-/
import Derived.Test.YtadinjaocnlglaaGreatDoorS4
import Derived.WalkKit
import Derived.WalkSpells
import Derived.WalkLawsBesides
import Derived.BigRegion
import Derived.BigQuiet
import Derived.Deep.QuietTactic
import Derived.Deep.RegionWith
import Derived.Deep.RegionHeld3
namespace Go.Proofs.YtadinjaocnlglaaGreatDoor
open Go.RowKit
/-- the height of the i-th point's polynomial at it, over the first k points -/
def hgt (p : Nat → Nat) (i : Nat) : Nat → Nat
  | 0 => 1
  | k + 1 => if k = i then hgt p i k else gm (hgt p i k) (p i ^^^ p k)
theorem hgt_lt (p : Nat → Nat) (i : Nat) : ∀ k, hgt p i k < 256
  | 0 => by show 1 < 256; omega
  | k + 1 => by
    rw [hgt]
    split
    · exact hgt_lt p i k
    · exact gm_lt _ _ (hgt_lt p i k)
def scl (p : Nat → Nat) (n i : Nat) : Nat := gm 1 (gi (hgt p i n))
set_option maxHeartbeats 1000000 in
theorem scales_any (p : Nat → Nat) (b n cap : Nat) (w : World) (hn : n ≤ 1000) (hp : ∀ i, i < n → p i < 256) (hb0 : b < w.heap.size) (hc : Cl w b n (nb p)) :
    Calls Tryz.prog 303 #[.slice (some ⟨b, 0, none⟩) n cap] w fun e w' => e = .returned (.slice (some ⟨w.heap.size, 0, none⟩) n n) ∧ Rw w' w.heap.size n 393 (nb (scl p n)) ∧ Below w.heap.size w w' := by
  have HC : Hid _ := hc
  have HP : Hid _ := hp
  clear hc hp
  have hmk := run_make_row' (P := Tryz.prog) 390 393 (.int .u8 0) 1 Tryz.underlying390 info56 rfl .i64 .i64 n (by omega) (by omega)
  have hm1 := m_one
  have hm2 := m_times
  have hm3 := m_minus
  have hm4 := m_over
  go_enter Tryz.func303, Tryz.ntmps303
  go_wp2
  go_loopw [14] (fun i wr => ∃ k : Nat, k ≤ n ∧ i = .int .i64 k ∧ Below w.heap.size w wr ∧ Rw wr w.heap.size n 393 (part' k (nb (scl p n)) (.int .u8 0))) (fun i _ => n - (intOf i).toNat)
  case atStart => exact ⟨0, by omega, rfl, (Below.refl _ _).alloc (Nat.le_refl _) _, (Rw.made w n 393 (.int .u8 0)).to (fun j _ => (part_0 _ _ j).symm)⟩
  case round =>
    obtain ⟨i, hi, rfl, hb, hR⟩ := hrel
    by_cases hlt : i < n
    · have c1 := hR.cell i hlt
      have c2 := hR.free i
      have c3 : wr.cell? ⟨b, i, none⟩ = some (.int .u8 ((p i : Nat) : Int)) := Cl.below HC.out hb hb0 i hlt
      have hpi := HP.out i hlt
      go_wp2_with (go_at_call 382; refine (one_any _ _).mono ?_; rintro e w' ⟨rfl, rfl⟩)
      go_loop [24, 6] (fun j v => ∃ k : Nat, k ≤ n ∧ j = .int .i64 k ∧ v = .int .u8 ((hgt p i k : Nat) : Int)) (fun j _ => n - (intOf j).toNat)
      case atStart => exact ⟨0, by omega, rfl, rfl⟩
      case round =>
        obtain ⟨k, hk, rfl, rfl⟩ := hrel
        by_cases hlk : k < n
        · have c4 : w'.cell? ⟨b, k, none⟩ = some (.int .u8 ((p k : Nat) : Int)) := Cl.below HC.out hb hb0 k hlk
          have hpk := HP.out k hlk
          have hhk := hgt_lt p i k
          have hxx : p i ^^^ p k < 256 := Nat.xor_lt_two_pow (n := 8) hpi hpk
          by_cases hki : k = i
          · have hne : ((k : Int) != (i : Int)) = false := by rw [bne_eq_false_iff_eq]; omega
            go_wp2
            go_round
            case rel => exact ⟨k + 1, by omega, by go_num, by rw [hgt, if_pos hki]⟩
            case measure => simp [intOf]; omega
          · have hne : ((k : Int) != (i : Int)) = true := by rw [bne_iff_ne]; omega
            go_wp2_with (first | (go_at_call 381; refine (minus_any (p i) (p k) _ hpi hpk).mono ?_; rintro e w' ⟨rfl, rfl⟩) | (go_at_call 385; refine (times_any (hgt p i k) (p i ^^^ p k) _ hhk hxx).mono ?_; rintro e w' ⟨rfl, rfl⟩))
            go_round
            case rel => exact ⟨k + 1, by omega, by go_num, by rw [hgt, if_neg hki]⟩
            case measure => simp [intOf]; omega
        · have e : k = n := by omega
          subst e
          have hhk := hgt_lt p i k
          go_wp2_with (first | (go_at_call 382; refine (one_any _ _).mono ?_; rintro e w' ⟨rfl, rfl⟩) | (go_at_call 383; refine (over_any 1 (hgt p i k) _ (by omega) hhk).mono ?_; rintro e w' ⟨rfl, rfl⟩))
          go_roundw
          case rel => exact ⟨i + 1, by omega, by go_num, hb.setCell (Nat.le_refl _) _, (hR.put i _).to (fun j _ => by rw [← part_step]; rfl)⟩
          case measure => simp [intOf]; omega
    · have e : i = n := by omega
      subst e
      go_wp2
      go_ret
      exact ⟨rfl, hR.to (fun j hj => by simp [part', hj]), hb⟩
end Go.Proofs.YtadinjaocnlglaaGreatDoor
