/-
  The walks of stripe.CheckParams and parity, where nothing is refused.
-/
import Derived.Test.YtadinjaocnlglaaGreatDoorS9
import Derived.WalkKit
import Derived.WalkSpells
import Derived.WalkLawsBesides
import Derived.BigRegion
import Derived.BigQuiet
import Derived.Deep.QuietTactic
import Derived.Deep.RegionWith
import Derived.Deep.RegionHeld3
namespace Go.Proofs.YtadinjaocnlglaaGreatDoor
open Go.RowKit
set_option maxRecDepth 100000
set_option maxHeartbeats 400000 in
theorem checkParams_ok (k m : Nat) (w : World) (hk1 : 1 ≤ k) (hkm : k + m ≤ 255) :
    Calls Tryz.prog 190 #[.int .i64 k, .int .i64 m] w fun e w' => e = .returned .nilIface ∧ w' = w := by
  have h1 : (1 : Int) ≤ (k : Int) := by omega
  have h2 : (k : Int) ≤ 255 := by omega
  have h3 : (0 : Int) ≤ (m : Int) := by omega
  have h4 : (m : Int) ≤ 255 - (k : Int) := by omega
  go_enter Tryz.func190, Tryz.ntmps190
  go_wp2
  go_ret
  exact ⟨rfl, rfl⟩
set_option maxHeartbeats 1000000 in
theorem inner_ok (S : Nat → ByteArray) (k m c b cap : Nat) (w : World) (hk1 : 1 ≤ k) (hkm : k + m ≤ 255) (hc : c ≤ 140737488351232) (hS : ∀ i, i < k → (S i).size = c) (hb : b < w.heap.size) (hC : Cl w b k (tI S)) :
    Calls Tryz.prog 191 #[.int .i64 k, .int .i64 m, .slice (some ⟨b, 0, none⟩) k cap] w fun e w' => ∃ g, e = .returned (.slice (some ⟨g, 0, none⟩) m m) ∧ w.heap.size ≤ g ∧ Rw w' g m 9 (tI (vl (fun i => i) (fun i => k + i) k c S)) ∧ Below w.heap.size w w' := by
  have HS : Hid _ := hS
  have HC : Hid _ := hC
  clear hS hC
  have hk255 : k ≤ 255 := by omega
  go_enter Tryz.func191, Tryz.ntmps191
  go_wp2_with fail
  refine (points_any 0 k w (by omega) (by omega)).mono ?_
  rintro e w2 ⟨rfl, hP2, hB2⟩
  rw [Nat.sub_zero] at hP2 ⊢
  go_wp2_with fail
  have hkm2 : ((k : Int) + (m : Int)) = ((k + m : Nat) : Int) := by omega
  rw [hkm2]
  clear hkm2
  refine (points_any k (k + m) w2 (by omega) (by omega)).mono ?_
  rintro e w3 ⟨rfl, hP3, hB3⟩
  rw [Nat.add_sub_cancel_left] at hP3 ⊢
  have hf : Pts w3 (.slice (some ⟨w.heap.size, 0, none⟩) k k) k (fun j => j) := .inr ⟨_, _, rfl, Nat.lt_of_lt_of_le hP2.lt hB3.size, fun j hj => by rw [(hP2.below hB3 hP2.lt).cell j hj]; simp [from', pI]⟩
  have ht : Pts w3 (.slice (some ⟨w2.heap.size, 0, none⟩) m m) m (fun j => k + j) := .inr ⟨_, _, rfl, hP3.lt, fun j hj => by rw [hP3.cell j hj]; rfl⟩
  have hC3 : Cl w3 b k (tI S) := (Cl.below HC.out hB2 hb).below hB3 (Nat.lt_of_lt_of_le hb hB2.size)
  have HP2 : Hid _ := hf
  have HP3 : Hid _ := ht
  have HC3 : Hid _ := hC3
  clear hf ht hC3
  go_wp2_with fail
  refine (values_any (fun j => j) (fun j => k + j) S k m c b cap _ _ w3 (by omega) (by omega) (by omega) hc HS.out (fun j hj => by omega) (fun j hj => by omega) (Nat.lt_of_lt_of_le hb (Nat.le_trans hB2.size hB3.size)) HC3.out HP2.out HP3.out).mono ?_
  rintro e w4 ⟨g, rfl, hg, hR4, hB4⟩
  go_wp2
  go_ret
  exact ⟨g, rfl, Nat.le_trans hB2.size (Nat.le_trans hB3.size hg), hR4, (hB2.trans (hB3.mono hB2.size)).trans (hB4.mono (Nat.le_trans hB2.size hB3.size))⟩
end Go.Proofs.YtadinjaocnlglaaGreatDoor
