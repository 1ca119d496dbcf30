/-
  The walks of vault.Digest at the empty text, and of first.
-/
import Derived.Test.YtnghgdficnkbbaaDoorS17
import Derived.Test.YtnghgdficnkbbaaDoorTV
import Derived.WalkKit
import Derived.WalkSpells
import Derived.WalkLawsBesides
import Derived.BigRegion
import Derived.BigQuiet
import Derived.Deep.QuietTactic
import Derived.Deep.RegionWith
import Derived.Deep.RegionHeld3
namespace Go.Proofs.YtnghgdficnkbbaaDoor
open Go.RowKit
theorem vdigest_any (kt : Nat → Int) (s : ByteArray) (w : World) (hs : s.size ≤ 140737488351232) (hT : Tab w 0 kt) (h3 : 1 ≤ w.heap.size) :
    Calls Tryd.prog 5 #[.string s] w fun e w' => e = .returned (.string (ofT kt s)) ∧ Below w.heap.size w w' := by
  have H : Hid _ := of_any kt s w hs hT h3
  clear hT
  go_enter Tryd.func5, Tryd.ntmps5
  go_wp2_with fail
  refine Calls.mono H.out ?_
  rintro e w1 ⟨rfl, hB⟩
  go_wp2
  go_ret
  exact ⟨rfl, hB⟩
theorem vdigest_empty (w : World) (hT : Tab w 0 kt) (h3 : 1 ≤ w.heap.size) :
    Calls Tryd.prog 5 #[.string ⟨#[]⟩] w fun e w' => e = .returned (.string dg0) ∧ Below w.heap.size w w' := by
  rw [← ofT_empty]; exact vdigest_any kt _ w (by decide) hT h3
def two : Nat → ByteArray
  | 0 => ⟨#[1]⟩
  | _ => ⟨#[3]⟩
def five : Nat → ByteArray := fun _ => ⟨#[5]⟩
theorem vl_two : vl (fun i => i) (fun i => 2 + i) 2 1 two 0 = ⟨#[5]⟩ := by kernel_rfl
set_option maxHeartbeats 1000000 in
theorem first_any (w : World) (hT : Tab w 0 kt) (h3 : 1 ≤ w.heap.size) :
    Calls Tryd.prog 4 #[] w fun e w' => e = .returned (.bool true) ∧ Below w.heap.size w w' := by
  have HT : Hid _ := hT
  clear hT
  go_enter Tryd.func4, Tryd.ntmps4
  go_wp2_with fail
  refine (vdigest_empty _ HT.out h3).mono ?_
  rintro e w1 ⟨rfl, hB1⟩
  go_wp2_with fail
  obtain ⟨w2, hw2⟩ : ∃ w2, w2 = (w1.alloc (Obj.cells #[Value.string { data := #[1] }, Value.string { data := #[3] }] 9)) := ⟨_, rfl⟩
  have hz2 : w2.heap.size = w1.heap.size + 1 := by rw [hw2]; simp
  have hB2 : Below w.heap.size w w2 := by rw [hw2]; exact hB1.alloc hB1.size _
  have hC2 : Cl w2 w1.heap.size 2 (tI two) := by
    intro i hi
    rw [hw2, cell_of_row _ w1.heap.size i _ 9 _ (heap_alloc_new w1 _)]
    match i, hi with
    | 0, _ => rfl
    | 1, _ => rfl
  rw [← hw2]
  clear hw2
  refine (vparity_ok two 2 1 1 w1.heap.size 2 w2 (by decide) (by decide) (by decide) (fun i hi => ?_) (by omega) hC2).mono ?_
  · match i, hi with
    | 0, _ => rfl
    | 1, _ => rfl
  rintro e w3 ⟨g, rfl, hg, hR, hB3⟩
  clear hC2
  go_wp2_with fail
  obtain ⟨w4, hw4⟩ : ∃ w4, w4 = (w3.alloc (Obj.cells #[Value.string { data := #[5] }] 9)) := ⟨_, rfl⟩
  have hB4 : Below w3.heap.size w3 w4 := by rw [hw4]; exact (Below.refl _ _).alloc (Nat.le_refl _) _
  have hC4 : Cl w4 w3.heap.size 1 (tI five) := by
    intro i hi
    rw [hw4, cell_of_row _ w3.heap.size i _ 9 _ (heap_alloc_new w3 _)]
    match i, hi with
    | 0, _ => rfl
  have hA4 : Cl w4 g 1 (tI (vl (fun i => i) (fun i => 2 + i) 2 1 two)) := fun i hi => (hR.below hB4 hR.lt).cell i hi
  rw [← hw4]
  clear hw4
  refine (same_any _ five 1 g 1 w3.heap.size 1 w4 (by decide) hA4 hC4 (fun i hi => ?_)).mono ?_
  · match i, hi with
    | 0, _ => exact vl_two
  rintro e w5 ⟨rfl, hB5⟩
  have hBz : Below w.heap.size w w5 := ((hB2.trans (hB3.mono hB2.size)).trans (hB4.mono (Nat.le_trans hB2.size hB3.size))).trans (hB5.mono (Nat.le_trans (Nat.le_trans hB2.size hB3.size) hB4.size))
  clear hB1 hB2 hB3 hB4 hB5 hC4 hA4 hR
  rw [show dg0 = ⟨#[227, 176, 196, 66, 152, 252, 28, 20, 154, 251, 244, 200, 153, 111, 185, 36, 39, 174, 65, 228, 100, 155, 147, 76, 164, 149, 153, 27, 120, 82, 184, 85]⟩ from rfl]
  go_wp2
  go_ret
  exact ⟨rfl, hBz⟩
end Go.Proofs.YtnghgdficnkbbaaDoor
