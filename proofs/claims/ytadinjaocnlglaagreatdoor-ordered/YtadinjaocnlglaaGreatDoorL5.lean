/-
  The walk of stripe.Whole.
-/
import Derived.Test.YtadinjaocnlglaaGreatDoorL4
import Derived.Test.YtadinjaocnlglaaGreatDoorS10
namespace Go.Proofs.YtadinjaocnlglaaGreatDoor
open Go.RowKit
set_option maxRecDepth 100000
set_option maxHeartbeats 1000000
/-- all blocks of a stripe -/
def whl (S : Nat → ByteArray) (k m c : Nat) : List Value := tV S k ++ tV (vl (fun i => i) (fun i => k + i) k c S) m
theorem whole_any (S : Nat → ByteArray) (k m c b cap : Nat) (w : World) (hk1 : 1 ≤ k) (hkm : k + m ≤ 255) (hc : c ≤ 140737488351232) (hS : ∀ i, i < k → (S i).size = c) (hb : b < w.heap.size) (hC : Cl w b k (tI S)) :
    Calls Tryz.prog 204 #[.int .i64 k, .int .i64 m, .slice (some ⟨b, 0, none⟩) k cap] w fun e w' => ∃ v, e = .returned v ∧ w'.ownsRow w.heap.size 9 1 v (k + m) (whl S k m c) ∧ Below w.heap.size w w' := by
  have H : Hid _ := inner_ok S k m c b cap w hk1 hkm hc hS hb hC
  have HC : Hid _ := hC
  clear hS hC
  go_enter Tryz.func204, Tryz.ntmps204
  go_wp2_with fail
  refine Calls.mono H.out ?_
  rintro e w1 ⟨g, rfl, hg, hR, hB⟩
  have HR : Hid (Rw w1 g m 9 (tI (vl (fun i => i) (fun i => k + i) k c S))) := hR
  have HB : Hid (Below w.heap.size w w1) := hB
  clear hR hB H
  go_wp2_with fail
  obtain ⟨w2, hw2⟩ : ∃ w2, w2 = w1.alloc (Obj.cells #[Value.slice (some { block := b, off := 0 }) k cap, Value.slice (some { block := g, off := 0 }) m m] 42) := ⟨_, rfl⟩
  have hO : w2.heap[w1.heap.size]? = some (.cells #[.slice (some ⟨b, 0, none⟩) k cap, .slice (some ⟨g, 0, none⟩) m m] 42 (0, 0)) := by rw [hw2]; exact heap_alloc_new _ _
  have hb12 : Below w1.heap.size w1 w2 := by rw [hw2]; exact (Below.refl _ _).alloc (Nat.le_refl _) _
  rw [← hw2]
  have hB2 : Below w.heap.size w w2 := HB.out.trans (hb12.mono HB.out.size)
  have hl : w1.heap.size < w2.heap.size := (Array.getElem?_eq_some_iff.1 hO).1
  refine (concat_any S (vl (fun i => i) (fun i => k + i) k c S) w1.heap.size b g k m cap m w2 (by omega) (by omega) (by omega) (Nat.lt_of_lt_of_le hb hB2.size) (Nat.lt_of_lt_of_le HR.out.lt hb12.size) hl (cell_of_row _ _ _ _ 42 _ hO) (cell_of_row _ _ _ _ 42 _ hO) (fun i hi => (hB2.cell (p := ⟨b, i, none⟩) hb).trans (HC.out i hi)) (fun i hi => (HR.out.below hb12 HR.out.lt).cell i hi)).mono ?_
  rintro e w3 ⟨v, rfl, ho, hb3⟩
  have HO : Hid (w3.ownsRow w.heap.size 9 1 v (k + m) (whl S k m c)) := by
    refine ⟨ho.1, ?_⟩
    rcases ho.2 with h2 | ⟨g', cap', cur, hv, hg', rest⟩
    · exact .inl h2
    · exact .inr ⟨g', cap', cur, hv, Nat.le_trans hB2.size hg', rest⟩
  have HB3 : Hid (Below w.heap.size w w3) := hB2.trans (hb3.mono hB2.size)
  clear ho hb3 hO hb12 hB2 hw2 hl
  go_wp2
  go_ret
  exact ⟨v, rfl, HO.out, HB3.out⟩
end Go.Proofs.YtadinjaocnlglaaGreatDoor
