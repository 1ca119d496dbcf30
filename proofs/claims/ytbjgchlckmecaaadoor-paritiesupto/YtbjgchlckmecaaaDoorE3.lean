/-
  The walks of vault.Faults, sameMarks, told.
-/
import Derived.Test.YtbjgchlckmecaaaDoorE2
namespace Go.Proofs.YtbjgchlckmecaaaDoor
open Go.RowKit
set_option maxHeartbeats 400000
theorem faults_nil (w : World) :
    Calls Tryd.prog 25 #[.nilIface] w fun e w' => e = .returned (.slice (some ⟨w.heap.size, 0, none⟩) 0 0) ∧ Below w.heap.size w w' := by
  have H : Hid _ := marks_nil w
  go_enter Tryd.func25, Tryd.ntmps25
  go_wp2_with fail
  refine Calls.mono H.out ?_
  rintro e w1 ⟨rfl, hB⟩
  go_wp2
  go_ret
  exact ⟨rfl, hB⟩
theorem faults_one (k i : Int) (e : Nat) (w : World) (hg : w.cell? ⟨0, 0, none⟩ = some (.iface 128 (.agg #[.pointer (some ⟨1, 40, none⟩)])))
    (he : w.heap[e]? = some (.cells #[.int .i64 k, .int .i64 i, .nilIface] 96 (0, 0))) :
    Calls Tryd.prog 25 #[.iface 94 (.pointer (some ⟨e, 0, none⟩))] w fun ev w' => ∃ g cap, ev = .returned (.slice (some ⟨g, 0, none⟩) 1 cap) ∧ w.heap.size ≤ g ∧ w'.cell? ⟨g, 0, none⟩ = some (.int .i64 k) ∧ w'.cell? ⟨g, 1, none⟩ = some (.int .i64 i) ∧ Below w.heap.size w w' := by
  have H : Hid _ := marks_one k i e w hg he
  clear hg he
  go_enter Tryd.func25, Tryd.ntmps25
  go_wp2_with fail
  refine Calls.mono H.out ?_
  rintro e w1 ⟨g, cap, rfl, h1, h2, h3, hB⟩
  go_wp2
  go_ret
  exact ⟨g, cap, rfl, h1, h2, h3, hB⟩
theorem sameM_0 (a1 a2 : Option Addr) (c1 c2 : Nat) (w : World) :
    Calls Tryd.prog 26 #[.slice a1 0 c1, .slice a2 0 c2] w fun e w' => e = .returned (.bool true) ∧ w' = w := by
  go_enter Tryd.func26, Tryd.ntmps26
  go_wp2
  refine wp_loop_rounds 1 ?_
  rw [rounds_succ]
  go_wp2
  go_ret
  exact ⟨rfl, rfl⟩
theorem sameM_1 (k i : Int) (g1 g2 c1 c2 : Nat) (w : World) (h1 : w.cell? ⟨g1, 0, none⟩ = some (.int .i64 k)) (h2 : w.cell? ⟨g1, 1, none⟩ = some (.int .i64 i)) (h3 : w.cell? ⟨g2, 0, none⟩ = some (.int .i64 k)) (h4 : w.cell? ⟨g2, 1, none⟩ = some (.int .i64 i)) :
    Calls Tryd.prog 26 #[.slice (some ⟨g1, 0, none⟩) 1 c1, .slice (some ⟨g2, 0, none⟩) 1 c2] w fun e w' => e = .returned (.bool true) ∧ Below w.heap.size w w' := by
  go_enter Tryd.func26, Tryd.ntmps26
  go_wp2
  refine wp_loop_rounds 2 ?_
  rw [rounds_succ]
  go_wp2
  go_quiet (fail)
  go_wp2
  rw [rounds_succ]
  go_wp2
  go_ret
  exact ⟨rfl, below_drewN (Below.refl _ _) _⟩
theorem told_none (w : World) :
    Calls Tryd.prog 13 #[.nilIface, .slice none 0 0] w fun e w' => e = .returned (.bool true) ∧ Below w.heap.size w w' := by
  have H : Hid _ := faults_nil w
  go_enter Tryd.func13, Tryd.ntmps13
  go_wp2_with fail
  refine Calls.mono H.out ?_
  rintro e w1 ⟨rfl, hB⟩
  go_wp2_with fail
  refine (sameM_0 _ _ _ _ _).mono ?_
  rintro e w2 ⟨rfl, rfl⟩
  go_wp2
  go_ret
  exact ⟨rfl, hB⟩
theorem told_one (k i : Int) (e g2 c2 : Nat) (w : World) (hg : w.cell? ⟨0, 0, none⟩ = some (.iface 128 (.agg #[.pointer (some ⟨1, 40, none⟩)])))
    (he : w.heap[e]? = some (.cells #[.int .i64 k, .int .i64 i, .nilIface] 96 (0, 0))) (h3 : w.cell? ⟨g2, 0, none⟩ = some (.int .i64 k)) (h4 : w.cell? ⟨g2, 1, none⟩ = some (.int .i64 i)) :
    Calls Tryd.prog 13 #[.iface 94 (.pointer (some ⟨e, 0, none⟩)), .slice (some ⟨g2, 0, none⟩) 1 c2] w fun e w' => e = .returned (.bool true) ∧ Below w.heap.size w w' := by
  have H : Hid _ := faults_one k i e w hg he
  have H3 : Hid _ := h3
  have H4 : Hid _ := h4
  have hl := block_lt_of_cell h3
  clear hg he h3 h4
  go_enter Tryd.func13, Tryd.ntmps13
  go_wp2_with fail
  refine Calls.mono H.out ?_
  rintro ev w1 ⟨g, cap, rfl, hg1, r0, r1, hB⟩
  have HR0 : Hid _ := r0
  have HR1 : Hid _ := r1
  have HB : Hid _ := hB
  clear r0 r1 hB
  go_wp2_with fail
  refine (sameM_1 k i g g2 cap c2 w1 HR0.out HR1.out ((HB.out.cell (p := ⟨g2, 0, none⟩) hl).trans H3.out) ((HB.out.cell (p := ⟨g2, 1, none⟩) hl).trans H4.out)).mono ?_
  rintro ev w2 ⟨rfl, hB2⟩
  have hB3 := HB.out.trans (hB2.mono HB.out.size)
  clear hB2
  go_wp2
  go_ret
  exact ⟨rfl, hB3⟩
end Go.Proofs.YtbjgchlckmecaaaDoor
