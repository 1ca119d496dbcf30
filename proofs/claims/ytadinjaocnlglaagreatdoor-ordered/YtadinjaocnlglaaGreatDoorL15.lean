/-
  Where this program holds the lock's functions and types.
  The walk of vaultkeep's params.
-/
import Derived.Test.YtadinjaocnlglaaGreatDoorProg
import Derived.Conc.MuLone
import Derived.KernelRfl
import Derived.Test.YtadinjaocnlglaaGreatDoorL14
import Derived.StillTailTactics
namespace Go.Proofs.YtadinjaocnlglaaGreatDoor
abbrev muN : Go.Conc.Locks.MuLink := { lock := 68, unlock := 69, ilock := 118, iunlock := 119, lockSlow := 173, unlockSlow := 176, disable := 169, enable := 171, acquire := 172, relMerge := 174, cas32 := 170, add32 := 175, tMutex := 156, tIMutex := 154, tPMutex := 218, tPIMutex := 277, tPI32 := 279, tUP := 281, tNoCopy := 151, tU32 := 152 }
theorem muL : Go.Conc.Locks.MuLib Tryz.prog muN :=
  ⟨Tryz.func68, Tryz.func69, Tryz.func118, Tryz.func119, Tryz.func169, Tryz.func171, Tryz.func172, Tryz.func174, Tryz.func170, Tryz.func175,
   Tryz.underlying154, Tryz.runUnderlying154, Tryz.sizeOf154, Tryz.isAgg154, Tryz.zeroValue154,
   Tryz.underlying156, Tryz.runUnderlying156, Tryz.sizeOf156, Tryz.isAgg156, Tryz.zeroValue156,
   Tryz.underlying218, Tryz.runUnderlying218, Tryz.sizeOf218, Tryz.isAgg218, Tryz.zeroValue218,
   Tryz.underlying277, Tryz.runUnderlying277, Tryz.sizeOf277, Tryz.isAgg277, Tryz.zeroValue277,
   Tryz.underlying279, Tryz.runUnderlying279, Tryz.sizeOf279, Tryz.isAgg279, Tryz.zeroValue279,
   Tryz.underlying281, Tryz.runUnderlying281, Tryz.sizeOf281, Tryz.isAgg281, Tryz.zeroValue281,
   Tryz.underlying151, Tryz.runUnderlying151, Tryz.sizeOf151, Tryz.isAgg151, Tryz.zeroValue151,
   Tryz.underlying21, Tryz.runUnderlying21, Tryz.sizeOf21, Tryz.isAgg21, Tryz.zeroValue21, (by kernel_rfl)⟩
end Go.Proofs.YtadinjaocnlglaaGreatDoor
namespace Go.Proofs.YtadinjaocnlglaaGreatDoor
open Go.RowKit
set_option maxRecDepth 100000
set_option maxHeartbeats 1000000
theorem pick_at (c : Int) (n : Nat) (N : Int) (w : World) (hN : N = (n : Int)) (hn : 0 < n) (hn2 : n ≤ 1000) (h0 : -9223372036854775808 ≤ c) (h1 : c ≤ 9223372036854775807) :
    Calls Tryz.prog 54 #[.int .i64 c, .int .i64 N] w fun e w' => e = .returned (.int .i64 (pk c n)) ∧ w' = w := by
  subst hN; exact pick_any c n w hn hn2 h0 h1
theorem set_heap (w : World) (g k : Nat) (v : Value) (cs : Array Value) (t : TypeId) (fr : Nat × Nat) (h : w.heap[g]? = some (.cells cs t fr)) : (w.setCell ⟨g, k, none⟩ v).heap[g]? = some (.cells (cs.setIfInBounds k v) t fr) := by
  simp [World.setCell, Array.getElem?_modify, h]
theorem set_other (w : World) (g k j : Nat) (v : Value) (h : j ≠ g) : (w.setCell ⟨g, k, none⟩ v).heap[j]? = w.heap[j]? := Below.heap_setCell _ _ _ _ (by simpa using h)
theorem still_tail_drew {P : Program} {id : Nat} {Q : Exit → Act → World → Prop} {a : Act} {w : World} {l : List Oper} (n : Nat) (hm : P.follows .mixedOrders = true) (hB : Region.lexTailB .any l.toArray n = true)
    (h : wpStill P l.toArray w.drew (fun a' => wpList P l.toArray Q (l.drop n) a' w.drew) (l.take n) a) : (Code.region id l.toArray true).wp P Q a w :=
  wp_region_still_tail n hm hB h
theorem params_any (k m c v : Int) (w : World) (k0 : -9223372036854775808 ≤ k) (k1 : k ≤ 9223372036854775807) (m0 : -9223372036854775808 ≤ m) (m1 : m ≤ 9223372036854775807) (c0 : -9223372036854775808 ≤ c) (c1 : c ≤ 9223372036854775807) (v0 : -9223372036854775808 ≤ v) (v1 : v ≤ 9223372036854775807) :
    Calls Tryz.prog 15 #[.agg #[.int .i64 k, .int .i64 m, .int .i64 c, .int .i64 v]] w fun e w' => e = .returned (pV (1 + pk k 5) (pk m 4) (1 + pk c 8) (1 + pk v 5)) ∧ Below w.heap.size w w' := by
  have P1 := pick_at k 5 5 (hN := rfl) (hn := by omega) (hn2 := by omega) (h0 := k0) (h1 := k1)
  have P2 := pick_at m 4 4 (hN := rfl) (hn := by omega) (hn2 := by omega) (h0 := m0) (h1 := m1)
  have P3 := pick_at c 8 8 (hN := rfl) (hn := by omega) (hn2 := by omega) (h0 := c0) (h1 := c1)
  have P4 := pick_at v 5 5 (hN := rfl) (hn := by omega) (hn2 := by omega) (h0 := v0) (h1 := v1)
  have HP1 : Hid _ := P1
  have HP2 : Hid _ := P2
  have HP3 : Hid _ := P3
  have HP4 : Hid _ := P4
  clear P1 P2 P3 P4
  have pk1 := pk_lt k 5 (by omega)
  have pk2 := pk_lt m 4 (by omega)
  have pk3 := pk_lt c 8 (by omega)
  have pk4 := pk_lt v 5 (by omega)
  obtain ⟨x1, e1⟩ : ∃ x : Nat, pk k 5 = x := ⟨_, rfl⟩
  obtain ⟨x2, e2⟩ : ∃ x : Nat, pk m 4 = x := ⟨_, rfl⟩
  obtain ⟨x3, e3⟩ : ∃ x : Nat, pk c 8 = x := ⟨_, rfl⟩
  obtain ⟨x4, e4⟩ : ∃ x : Nat, pk v 5 = x := ⟨_, rfl⟩
  rw [e1] at pk1 HP1 ⊢
  rw [e2] at pk2 HP2 ⊢
  rw [e3] at pk3 HP3 ⊢
  rw [e4] at pk4 HP4 ⊢
  clear e1 e2 e3 e4 k0 k1 m0 m1 c0 c1 v0 v1
  go_enter Tryz.func15, Tryz.ntmps15
  go_wp2_with fail
  obtain ⟨W, hW⟩ : ∃ W, (w.alloc (Obj.cells #[Value.int IntKind.i64 k, Value.int IntKind.i64 m, Value.int IntKind.i64 c, Value.int IntKind.i64 v] 23)).alloc (Obj.cells #[Value.int IntKind.i64 0, Value.int IntKind.i64 0, Value.int IntKind.i64 0, Value.int IntKind.i64 0] 23) = W := ⟨_, rfl⟩
  have HB : Hid (Below w.heap.size w W) := by
    show Below _ _ _
    rw [← hW]; exact ((Below.refl _ _).alloc (Nat.le_refl _) _).alloc (by simp) _
  have hO : W.heap[w.heap.size]? = some (Obj.cells #[Value.int IntKind.i64 k, Value.int IntKind.i64 m, Value.int IntKind.i64 c, Value.int IntKind.i64 v] 23) := by
    rw [← hW, heap_alloc_old _ _ (by simp)]; exact heap_alloc_new _ _
  have a0 : W.cell? ⟨w.heap.size, 0, none⟩ = some (.int .i64 k) := cell_of_row _ _ _ _ 23 _ hO
  have a1 : W.cell? ⟨w.heap.size, 1, none⟩ = some (.int .i64 m) := cell_of_row _ _ _ _ 23 _ hO
  have a2 : W.cell? ⟨w.heap.size, 2, none⟩ = some (.int .i64 c) := cell_of_row _ _ _ _ 23 _ hO
  have a3 : W.cell? ⟨w.heap.size, 3, none⟩ = some (.int .i64 v) := cell_of_row _ _ _ _ 23 _ hO
  have hN : W.heap[w.heap.size + 1]? = some (Obj.cells #[Value.int IntKind.i64 0, Value.int IntKind.i64 0, Value.int IntKind.i64 0, Value.int IntKind.i64 0] 23) := by
    rw [← hW]; have := heap_alloc_new (w.alloc (Obj.cells #[Value.int IntKind.i64 k, Value.int IntKind.i64 m, Value.int IntKind.i64 c, Value.int IntKind.i64 v] 23)) (Obj.cells #[Value.int IntKind.i64 0, Value.int IntKind.i64 0, Value.int IntKind.i64 0, Value.int IntKind.i64 0] 23)
    simpa using this
  rw [hW]
  clear hW hO
  refine still_tail_drew 16 (by kernel_rfl) (by kernel_rfl) ?_
  simp only [List.take_succ_cons, List.take_zero, List.drop_succ_cons, List.drop_zero]
  repeat still_step
  still_call (HP1.out _)
  repeat still_step
  still_call (HP2.out _)
  repeat still_step
  still_call (HP3.out _)
  repeat still_step
  still_call (HP4.out _)
  repeat still_step
  refine wpStill_nil ?_
  have t0 : W.cell? ⟨w.heap.size + 1, 0, none⟩ = some (.int .i64 0) := cell_of_row _ _ _ _ 23 _ hN
  have t1 : W.cell? ⟨w.heap.size + 1, 1, none⟩ = some (.int .i64 0) := cell_of_row _ _ _ _ 23 _ hN
  have t2 : W.cell? ⟨w.heap.size + 1, 2, none⟩ = some (.int .i64 0) := cell_of_row _ _ _ _ 23 _ hN
  have t3 : W.cell? ⟨w.heap.size + 1, 3, none⟩ = some (.int .i64 0) := cell_of_row _ _ _ _ 23 _ hN
  have f0 := frozen_of_row W (w.heap.size + 1) 0 _ 23 hN
  have f1 := frozen_of_row W (w.heap.size + 1) 1 _ 23 hN
  have f2 := frozen_of_row W (w.heap.size + 1) 2 _ 23 hN
  have f3 := frozen_of_row W (w.heap.size + 1) 3 _ 23 hN
  go_wp2
  have hR : ((((W.setCell ⟨w.heap.size + 1, 0, none⟩ (.int .i64 (1 + x1))).setCell ⟨w.heap.size + 1, 1, none⟩ (.int .i64 x2)).setCell ⟨w.heap.size + 1, 2, none⟩ (.int .i64 (1 + x3))).setCell ⟨w.heap.size + 1, 3, none⟩ (.int .i64 (1 + x4))).heap[w.heap.size + 1]? = some (.cells #[.int .i64 (1 + x1), .int .i64 x2, .int .i64 (1 + x3), .int .i64 (1 + x4)] 23 (0, 0)) := by
    exact set_heap _ _ 3 _ _ _ _ (set_heap _ _ 2 _ _ _ _ (set_heap _ _ 1 _ _ _ _ (set_heap _ _ 0 _ _ _ _ hN)))
  refine bodyPost_ret (v := .agg #[.int .i64 (1 + x1), .int .i64 x2, .int .i64 (1 + x3), .int .i64 (1 + x4)]) ?_ rfl ?_
  · exact results_cell_row Tryz.results15 _ _ (w.heap.size + 1) 23 _ (0, 0) _ rfl hR Tryz.underlying23 rfl (by kernel_rfl)
  · refine ⟨?_, ?_⟩
    · simp [pV]
    · exact ((((HB.out.setCell (by simp) _).setCell (by simp) _).setCell (by simp) _).setCell (by simp) _).drew
end Go.Proofs.YtadinjaocnlglaaGreatDoor
