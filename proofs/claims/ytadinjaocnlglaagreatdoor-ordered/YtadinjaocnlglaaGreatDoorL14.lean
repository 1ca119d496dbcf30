/-
  The walks of layout.CheckParams (nothing refused) and of vaultkeep's params.
  The walks of draft's New, checkState (neither closed nor broken), letGo.
  A text's bytes put behind a row that is owned, inside a region that draws.
-/
import Derived.Test.YtadinjaocnlglaaGreatDoorS17
import Derived.Test.YtadinjaocnlglaaGreatDoorL4
import Derived.Test.YtadinjaocnlglaaGreatDoorS10
import Derived.Lib.AppendStr
import Derived.Deep.RegionLaw
namespace Go.Proofs.YtadinjaocnlglaaGreatDoor
open Go.RowKit
set_option maxRecDepth 100000
set_option maxHeartbeats 1000000
theorem lcheck_ok (K M C V : Nat) (w : World) (hK : 1 ≤ K) (hKM : K + M ≤ 255) (hC : 1 ≤ C) (hC2 : C ≤ 64) (hV : 1 ≤ V) (hV2 : V ≤ 16) :
    Calls Tryz.prog 140 #[pV K M C V] w fun e w' => e = .returned .nilIface ∧ Below w.heap.size w w' := by
  have c1 : (1 : Int) ≤ (C : Int) := by omega
  have c2 : (C : Int) ≤ 64 := by omega
  have v1 : (1 : Int) ≤ (V : Int) := by omega
  have v2 : (V : Int) ≤ 16 := by omega
  unfold pV
  go_enter Tryz.func140, Tryz.ntmps140
  go_wp2_with fail
  refine (checkParams_ok K M _ hK hKM).mono ?_
  rintro e w' ⟨rfl, rfl⟩
  go_wp2
  go_ret
  exact ⟨rfl, (Below.refl _ _).alloc (Nat.le_refl _) _⟩
end Go.Proofs.YtadinjaocnlglaaGreatDoor
namespace Go.Proofs.YtadinjaocnlglaaGreatDoor
open Go.RowKit
set_option maxRecDepth 100000
set_option maxHeartbeats 1000000
theorem state_ok (g : Nat) (w : World) (h8 : w.cell? ⟨g, 8, none⟩ = some (.bool false)) (h11 : w.cell? ⟨g, 11, none⟩ = some (.bool false)) :
    Calls Tryz.prog 148 #[.pointer (some ⟨g, 0, none⟩)] w fun e w' => e = .returned .nilIface ∧ w' = w := by
  go_enter Tryz.func148, Tryz.ntmps148
  go_wp2
  go_ret
  exact ⟨rfl, rfl⟩
theorem letGo_any (g : Nat) (w : World) (v4 v5 : Value) (h4 : w.cell? ⟨g, 4, none⟩ = some v4) (h5 : w.cell? ⟨g, 5, none⟩ = some v5) (hf : ∀ k, w.frozen? ⟨g, k, none⟩ = false) :
    Calls Tryz.prog 152 #[.pointer (some ⟨g, 0, none⟩)] w fun e w' => e = .returned (.tuple #[]) ∧ w' = (w.setCell ⟨g, 4, none⟩ (.map none)).setCell ⟨g, 5, none⟩ (.pointer none) := by
  have f4 := hf 4
  have f5 := hf 5
  go_enter Tryz.func152, Tryz.ntmps152
  go_wp2
  go_end0
  exact ⟨rfl, rfl⟩
/-- a Draft's cells -/
def dC (K M C V : Nat) (obj last : Value) (n len : Nat) : Array Value :=
  #[.int .i64 K, .int .i64 M, .int .i64 C, .int .i64 V, obj, last, .int .i64 n, .int .i64 len, .bool false, .int .i64 0, .int .i64 0, .bool false]
theorem new_ok (K M C V : Nat) (w : World) (hK : 1 ≤ K) (hKM : K + M ≤ 255) (hC : 1 ≤ C) (hC2 : C ≤ 64) (hV : 1 ≤ V) (hV2 : V ≤ 16) :
    Calls Tryz.prog 89 #[pV K M C V] w fun e w' => ∃ m, e = .returned (.tuple #[.pointer (some ⟨m + 1, 0, none⟩), .nilIface]) ∧ w.heap.size ≤ m ∧ w'.heap[m]? = some (.map #[] 0) ∧ w'.heap[m + 1]? = some (.cells (dC K M C V (.map (some m)) (.pointer none) 0 0) 252 (0, 0)) ∧ w'.heap.size = m + 2 ∧ Below w.heap.size w w' := by
  have H : Hid (∀ W, _) := fun W => lcheck_ok K M C V W hK hKM hC hC2 hV hV2
  unfold pV at H ⊢
  have hmm := @run_makeMap Tryz.prog
  go_enter Tryz.func89, Tryz.ntmps89
  go_wp2_with fail
  refine Calls.mono (H.out _) ?_
  rintro e w' ⟨rfl, hb1⟩
  have hl : w.heap.size < (w.alloc (Obj.cells #[Value.int IntKind.i64 K, Value.int IntKind.i64 M, Value.int IntKind.i64 C, Value.int IntKind.i64 V] 23)).heap.size := by simp
  have hO := heap_alloc_new w (Obj.cells #[Value.int IntKind.i64 K, Value.int IntKind.i64 M, Value.int IntKind.i64 C, Value.int IntKind.i64 V] 23)
  have c0 : w'.cell? ⟨w.heap.size, 0, none⟩ = some (.int .i64 K) := (hb1.cell (p := ⟨w.heap.size, 0, none⟩) hl).trans (cell_of_row _ _ _ _ 23 _ hO)
  have c1 : w'.cell? ⟨w.heap.size, 1, none⟩ = some (.int .i64 M) := (hb1.cell (p := ⟨w.heap.size, 1, none⟩) hl).trans (cell_of_row _ _ _ _ 23 _ hO)
  have c2 : w'.cell? ⟨w.heap.size, 2, none⟩ = some (.int .i64 C) := (hb1.cell (p := ⟨w.heap.size, 2, none⟩) hl).trans (cell_of_row _ _ _ _ 23 _ hO)
  have c3 : w'.cell? ⟨w.heap.size, 3, none⟩ = some (.int .i64 V) := (hb1.cell (p := ⟨w.heap.size, 3, none⟩) hl).trans (cell_of_row _ _ _ _ 23 _ hO)
  go_wp2
  go_ret2
  refine ⟨w'.heap.size, ?_, ?_, ?_, ?_, ?_, ?_⟩
  · simp
  · have := hb1.size; omega
  · rw [heap_alloc_old _ _ (by simp)]; exact heap_alloc_new _ _
  · have := heap_alloc_new (w'.alloc (.map #[] 0)) (.cells (dC K M C V (.map (some w'.heap.size)) (.pointer none) 0 0) 252)
    simpa [dC] using this
  · simp
  · have hB : Below w.heap.size w w' := ((Below.refl _ _).alloc (Nat.le_refl _) _).trans (hb1.mono (by omega))
    exact (hB.alloc hB.size _).alloc (by have := hB.size; simp; omega) _
end Go.Proofs.YtadinjaocnlglaaGreatDoor
namespace Go.Proofs.YtadinjaocnlglaaGreatDoor
open Go.RowKit
set_option maxRecDepth 100000
set_option maxHeartbeats 1000000
theorem step_text_own {P : Program} {ops : Array Oper} {o : Oper} {a : Act} {w : World} {K : Act → World → Prop} {Q : Exit → Act → World → Prop} {E : Prop}
    (plain : o.guard = none) (dst src : Operand) (ts tt e : TypeId) (shape : o.op = Op.call { callee := Callee.builtin Builtin.append, args := #[dst, src], argTypes := #[ts, tt] })
    (bytesOf : P.underlying ts = some (.slice e)) (textOf : P.underlying tt = some .string) (info : TypeInfo) (known : P.info? e = some info) (zero : info.zero = some (.int .u8 0)) (one : info.size = 1) (one' : info.bytes = 1)
    (base n : Nat) (v : Value) (xs : List Value) (s : ByteArray) (at0 : a.eval dst = v) (at1 : a.eval src = .string s) (own : w.ownsRow base e 1 v n xs) (small : n + s.size ≤ 1000000) (old : base ≤ w.heap.size)
    (next : ∀ v' w', w'.ownsRow base e 1 v' (n + s.size) (xs ++ Lib.strCells s) → w.grownBy w' v.ownBlock → K (a.put o.dst v') w') :
    if Region.wanted o (yielded ops a.tmps) = true then Oper.wp P o a w K Q else E := by
  obtain ⟨v', w', run, r1, r2, _⟩ := Lib.run_append_own_string (P := P) w base ts tt o.type e info bytesOf textOf known zero one one' v n xs own s (by simp only [maxLen]; omega) (by omega) old
  rw [if_pos (show Region.wanted o (yielded ops a.tmps) = true by simp [Region.wanted, plain])]
  unfold Oper.wp
  simp [execOp, shape, resolve, invoke, builtin, at0, at1, run, Result.andThen]
  exact next v' w' r1 r2
end Go.Proofs.YtadinjaocnlglaaGreatDoor
