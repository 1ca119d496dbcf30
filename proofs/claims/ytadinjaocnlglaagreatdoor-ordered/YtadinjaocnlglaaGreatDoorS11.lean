/-
  The walk of strings.Clone.
-/
import Derived.Test.YtadinjaocnlglaaGreatDoorS10
import Derived.Lib.UnsafeStr
import Derived.Lib.BufferWrite
import Derived.Lib.Strings
import Derived.WalkKit
import Derived.WalkSpells
import Derived.WalkLawsBesides
import Derived.BigRegion
import Derived.BigQuiet
import Derived.Deep.QuietTactic
import Derived.Deep.RegionWith
import Derived.Deep.RegionHeld3
namespace Go.Proofs.YtadinjaocnlglaaGreatDoor
open Go.RowKit
set_option maxRecDepth 100000
theorem cells5 : Tryz.prog.cellsOf 5 = 1 := by kernel_rfl
theorem size5 : (Tryz.prog.info? 5).map (·.size) = some 1 := by kernel_rfl
set_option maxHeartbeats 1000000 in
set_option maxRecDepth 100000 in
theorem clone_any (s : ByteArray) (w : World) (hs : s.size ≤ 140737488351232) :
    Calls Tryz.prog 196 #[.string s] w fun e w' => e = .returned (.string s) ∧ Below w.heap.size w w' := by
  by_cases h0 : s.size = 0
  · obtain rfl : s = ⟨#[]⟩ := ByteArray.ext (Array.eq_empty_of_size_eq_zero h0)
    go_enter Tryz.func196, Tryz.ntmps196
    go_wp2
    go_ret
    exact ⟨rfl, Below.refl _ _⟩
  · have hmk := run_make_row' (P := Tryz.prog) 165 5 (.int .u8 0) 1 Tryz.underlying165 info5 rfl .i64 .i64 s.size (by omega) (by omega)
    obtain ⟨M, hM⟩ : ∃ M, M = madeCells #[Value.int .u8 0] s.size := ⟨_, rfl⟩
    have hMs : M.size = s.size := by rw [hM, size_madeCells]
    rw [← hM] at hmk
    clear hM
    have hcp := Lib.run_copy_row_string (P := Tryz.prog) (w.alloc (.cells M 5)) 165 9 3 5 w.heap.size 0 s.size s.size s M 5 Tryz.underlying165 size5 (heap_alloc_new w _) (Nat.le_refl _) (by omega)
    obtain ⟨Y, hY⟩ : ∃ Y, Y = (M.toList.take 0 ++ Lib.byteCells s.data.toList ++ M.toList.drop (0 + s.size)).toArray := ⟨_, rfl⟩
    rw [← hY] at hcp
    have hYl : Y.toList = Lib.byteCells s.data.toList := by
      rw [hY, List.toList_toArray, List.take_zero, List.nil_append, List.drop_of_length_le (by rw [Array.length_toList]; omega), List.append_nil]
    have hYs : Y.size = s.size := by rw [← Array.length_toList, hYl, Lib.byteCells_length]; simp
    have hgY : ((w.alloc (.cells M 5)).setRow w.heap.size Y).heap[w.heap.size]? = some (.cells Y 5 (0, 0)) := setRow_heap _ _ M _ 5 (0, 0) (heap_alloc_new w _)
    have hsl : s.data.toList.length = s.size := by simp
    have hus := Lib.run_unsafeString_row (P := Tryz.prog) ((w.alloc (.cells M 5)).setRow w.heap.size Y) 352 3 9 5 Tryz.underlying352 cells5 w.heap.size Y.size (by unfold World.shape?; rw [hgY]) s.data.toList (fun e => h0 (by rw [← hsl, e]; rfl)) (by omega) (by omega)
      (fun j x hx => by
        have hadd : (⟨w.heap.size, 0, none⟩ : Addr).add j = ⟨w.heap.size, j, none⟩ := by unfold Addr.add; split <;> simp_all
        rw [hadd, cell_of_row _ _ _ _ 5 (0, 0) hgY, ← Array.getElem?_toList, hYl]
        simp [Lib.byteCells, hx])
    rw [hsl] at hus
    clear hY hYl hYs hsl
    have hB : Below w.heap.size w ((w.alloc (.cells M 5)).setRow w.heap.size Y) := ((Below.refl _ w).alloc (Nat.le_refl _) _).trans ⟨rfl, rfl, rfl, by simp, fun k hk => setRow_other _ _ _ _ (by omega)⟩
    go_enter Tryz.func196, Tryz.ntmps196
    go_wp2
    go_ret
    exact ⟨rfl, Lib.below_freeze hB (p := ⟨w.heap.size, 0, none⟩) (Nat.le_refl _) _⟩
set_option maxHeartbeats 400000 in
theorem sclone_any (s : ByteArray) (w : World) (hs : s.size ≤ 140737488351232) :
    Calls Tryz.prog 150 #[.string s] w fun e w' => e = .returned (.string s) ∧ Below w.heap.size w w' := by
  have H : Hid _ := clone_any s w hs
  go_enter Tryz.func150, Tryz.ntmps150
  go_wp2_with fail
  refine Calls.mono H.out ?_
  rintro e w1 ⟨rfl, hB⟩
  go_wp2
  go_ret
  exact ⟨rfl, hB⟩
end Go.Proofs.YtadinjaocnlglaaGreatDoor
