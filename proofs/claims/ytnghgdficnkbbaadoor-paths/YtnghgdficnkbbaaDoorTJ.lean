/-
  The walk of digest.told.
-/
import Derived.Test.YtnghgdficnkbbaaDoorTH
import Derived.WalkKit
import Derived.WalkSpells
import Derived.WalkLawsBesides
import Derived.BigRegion
import Derived.BigQuiet
import Derived.Deep.QuietTactic
import Derived.Deep.RegionWith
namespace Go.Proofs.YtnghgdficnkbbaaDoor
open Go.RowKit
theorem make32 (w : World) : (Instr.makeSlice 55 (.int .i64 0) (.int .i64 32)).run Tryd.prog w = .ok (.slice (some ⟨w.heap.size, 0, none⟩) 0 32) (w.alloc (.cells (Array.replicate 32 (.int .u8 0)) 5)) := by kernel_rfl
theorem dinfo5 : (Tryd.prog.info? 5).map (fun i => (i.zero, i.size, i.bytes)) = some (some (.int .u8 0), 1, 1) := by kernel_rfl
/-- the bytes of the first k words -/
def tl (st : Nat → Int) : Nat → List Int
  | 0 => []
  | k + 1 => tl st k ++ [st k / 16777216 % 256, st k / 65536 % 256, st k / 256 % 256, st k % 256]
theorem tl_len (st : Nat → Int) (k : Nat) : (tl st k).length = 4 * k := by
  induction k with
  | zero => rfl
  | succ k ih => simp [tl, ih]; omega
set_option maxHeartbeats 1000000 in
set_option maxRecDepth 100000 in
theorem told_any (st : Nat → Int) (w : World) :
    Calls Tryd.prog 21 #[.agg (row 8 st)] w fun e w' => e = .returned (.string (strOfNums (tl st 8))) ∧ Below w.heap.size w w' := by
  have hmk := make32
  have hA : Words ((w.alloc (Obj.cells (row 8 st) 38)).alloc (Obj.cells (Array.replicate 32 (Value.int IntKind.u8 0)) 5)) w.heap.size 8 38 st := heap_alloc2_old _ _ _
  have hld8 : (Tryd.prog.info? 38).map (·.size) = some (row 8 st).size := by rw [row_size]; exact info26
  go_enter Tryd.func21, Tryd.ntmps21
  go_wp2_with (refine wpList_load_row rfl 38 (.tmp 1) rfl w.heap.size rfl 38 (row 8 st) (0, 0) _ (heap_alloc2_old _ _ _) Tryd.underlying38 rfl hld8 ?_)
  obtain ⟨i0, hi, hz0, hz1, hz2⟩ := info_parts dinfo5
  go_loopw [8, 3] (fun i v wr => ∃ k : Nat, k ≤ 8 ∧ i = .int .i64 k ∧ v = .slice (some ⟨w.heap.size + 1, 0, none⟩) (4 * k) 32 ∧ wr.ownsRow (w.heap.size + 1) 5 1 (.slice (some ⟨w.heap.size + 1, 0, none⟩) (4 * k) 32) (4 * k) ((tl st k).map (Value.int .u8)) ∧ Below w.heap.size w wr) (fun i _ _ => 8 - (intOf i).toNat)
  case atStart =>
    refine ⟨0, by omega, rfl, rfl, ⟨rfl, Or.inr ⟨w.heap.size + 1, 32, _, rfl, Nat.le_refl _, heap_alloc2_new _ _ _, by omega, by unfold maxLen; omega, by simp, by simp [tl]⟩⟩, ((Below.refl _ _).alloc (Nat.le_refl _) _).alloc (by simp) _⟩
  case round =>
    obtain ⟨k, hk, rfl, rfl, hown, hb⟩ := hrel
    by_cases hlt : k < 8
    · have hix := fun Wx => index_row 8 38 st k hlt Wx Tryd.underlying38
      go_wp2_with (at_builtin; refine wpList_append_fits _ rfl (.tmp 11) (.tmp 23) 55 rfl (w.heap.size + 1) 5 i0 1 Tryd.underlying55 hi hz1 (w.heap.size + 1) (4 * k) 32 ((tl st k).map (Value.int .u8)) rfl (hown.alloc _) ⟨wr.heap.size, 0, none⟩ 4 4 [.int .u8 (st k / 16777216 % 256), .int .u8 (st k / 65536 % 256), .int .u8 (st k / 256 % 256), .int .u8 (st k % 256)] rfl rfl ?c1 ?c2 ?c3 ?_)
      case c1 =>
        intro j u hj
        match j, hj with
        | 0, hj => simp at hj; subst hj; simp [Addr.add]
        | 1, hj => simp at hj; subst hj; simp [Addr.add]
        | 2, hj => simp at hj; subst hj; simp [Addr.add]
        | 3, hj => simp at hj; subst hj; simp [Addr.add]
      case c2 => intro u hu; simp at hu; rcases hu with rfl | rfl | rfl | rfl <;> rfl
      case c3 => omega
      intro w' hown' hgrow
      have hb' : Below w.heap.size w w' := (hb.alloc (by have := hb.size; omega) _).grown hgrow (by have := hb.size; simp; omega) (fun k hk => by cases hk; omega)
      have hown2 : w'.ownsRow (w.heap.size + 1) 5 1 (.slice (some ⟨w.heap.size + 1, 0, none⟩) (4 * (k + 1)) 32) (4 * (k + 1)) ((tl st (k + 1)).map (Value.int .u8)) := by
        have e : 4 * (k + 1) = 4 * k + 4 := by omega
        rw [e]; simpa [tl] using hown'
      clear hown' hgrow hown hb
      go_wp2
      go_roundw
      case rel => exact ⟨k + 1, by omega, by go_num, by congr 1, hown2, hb'⟩
      case measure => simp [intOf]; omega
    · have hk8 : k = 8 := by omega
      subst hk8
      have hcv := run_convert_bytes_arg (P := Tryd.prog) wr 55 5 Tryd.underlying55 Tryd.underlying5 (w.heap.size + 1) 0 32 32 (tl st 8) (tl_len st 8) (fun i hi => by
        rw [Nat.zero_add, hown.cellAt i (by omega)]
        have hl : i < (tl st 8).length := by rw [tl_len]; omega
        rw [List.getElem?_map, List.getElem?_eq_getElem hl, List.getD_eq_getElem?_getD, List.getElem?_eq_getElem hl]; rfl) 9 Tryd.underlying9
      go_wp2
      go_ret
      exact ⟨rfl, hb⟩
end Go.Proofs.YtnghgdficnkbbaaDoor
