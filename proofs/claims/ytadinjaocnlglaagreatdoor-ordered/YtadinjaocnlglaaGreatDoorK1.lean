/-
  The lock around a Writer's and a Vault's methods: what the method within answers.
-/
import Derived.Test.YtadinjaocnlglaaGreatDoorL15
import Derived.Defers
namespace Go.Proofs.YtadinjaocnlglaaGreatDoor
open Go.RowKit Go.MuLone
set_option maxRecDepth 100000
set_option maxHeartbeats 1000000
/-- the cells of what holds a lock -/
def wC (x : Int) (g : Nat) : Array Value := #[.int .i32 x, .int .u32 0, .pointer (some ⟨g, 0, none⟩)]
/-- behind a call within, the lock is given back -/
def Lk (T wb g : Nat) (Q : Value → World → Prop) (v : Value) (w' : World) : Prop := w'.heap[wb]? = some (.cells (wC 1 g) T (0, 0)) ∧ Q v (w'.setCell ⟨wb, 0, none⟩ (.int .i32 0))
theorem lk_begin (wb g : Nat) (s : ByteArray) (w : World) (Q : Value → World → Prop) (hwb : w.heap[wb]? = some (.cells (wC 0 g) 180 (0, 0)))
    (H : Calls Tryz.prog 101 #[.pointer (some ⟨g, 0, none⟩), .string s] (w.setCell ⟨wb, 0, none⟩ (.int .i32 1)) fun e w' => ∃ v, e = .returned v ∧ Lk 180 wb g Q v w') :
    Calls Tryz.prog 56 #[.pointer (some ⟨wb, 0, none⟩), .string s] w fun e w' => ∃ v, e = .returned v ∧ Q v w' := by
  have h0 : w.cell? ⟨wb, 0, none⟩ = some (.int .i32 0) := cell_of_row _ _ _ _ 180 _ hwb
  have f0 : w.frozen? ⟨wb, 0, none⟩ = false := frozen_of_row _ _ _ _ 180 hwb
  have HL : Hid _ := lock_free muL ⟨wb, 0, none⟩ w h0 f0
  obtain ⟨W, hW⟩ : ∃ W, w.setCell ⟨wb, 0, none⟩ (.int .i32 1) = W := ⟨_, rfl⟩
  have hwW : W.heap[wb]? = some (.cells (wC 1 g) 180 (0, 0)) := by rw [← hW]; have := set_heap w wb 0 (.int .i32 1) _ _ _ hwb; simpa [wC] using this
  have c2 : W.cell? ⟨wb, 2, none⟩ = some (.pointer (some ⟨g, 0, none⟩)) := cell_of_row _ _ _ _ 180 _ hwW
  rw [hW] at HL H
  have HD : Hid _ := H
  clear hW H hwW
  go_enter_defers Tryz.func56, Tryz.ntmps56
  go_wp2_with fail
  refine Calls.mono HL.out ?_
  rintro e w1 ⟨rfl, rfl⟩
  go_wp2_with fail
  refine Calls.mono HD.out ?_
  rintro e w2 ⟨v, rfl, hw2, hQ⟩
  go_wp2
  refine leaves_cons (f := 69) (args := #[.pointer (some ⟨wb, 0, none⟩)]) (by simp) (by simp [go_sem]) ?_
  refine (unlock_deferred muL ⟨wb, 0, none⟩ .returning w2 (cell_of_row _ _ _ _ 180 _ hw2) (frozen_of_row _ _ _ _ 180 hw2)).mono ?_
  rintro e u' w3 ⟨rfl, rfl, rfl⟩
  exact ⟨_, results_tmp rfl _ _ _, v, rfl, hQ⟩
theorem lk_write (wb g : Nat) (s : ByteArray) (w : World) (Q : Value → World → Prop) (hwb : w.heap[wb]? = some (.cells (wC 0 g) 180 (0, 0)))
    (H : Calls Tryz.prog 102 #[.pointer (some ⟨g, 0, none⟩), .string s] (w.setCell ⟨wb, 0, none⟩ (.int .i32 1)) fun e w' => ∃ a b, e = .returned (.tuple #[a, b]) ∧ Lk 180 wb g Q (.tuple #[a, b]) w') :
    Calls Tryz.prog 57 #[.pointer (some ⟨wb, 0, none⟩), .string s] w fun e w' => ∃ a b, e = .returned (.tuple #[a, b]) ∧ Q (.tuple #[a, b]) w' := by
  have h0 : w.cell? ⟨wb, 0, none⟩ = some (.int .i32 0) := cell_of_row _ _ _ _ 180 _ hwb
  have f0 : w.frozen? ⟨wb, 0, none⟩ = false := frozen_of_row _ _ _ _ 180 hwb
  have HL : Hid _ := lock_free muL ⟨wb, 0, none⟩ w h0 f0
  obtain ⟨W, hW⟩ : ∃ W, w.setCell ⟨wb, 0, none⟩ (.int .i32 1) = W := ⟨_, rfl⟩
  have hwW : W.heap[wb]? = some (.cells (wC 1 g) 180 (0, 0)) := by rw [← hW]; have := set_heap w wb 0 (.int .i32 1) _ _ _ hwb; simpa [wC] using this
  have c2 : W.cell? ⟨wb, 2, none⟩ = some (.pointer (some ⟨g, 0, none⟩)) := cell_of_row _ _ _ _ 180 _ hwW
  rw [hW] at HL H
  have HD : Hid _ := H
  clear hW H hwW
  go_enter_defers Tryz.func57, Tryz.ntmps57
  go_wp2_with fail
  refine Calls.mono HL.out ?_
  rintro e w1 ⟨rfl, rfl⟩
  go_wp2_with fail
  refine Calls.mono HD.out ?_
  rintro e w2 ⟨a, b, rfl, hw2, hQ⟩
  go_wp2
  refine leaves_cons (f := 69) (args := #[.pointer (some ⟨wb, 0, none⟩)]) (by simp) (by simp [go_sem]) ?_
  refine (unlock_deferred muL ⟨wb, 0, none⟩ .returning w2 (cell_of_row _ _ _ _ 180 _ hw2) (frozen_of_row _ _ _ _ 180 hw2)).mono ?_
  rintro e u' w3 ⟨rfl, rfl, rfl⟩
  exact ⟨_, results_tmp2 rfl _ _ _, a, b, rfl, hQ⟩
theorem lk_close (wb g : Nat) (w : World) (Q : Value → World → Prop) (hwb : w.heap[wb]? = some (.cells (wC 0 g) 180 (0, 0)))
    (H : Calls Tryz.prog 103 #[.pointer (some ⟨g, 0, none⟩)] (w.setCell ⟨wb, 0, none⟩ (.int .i32 1)) fun e w' => ∃ a b c, e = .returned (.tuple #[a, b, c]) ∧ Lk 180 wb g Q (.tuple #[a, b, c]) w') :
    Calls Tryz.prog 58 #[.pointer (some ⟨wb, 0, none⟩)] w fun e w' => ∃ a b c, e = .returned (.tuple #[a, b, c]) ∧ Q (.tuple #[a, b, c]) w' := by
  have h0 : w.cell? ⟨wb, 0, none⟩ = some (.int .i32 0) := cell_of_row _ _ _ _ 180 _ hwb
  have f0 : w.frozen? ⟨wb, 0, none⟩ = false := frozen_of_row _ _ _ _ 180 hwb
  have HL : Hid _ := lock_free muL ⟨wb, 0, none⟩ w h0 f0
  obtain ⟨W, hW⟩ : ∃ W, w.setCell ⟨wb, 0, none⟩ (.int .i32 1) = W := ⟨_, rfl⟩
  have hwW : W.heap[wb]? = some (.cells (wC 1 g) 180 (0, 0)) := by rw [← hW]; have := set_heap w wb 0 (.int .i32 1) _ _ _ hwb; simpa [wC] using this
  have c2 : W.cell? ⟨wb, 2, none⟩ = some (.pointer (some ⟨g, 0, none⟩)) := cell_of_row _ _ _ _ 180 _ hwW
  rw [hW] at HL H
  have HD : Hid _ := H
  clear hW H hwW
  go_enter_defers Tryz.func58, Tryz.ntmps58
  go_wp2_with fail
  refine Calls.mono HL.out ?_
  rintro e w1 ⟨rfl, rfl⟩
  go_wp2_with fail
  refine Calls.mono HD.out ?_
  rintro e w2 ⟨a, b, c, rfl, hw2, hQ⟩
  go_wp2
  refine leaves_cons (f := 69) (args := #[.pointer (some ⟨wb, 0, none⟩)]) (by simp) (by simp [go_sem]) ?_
  refine (unlock_deferred muL ⟨wb, 0, none⟩ .returning w2 (cell_of_row _ _ _ _ 180 _ hw2) (frozen_of_row _ _ _ _ 180 hw2)).mono ?_
  rintro e u' w3 ⟨rfl, rfl, rfl⟩
  exact ⟨_, results_tmp3 rfl _ _ _, a, b, c, rfl, hQ⟩
theorem lk_root (wb g : Nat) (w : World) (Q : Value → World → Prop) (hwb : w.heap[wb]? = some (.cells (wC 0 g) 159 (0, 0)))
    (H : Calls Tryz.prog 71 #[.pointer (some ⟨g, 0, none⟩)] (w.setCell ⟨wb, 0, none⟩ (.int .i32 1)) fun e w' => ∃ v, e = .returned v ∧ Lk 159 wb g Q v w') :
    Calls Tryz.prog 24 #[.pointer (some ⟨wb, 0, none⟩)] w fun e w' => ∃ v, e = .returned v ∧ Q v w' := by
  have h0 : w.cell? ⟨wb, 0, none⟩ = some (.int .i32 0) := cell_of_row _ _ _ _ 159 _ hwb
  have f0 : w.frozen? ⟨wb, 0, none⟩ = false := frozen_of_row _ _ _ _ 159 hwb
  have HL : Hid _ := lock_free muL ⟨wb, 0, none⟩ w h0 f0
  obtain ⟨W, hW⟩ : ∃ W, w.setCell ⟨wb, 0, none⟩ (.int .i32 1) = W := ⟨_, rfl⟩
  have hwW : W.heap[wb]? = some (.cells (wC 1 g) 159 (0, 0)) := by rw [← hW]; have := set_heap w wb 0 (.int .i32 1) _ _ _ hwb; simpa [wC] using this
  have c2 : W.cell? ⟨wb, 2, none⟩ = some (.pointer (some ⟨g, 0, none⟩)) := cell_of_row _ _ _ _ 159 _ hwW
  rw [hW] at HL H
  have HD : Hid _ := H
  clear hW H hwW
  go_enter_defers Tryz.func24, Tryz.ntmps24
  go_wp2_with fail
  refine Calls.mono HL.out ?_
  rintro e w1 ⟨rfl, rfl⟩
  go_wp2_with fail
  refine Calls.mono HD.out ?_
  rintro e w2 ⟨v, rfl, hw2, hQ⟩
  go_wp2
  refine leaves_cons (f := 69) (args := #[.pointer (some ⟨wb, 0, none⟩)]) (by simp) (by simp [go_sem]) ?_
  refine (unlock_deferred muL ⟨wb, 0, none⟩ .returning w2 (cell_of_row _ _ _ _ 159 _ hw2) (frozen_of_row _ _ _ _ 159 hw2)).mono ?_
  rintro e u' w3 ⟨rfl, rfl, rfl⟩
  exact ⟨_, results_tmp rfl _ _ _, v, rfl, hQ⟩
theorem lk_objects (wb g : Nat) (w : World) (Q : Value → World → Prop) (hwb : w.heap[wb]? = some (.cells (wC 0 g) 159 (0, 0)))
    (H : Calls Tryz.prog 72 #[.pointer (some ⟨g, 0, none⟩)] (w.setCell ⟨wb, 0, none⟩ (.int .i32 1)) fun e w' => ∃ v, e = .returned v ∧ Lk 159 wb g Q v w') :
    Calls Tryz.prog 25 #[.pointer (some ⟨wb, 0, none⟩)] w fun e w' => ∃ v, e = .returned v ∧ Q v w' := by
  have h0 : w.cell? ⟨wb, 0, none⟩ = some (.int .i32 0) := cell_of_row _ _ _ _ 159 _ hwb
  have f0 : w.frozen? ⟨wb, 0, none⟩ = false := frozen_of_row _ _ _ _ 159 hwb
  have HL : Hid _ := lock_free muL ⟨wb, 0, none⟩ w h0 f0
  obtain ⟨W, hW⟩ : ∃ W, w.setCell ⟨wb, 0, none⟩ (.int .i32 1) = W := ⟨_, rfl⟩
  have hwW : W.heap[wb]? = some (.cells (wC 1 g) 159 (0, 0)) := by rw [← hW]; have := set_heap w wb 0 (.int .i32 1) _ _ _ hwb; simpa [wC] using this
  have c2 : W.cell? ⟨wb, 2, none⟩ = some (.pointer (some ⟨g, 0, none⟩)) := cell_of_row _ _ _ _ 159 _ hwW
  rw [hW] at HL H
  have HD : Hid _ := H
  clear hW H hwW
  go_enter_defers Tryz.func25, Tryz.ntmps25
  go_wp2_with fail
  refine Calls.mono HL.out ?_
  rintro e w1 ⟨rfl, rfl⟩
  go_wp2_with fail
  refine Calls.mono HD.out ?_
  rintro e w2 ⟨v, rfl, hw2, hQ⟩
  go_wp2
  refine leaves_cons (f := 69) (args := #[.pointer (some ⟨wb, 0, none⟩)]) (by simp) (by simp [go_sem]) ?_
  refine (unlock_deferred muL ⟨wb, 0, none⟩ .returning w2 (cell_of_row _ _ _ _ 159 _ hw2) (frozen_of_row _ _ _ _ 159 hw2)).mono ?_
  rintro e u' w3 ⟨rfl, rfl, rfl⟩
  exact ⟨_, results_tmp rfl _ _ _, v, rfl, hQ⟩
theorem lk_unpack (wb g : Nat) (w : World) (Q : Value → World → Prop) (hwb : w.heap[wb]? = some (.cells (wC 0 g) 159 (0, 0)))
    (H : Calls Tryz.prog 73 #[.pointer (some ⟨g, 0, none⟩)] (w.setCell ⟨wb, 0, none⟩ (.int .i32 1)) fun e w' => ∃ a b, e = .returned (.tuple #[a, b]) ∧ Lk 159 wb g Q (.tuple #[a, b]) w') :
    Calls Tryz.prog 27 #[.pointer (some ⟨wb, 0, none⟩)] w fun e w' => ∃ a b, e = .returned (.tuple #[a, b]) ∧ Q (.tuple #[a, b]) w' := by
  have h0 : w.cell? ⟨wb, 0, none⟩ = some (.int .i32 0) := cell_of_row _ _ _ _ 159 _ hwb
  have f0 : w.frozen? ⟨wb, 0, none⟩ = false := frozen_of_row _ _ _ _ 159 hwb
  have HL : Hid _ := lock_free muL ⟨wb, 0, none⟩ w h0 f0
  obtain ⟨W, hW⟩ : ∃ W, w.setCell ⟨wb, 0, none⟩ (.int .i32 1) = W := ⟨_, rfl⟩
  have hwW : W.heap[wb]? = some (.cells (wC 1 g) 159 (0, 0)) := by rw [← hW]; have := set_heap w wb 0 (.int .i32 1) _ _ _ hwb; simpa [wC] using this
  have c2 : W.cell? ⟨wb, 2, none⟩ = some (.pointer (some ⟨g, 0, none⟩)) := cell_of_row _ _ _ _ 159 _ hwW
  rw [hW] at HL H
  have HD : Hid _ := H
  clear hW H hwW
  go_enter_defers Tryz.func27, Tryz.ntmps27
  go_wp2_with fail
  refine Calls.mono HL.out ?_
  rintro e w1 ⟨rfl, rfl⟩
  go_wp2_with fail
  refine Calls.mono HD.out ?_
  rintro e w2 ⟨a, b, rfl, hw2, hQ⟩
  go_wp2
  refine leaves_cons (f := 69) (args := #[.pointer (some ⟨wb, 0, none⟩)]) (by simp) (by simp [go_sem]) ?_
  refine (unlock_deferred muL ⟨wb, 0, none⟩ .returning w2 (cell_of_row _ _ _ _ 159 _ hw2) (frozen_of_row _ _ _ _ 159 hw2)).mono ?_
  rintro e u' w3 ⟨rfl, rfl, rfl⟩
  exact ⟨_, results_tmp2 rfl _ _ _, a, b, rfl, hQ⟩
theorem lk_repair (wb g : Nat) (w : World) (Q : Value → World → Prop) (hwb : w.heap[wb]? = some (.cells (wC 0 g) 159 (0, 0)))
    (H : Calls Tryz.prog 74 #[.pointer (some ⟨g, 0, none⟩)] (w.setCell ⟨wb, 0, none⟩ (.int .i32 1)) fun e w' => ∃ a b, e = .returned (.tuple #[a, b]) ∧ Lk 159 wb g Q (.tuple #[a, b]) w') :
    Calls Tryz.prog 28 #[.pointer (some ⟨wb, 0, none⟩)] w fun e w' => ∃ a b, e = .returned (.tuple #[a, b]) ∧ Q (.tuple #[a, b]) w' := by
  have h0 : w.cell? ⟨wb, 0, none⟩ = some (.int .i32 0) := cell_of_row _ _ _ _ 159 _ hwb
  have f0 : w.frozen? ⟨wb, 0, none⟩ = false := frozen_of_row _ _ _ _ 159 hwb
  have HL : Hid _ := lock_free muL ⟨wb, 0, none⟩ w h0 f0
  obtain ⟨W, hW⟩ : ∃ W, w.setCell ⟨wb, 0, none⟩ (.int .i32 1) = W := ⟨_, rfl⟩
  have hwW : W.heap[wb]? = some (.cells (wC 1 g) 159 (0, 0)) := by rw [← hW]; have := set_heap w wb 0 (.int .i32 1) _ _ _ hwb; simpa [wC] using this
  have c2 : W.cell? ⟨wb, 2, none⟩ = some (.pointer (some ⟨g, 0, none⟩)) := cell_of_row _ _ _ _ 159 _ hwW
  rw [hW] at HL H
  have HD : Hid _ := H
  clear hW H hwW
  go_enter_defers Tryz.func28, Tryz.ntmps28
  go_wp2_with fail
  refine Calls.mono HL.out ?_
  rintro e w1 ⟨rfl, rfl⟩
  go_wp2_with fail
  refine Calls.mono HD.out ?_
  rintro e w2 ⟨a, b, rfl, hw2, hQ⟩
  go_wp2
  refine leaves_cons (f := 69) (args := #[.pointer (some ⟨wb, 0, none⟩)]) (by simp) (by simp [go_sem]) ?_
  refine (unlock_deferred muL ⟨wb, 0, none⟩ .returning w2 (cell_of_row _ _ _ _ 159 _ hw2) (frozen_of_row _ _ _ _ 159 hw2)).mono ?_
  rintro e u' w3 ⟨rfl, rfl, rfl⟩
  exact ⟨_, results_tmp2 rfl _ _ _, a, b, rfl, hQ⟩
end Go.Proofs.YtadinjaocnlglaaGreatDoor
