/-
  The walks: turning, and the words of each round.
-/
import Derived.Test.YtnghgdficnkbbaaDoorRows
import Derived.Test.YtnghgdficnkbbaaDoorTA
import Derived.WalkKit
import Derived.WalkSpells
import Derived.WalkLawsBesides
import Derived.BigRegion
import Derived.BigQuiet
import Derived.Deep.QuietTactic
namespace Go.Proofs.YtnghgdficnkbbaaDoor
open Go.RowKit

theorem index_byt (s : ByteArray) (i : Nat) (h : i < s.size) (W : World) (j : Int) (hj : j = (i : Int)) : (Instr.index 9 (.string s) (.int .i64 j)).run Tryd.prog W = .ok (.int .u8 (byt s i)) W := by
  subst hj
  rw [run_index_string W 9 s .i64 i Tryd.underlying9, dif_pos ⟨by omega, by omega⟩]
  have hs : i < s.data.toList.length := h
  have e : byt s i = ((s[i]'h).toNat : Int) := by
    unfold byt
    rw [List.getD_eq_getElem?_getD, List.getElem?_eq_getElem hs]
    rfl
  rw [e]
  rfl

set_option maxHeartbeats 400000 in
theorem rot_any (x : Int) (n : Nat) (k : Int) (w : World) (hk : bits BinOp.and IntKind.u64 (IntKind.u64.wrap k) 31 = ((32 - n : Nat) : Int)) (h1 : 1 ≤ n) (h3 : n ≤ 32) :
    Calls Tryd.prog 38 #[.int .u32 x, .int .i64 k] w fun e w' => e = .returned (.int .u32 (rotr x n)) ∧ w' = w := by
  obtain ⟨s, hs⟩ : ∃ s : Int, s = ((32 - n : Nat) : Int) := ⟨_, rfl⟩
  rw [← hs] at hk
  have h0 : 0 ≤ s := by omega
  have h2 : s ≤ 31 := by omega
  have e1 : s.toNat = 32 - n := by omega
  have e2 : (32 - s).toNat = n := by omega
  have e : bits BinOp.or IntKind.u32 (x * 2 ^ s.toNat % 4294967296) (x / 2 ^ (32 - s).toNat) = rotr x n := by rw [e1, e2, or_comm32]; rfl
  have E : Hid (bits BinOp.or IntKind.u32 (x * 2 ^ s.toNat % 4294967296) (x / 2 ^ (32 - s).toNat) = rotr x n) := e
  clear e e1 e2 hs
  go_enter Tryd.func38, Tryd.ntmps38
  go_wp2
  go_ret
  rw [E.out]
  exact ⟨rfl, rfl⟩

theorem and31 : ∀ m : Fin 31, bits BinOp.and IntKind.u64 (IntKind.u64.wrap (-((m.val : Int) + 1))) 31 = ((32 - (m.val + 1) : Nat) : Int) := by decide
/-- one contract for every constant that is met -/
theorem rot_at (x k : Int) (w : World) (h0 : -31 ≤ k) (h1 : k ≤ -1) :
    Calls Tryd.prog 38 #[.int .u32 x, .int .i64 k] w fun e w' => e = .returned (.int .u32 (rotr x (-k).toNat)) ∧ w' = w := by
  have h := and31 ⟨(-k).toNat - 1, by omega⟩
  have e1 : -((((-k).toNat - 1 : Nat) : Int) + 1) = k := by omega
  have e2 : 32 - ((-k).toNat - 1 + 1) = 32 - (-k).toNat := by omega
  simp only [e1, e2] at h
  exact rot_any x (-k).toNat k w h (by omega) (by omega)
/-- what a store of the k-th word does to the row that is being filled -/
theorem fill_step {w wr : World} {f g : Nat → Int} {k : Nat} {v : Int} (hb : Below w.heap.size w wr) (hsz : wr.heap.size = w.heap.size + 2) (hz : Words wr w.heap.size 64 69 (fun _ => 0)) (hf : Words wr (w.heap.size + 1) 64 69 f) (hfj : ∀ j, j < k → f j = g j) (hv : v = g k) :
    Below w.heap.size w (wr.setCell ⟨w.heap.size + 1, k, none⟩ (.int .u32 v)) ∧ (wr.setCell ⟨w.heap.size + 1, k, none⟩ (.int .u32 v)).heap.size = w.heap.size + 2 ∧
    Words (wr.setCell ⟨w.heap.size + 1, k, none⟩ (.int .u32 v)) w.heap.size 64 69 (fun _ => 0) ∧ ∃ f', Words (wr.setCell ⟨w.heap.size + 1, k, none⟩ (.int .u32 v)) (w.heap.size + 1) 64 69 f' ∧ ∀ j, j < k + 1 → f' j = g j := by
  refine ⟨hb.setCell (by simp) _, by simp [World.setCell]; exact hsz, hz.other _ _ (by simp), upd f k v, hf.put k v, fun j hj => ?_⟩
  unfold upd
  by_cases h : j = k
  · rw [if_pos h, h, hv]
  · rw [if_neg h]; exact hfj j (by omega)

theorem below_setRow {B : Nat} {a w : World} (h : Below B a w) (g : Nat) (hg : B ≤ g) (cs : Array Value) : Below B a (w.setRow g cs) :=
  h.trans ⟨rfl, rfl, rfl, by simp, fun k hk => setRow_other w g k cs (by omega)⟩
theorem info32 : (Tryd.prog.info? 69).map (·.size) = some 64 := by kernel_rfl
theorem info26 : (Tryd.prog.info? 38).map (·.size) = some 8 := by kernel_rfl

/-- a table of words -/
def Tab (w : World) (g : Nat) (f : Nat → Int) : Prop := ∀ k, k < 64 → w.cell? ⟨g, k, none⟩ = some (.int .u32 (f k))
theorem Tab.below {w w' : World} {g : Nat} {f : Nat → Int} (h : Tab w g f) {B : Nat} (hb : Below B w w') (hg : g < B) : Tab w' g f := fun k hk => (hb.cell (p := ⟨g, k, none⟩) hg).trans (h k hk)
theorem words_setRow {w : World} {g n : Nat} {t : TypeId} {old : Array Value} (f : Nat → Int) (h : w.heap[g]? = some (.cells old t (0, 0))) : Words (w.setRow g (row n f)) g n t f := setRow_heap w g old _ t _ h
theorem Words.setRow_other {w : World} {g n : Nat} {t : TypeId} {f : Nat → Int} (h : Words w g n t f) (k : Nat) (cs : Array Value) (hk : g ≠ k) : Words (w.setRow k cs) g n t f := by
  unfold Words; rw [Go.setRow_other w k g cs hk]; exact h
/-- a whole row is stored: the world behind it under a name of its own -/
theorem wpList_store_row_at {P : Program} {ops : Array Oper} {rest : List Oper} {o : Oper} {a : Act} {w : World} {Q : Exit → Act → World → Prop} (hgd : o.guard = none) (hd : o.dst = none) (ty : TypeId) (x y : Operand) (ho : o.op = .store ty x y)
    (g : Nat) (cells : Array Value) (hx : a.eval x = .pointer (some ⟨g, 0, none⟩)) (hy : a.eval y = .agg cells)
    (t : TypeId) (old : Array Value) (hg : w.heap[g]? = some (.cells old t (0, 0))) (hi : (P.info? ty).map (·.size) = some cells.size)
    (hold : old.size = cells.size) (h1 : cells.all (·.oneCell') = true)
    (h : ∀ w2, Hid (w2 = w.setRow g cells) → wpList P ops Q rest a w2) : wpList P ops Q (o :: rest) a w :=
  wpList_store_row hgd ty x y ho g cells hx hy t old hg hi hold h1 (by rw [hd]; exact h _ rfl)

end Go.Proofs.YtnghgdficnkbbaaDoor
