/-
  Plain facts: rows of words in a block; the words of SHA-256 as functions on integers.
  The walks: turning, and the words of each round.
  The walk of digest.schedule.
  The walk of vaultref.turn.
  The walk of vaultref.words.
-/
import Derived.WalkKit
import Derived.Deep.Draws
import Derived.Test.YtadinjaocnlglaaGreatDoorProg
import Derived.WalkSpells
import Derived.WalkLawsBesides
import Derived.BigRegion
import Derived.BigQuiet
import Derived.Deep.QuietTactic
namespace Go.Proofs.YtadinjaocnlglaaGreatDoor
open Go.RowKit

/-- n words in a row. -/
def row (n : Nat) (f : Nat → Int) : Array Value := Array.ofFn (n := n) fun i => Value.int .u32 (f i.val)
def upd (f : Nat → Int) (k : Nat) (v : Int) : Nat → Int := fun j => if j = k then v else f j
theorem row_size (n : Nat) (f : Nat → Int) : (row n f).size = n := by simp [row]
theorem row_get (n : Nat) (f : Nat → Int) (k : Nat) (h : k < n) : (row n f)[k]? = some (.int .u32 (f k)) := by
  simp [row, h]
theorem row_set (n : Nat) (f : Nat → Int) (k : Nat) (v : Int) : (row n f).setIfInBounds k (.int .u32 v) = row n (upd f k v) := by
  apply Array.ext_getElem?
  intro i
  rw [Array.getElem?_setIfInBounds, row_size]
  by_cases hi : i < n
  · rw [row_get n f i hi, row_get n _ i hi]
    by_cases h : k = i
    · subst h; simp [hi, upd]
    · simp [h, upd, Ne.symm h]
  · have e1 : (row n f)[i]? = none := by simp [row, hi]
    have e2 : (row n (upd f k v))[i]? = none := by simp [row, hi]
    rw [e1, e2]
    by_cases h : k = i
    · subst h; simp [hi]
    · simp [h]
theorem row_congr (n : Nat) (f g : Nat → Int) (h : ∀ j, j < n → f j = g j) : row n f = row n g := by
  apply Array.ext
  · simp [row]
  · intro i h1 h2
    simp only [row, Array.getElem_ofFn]
    rw [h i (by simpa [row] using h1)]
theorem row_ones (n : Nat) (f : Nat → Int) : (row n f).all (·.oneCell') = true := by
  rw [Array.all_eq_true_iff_forall_mem]
  intro v hv
  simp only [row, Array.mem_ofFn] at hv
  obtain ⟨i, rfl⟩ := hv
  rfl
theorem zeros64 : row 64 (fun _ => 0) = Array.replicate 64 (Value.int .u32 0) := by
  apply Array.ext
  · simp [row]
  · intro i h1 h2; simp [row]

/-- the block g holds n words -/
def Words (w : World) (g n : Nat) (t : TypeId) (f : Nat → Int) : Prop := w.heap[g]? = some (.cells (row n f) t (0, 0))
theorem Words.cell {w : World} {g n : Nat} {t : TypeId} {f : Nat → Int} (h : Words w g n t f) (k : Nat) (hk : k < n) : w.cell? ⟨g, k, none⟩ = some (.int .u32 (f k)) := by
  rw [cell_of_row w g k _ t _ h, row_get n f k hk]
theorem Words.free {w : World} {g n : Nat} {t : TypeId} {f : Nat → Int} (h : Words w g n t f) (k : Nat) : w.frozen? ⟨g, k, none⟩ = false := frozen_of_row w g k _ t h
theorem Words.put {w : World} {g n : Nat} {t : TypeId} {f : Nat → Int} (h : Words w g n t f) (k : Nat) (v : Int) : Words (w.setCell ⟨g, k, none⟩ (.int .u32 v)) g n t (upd f k v) := by
  have := heap_setCell_same w g k _ t (.int .u32 v) h
  rwa [row_set] at this
theorem Words.drew {w : World} {g n : Nat} {t : TypeId} {f : Nat → Int} (h : Words w g n t f) : Words w.drew g n t f := h
theorem Words.other {w : World} {g n : Nat} {t : TypeId} {f : Nat → Int} (h : Words w g n t f) (a : Addr) (v : Value) (ha : g ≠ a.block) : Words (w.setCell a v) g n t f := by
  unfold Words; rw [heap_setCell_other w a g v ha]; exact h
theorem Words.lt {w : World} {g n : Nat} {t : TypeId} {f : Nat → Int} (h : Words w g n t f) : g < w.heap.size := (Array.getElem?_eq_some_iff.1 h).1
theorem Words.alloc {w : World} {g n : Nat} {t : TypeId} {f : Nat → Int} (h : Words w g n t f) (o : Obj) : Words (w.alloc o) g n t f := by
  unfold Words; rw [Below.heap_alloc w o g h.lt]; exact h
theorem Words.below {w w' : World} {g n : Nat} {t : TypeId} {f : Nat → Int} (h : Words w g n t f) {B : Nat} (hb : Below B w w') (hg : g < B) : Words w' g n t f := by
  unfold Words; rw [hb.block g hg]; exact h

/-- the i-th byte of a string -/
def byt (s : ByteArray) (i : Nat) : Int := ((s.data.toList.getD i 0).toNat : Int)
/-- turned right by n -/
def rotr (x : Int) (n : Nat) : Int := bits .or .u32 (x / 2 ^ n) (x * 2 ^ (32 - n) % 4294967296)
def sg0 (x : Int) : Int := bits .xor .u32 (bits .xor .u32 (rotr x 7) (rotr x 18)) (x / 8)
def sg1 (x : Int) : Int := bits .xor .u32 (bits .xor .u32 (rotr x 17) (rotr x 19)) (x / 1024)
/-- the first words, by or -/
def iniP (s : ByteArray) (k : Nat) : Int :=
  bits .or .u32 (bits .or .u32 (bits .or .u32 (byt s (4 * k) % 4294967296 * 16777216 % 4294967296) (byt s (4 * k + 1) % 4294967296 * 65536 % 4294967296)) (byt s (4 * k + 2) % 4294967296 * 256 % 4294967296)) (byt s (4 * k + 3) % 4294967296)
/-- the first words, by plus -/
def iniR (s : ByteArray) (k : Nat) : Int :=
  (byt s (4 * k) % 4294967296 * 16777216 + byt s (4 * k + 1) % 4294967296 * 65536 + byt s (4 * k + 2) % 4294967296 * 256 + byt s (4 * k + 3)) % 4294967296
/-- the word of each round, by the first sixteen -/
def wrd (f : Nat → Int) (i : Nat) : Int :=
  if _h : i < 16 then f i else (wrd f (i - 16) + sg0 (wrd f (i - 15)) + wrd f (i - 7) + sg1 (wrd f (i - 2))) % 4294967296
theorem wrd_lo (f : Nat → Int) (i : Nat) (h : i < 16) : wrd f i = f i := by rw [wrd, dif_pos h]
theorem wrd_hi (f : Nat → Int) (i : Nat) (h : ¬ i < 16) : wrd f i = (wrd f (i - 16) + sg0 (wrd f (i - 15)) + wrd f (i - 7) + sg1 (wrd f (i - 2))) % 4294967296 := by rw [wrd, dif_neg h]
theorem wrd_congr (f g : Nat → Int) (h : ∀ j, j < 16 → f j = g j) (i : Nat) : wrd f i = wrd g i := by
  induction i using Nat.strongRecOn with
  | ind i ih =>
    by_cases hi : i < 16
    · rw [wrd_lo f i hi, wrd_lo g i hi, h i hi]
    · rw [wrd_hi f i hi, wrd_hi g i hi, ih (i - 16) (by omega), ih (i - 15) (by omega), ih (i - 7) (by omega), ih (i - 2) (by omega)]
theorem or_comm32 (a b : Int) : bits .or .u32 a b = bits .or .u32 b a := by
  unfold bits
  simp only [BitVec.or_comm]

end Go.Proofs.YtadinjaocnlglaaGreatDoor
namespace Go.Proofs.YtadinjaocnlglaaGreatDoor
open Go.RowKit

theorem index_byt (s : ByteArray) (i : Nat) (h : i < s.size) (W : World) (j : Int) (hj : j = (i : Int)) : (Instr.index 9 (.string s) (.int .i64 j)).run Tryz.prog W = .ok (.int .u8 (byt s i)) W := by
  subst hj
  rw [run_index_string W 9 s .i64 i Tryz.underlying9, dif_pos ⟨by omega, by omega⟩]
  have hs : i < s.data.toList.length := h
  have e : byt s i = ((s[i]'h).toNat : Int) := by
    unfold byt
    rw [List.getD_eq_getElem?_getD, List.getElem?_eq_getElem hs]
    rfl
  rw [e]
  rfl

set_option maxHeartbeats 400000 in
theorem rot_any (x : Int) (n : Nat) (k : Int) (w : World) (hk : bits BinOp.and IntKind.u64 (IntKind.u64.wrap k) 31 = ((32 - n : Nat) : Int)) (h1 : 1 ≤ n) (h3 : n ≤ 32) :
    Calls Tryz.prog 266 #[.int .u32 x, .int .i64 k] w fun e w' => e = .returned (.int .u32 (rotr x n)) ∧ w' = w := by
  obtain ⟨s, hs⟩ : ∃ s : Int, s = ((32 - n : Nat) : Int) := ⟨_, rfl⟩
  rw [← hs] at hk
  have h0 : 0 ≤ s := by omega
  have h2 : s ≤ 31 := by omega
  have e1 : s.toNat = 32 - n := by omega
  have e2 : (32 - s).toNat = n := by omega
  have e : bits BinOp.or IntKind.u32 (x * 2 ^ s.toNat % 4294967296) (x / 2 ^ (32 - s).toNat) = rotr x n := by rw [e1, e2, or_comm32]; rfl
  have E : Hid (bits BinOp.or IntKind.u32 (x * 2 ^ s.toNat % 4294967296) (x / 2 ^ (32 - s).toNat) = rotr x n) := e
  clear e e1 e2 hs
  go_enter Tryz.func266, Tryz.ntmps266
  go_wp2
  go_ret
  rw [E.out]
  exact ⟨rfl, rfl⟩

theorem and31 : ∀ m : Fin 31, bits BinOp.and IntKind.u64 (IntKind.u64.wrap (-((m.val : Int) + 1))) 31 = ((32 - (m.val + 1) : Nat) : Int) := by decide
/-- one contract for every constant that is met -/
theorem rot_at (x k : Int) (w : World) (h0 : -31 ≤ k) (h1 : k ≤ -1) :
    Calls Tryz.prog 266 #[.int .u32 x, .int .i64 k] w fun e w' => e = .returned (.int .u32 (rotr x (-k).toNat)) ∧ w' = w := by
  have h := and31 ⟨(-k).toNat - 1, by omega⟩
  have e1 : -((((-k).toNat - 1 : Nat) : Int) + 1) = k := by omega
  have e2 : 32 - ((-k).toNat - 1 + 1) = 32 - (-k).toNat := by omega
  simp only [e1, e2] at h
  exact rot_any x (-k).toNat k w h (by omega) (by omega)
/-- what a store of the k-th word does to the row that is being filled -/
theorem fill_step {w wr : World} {f g : Nat → Int} {k : Nat} {v : Int} (hb : Below w.heap.size w wr) (hsz : wr.heap.size = w.heap.size + 2) (hz : Words wr w.heap.size 64 372 (fun _ => 0)) (hf : Words wr (w.heap.size + 1) 64 372 f) (hfj : ∀ j, j < k → f j = g j) (hv : v = g k) :
    Below w.heap.size w (wr.setCell ⟨w.heap.size + 1, k, none⟩ (.int .u32 v)) ∧ (wr.setCell ⟨w.heap.size + 1, k, none⟩ (.int .u32 v)).heap.size = w.heap.size + 2 ∧
    Words (wr.setCell ⟨w.heap.size + 1, k, none⟩ (.int .u32 v)) w.heap.size 64 372 (fun _ => 0) ∧ ∃ f', Words (wr.setCell ⟨w.heap.size + 1, k, none⟩ (.int .u32 v)) (w.heap.size + 1) 64 372 f' ∧ ∀ j, j < k + 1 → f' j = g j := by
  refine ⟨hb.setCell (by simp) _, by simp [World.setCell]; exact hsz, hz.other _ _ (by simp), upd f k v, hf.put k v, fun j hj => ?_⟩
  unfold upd
  by_cases h : j = k
  · rw [if_pos h, h, hv]
  · rw [if_neg h]; exact hfj j (by omega)

theorem below_setRow {B : Nat} {a w : World} (h : Below B a w) (g : Nat) (hg : B ≤ g) (cs : Array Value) : Below B a (w.setRow g cs) :=
  h.trans ⟨rfl, rfl, rfl, by simp, fun k hk => setRow_other w g k cs (by omega)⟩
theorem info32 : (Tryz.prog.info? 372).map (·.size) = some 64 := by kernel_rfl
theorem info26 : (Tryz.prog.info? 294).map (·.size) = some 8 := by kernel_rfl

/-- a table of words -/
def Tab (w : World) (g : Nat) (f : Nat → Int) : Prop := ∀ k, k < 64 → w.cell? ⟨g, k, none⟩ = some (.int .u32 (f k))
theorem Tab.below {w w' : World} {g : Nat} {f : Nat → Int} (h : Tab w g f) {B : Nat} (hb : Below B w w') (hg : g < B) : Tab w' g f := fun k hk => (hb.cell (p := ⟨g, k, none⟩) hg).trans (h k hk)
theorem words_setRow {w : World} {g n : Nat} {t : TypeId} {old : Array Value} (f : Nat → Int) (h : w.heap[g]? = some (.cells old t (0, 0))) : Words (w.setRow g (row n f)) g n t f := setRow_heap w g old _ t _ h
theorem Words.setRow_other {w : World} {g n : Nat} {t : TypeId} {f : Nat → Int} (h : Words w g n t f) (k : Nat) (cs : Array Value) (hk : g ≠ k) : Words (w.setRow k cs) g n t f := by
  unfold Words; rw [Go.setRow_other w k g cs hk]; exact h
/-- a whole row is stored: the world behind it under a name of its own -/
theorem wpList_store_row_at {P : Program} {ops : Array Oper} {rest : List Oper} {o : Oper} {a : Act} {w : World} {Q : Exit → Act → World → Prop} (hgd : o.guard = none) (hd : o.dst = none) (ty : TypeId) (x y : Operand) (ho : o.op = .store ty x y)
    (g : Nat) (cells : Array Value) (hx : a.eval x = .pointer (some ⟨g, 0, none⟩)) (hy : a.eval y = .agg cells)
    (t : TypeId) (old : Array Value) (hg : w.heap[g]? = some (.cells old t (0, 0))) (hi : (P.info? ty).map (·.size) = some cells.size)
    (hold : old.size = cells.size) (h1 : cells.all (·.oneCell') = true)
    (h : ∀ w2, Hid (w2 = w.setRow g cells) → wpList P ops Q rest a w2) : wpList P ops Q (o :: rest) a w :=
  wpList_store_row hgd ty x y ho g cells hx hy t old hg hi hold h1 (by rw [hd]; exact h _ rfl)

end Go.Proofs.YtadinjaocnlglaaGreatDoor
namespace Go.Proofs.YtadinjaocnlglaaGreatDoor
open Go.RowKit
set_option maxHeartbeats 1000000 in
theorem sched_any (s : ByteArray) (w : World) (h0 : s.size = 64)  :
    Calls Tryz.prog 265 #[.string s] w fun e w' => e = .returned (.agg (row 64 (wrd (iniP s)))) ∧ Below w.heap.size w w' := by
  go_enter Tryz.func265, Tryz.ntmps265
  go_wp2
  go_loopw [8] (fun i wr => ∃ k : Nat, k ≤ 16 ∧ i = .int .i64 k ∧ Below w.heap.size w wr ∧ wr.heap.size = w.heap.size + 2 ∧ Words wr w.heap.size 64 372 (fun _ => 0) ∧ ∃ f, Words wr (w.heap.size + 1) 64 372 f ∧ ∀ j, j < k → f j = wrd (iniP s) j) (fun i _ => 16 - (intOf i).toNat)
  case atStart =>
    refine ⟨0, by omega, rfl, ?_, ?_, ?_, (fun _ => 0), ?_, fun j hj => by omega⟩
    · exact ((Below.refl _ _).alloc (Nat.le_refl _) _).alloc (by simp) _
    · simp
    · unfold Words; rw [zeros64]; exact heap_alloc2_old _ _ _
    · unfold Words; rw [zeros64]; exact heap_alloc2_new _ _ _
  case round =>
    obtain ⟨k, hk, rfl, hb, hsz, hz, f, hf, hfj⟩ := hrel
    by_cases hlt : k < 16
    · have hck := hf.cell k (by omega)
      have hfk := hf.free k
      have i0 := fun W => index_byt s (4 * k) (by omega) W (4 * (k : Int)) (by omega)
      have i1 := fun W => index_byt s (4 * k + 1) (by omega) W (4 * (k : Int) + 1) (by omega)
      have i2 := fun W => index_byt s (4 * k + 2) (by omega) W (4 * (k : Int) + 2) (by omega)
      have i3 := fun W => index_byt s (4 * k + 3) (by omega) W (4 * (k : Int) + 3) (by omega)
      have HJ : Hid _ := hfj
      clear hfj
      go_wp2
      go_region
      go_wp2
      go_roundw
      case rel =>
        exact ⟨k + 1, by omega, by go_num, fill_step hb.drew hsz hz hf HJ.out (wrd_lo (iniP s) k hlt).symm⟩
      case measure => simp [intOf]; omega
    · have hk16 : k = 16 := by omega
      subst hk16
      have HF : Hid _ := hfj
      clear hfj
      go_wp2
      go_loopw [5] (fun i wr => ∃ k : Nat, 16 ≤ k ∧ k ≤ 64 ∧ i = .int .i64 k ∧ Below w.heap.size w wr ∧ wr.heap.size = w.heap.size + 2 ∧ Words wr w.heap.size 64 372 (fun _ => 0) ∧ ∃ f, Words wr (w.heap.size + 1) 64 372 f ∧ ∀ j, j < k → f j = wrd (iniP s) j) (fun i _ => 64 - (intOf i).toNat)
      case atStart => exact ⟨16, by omega, by omega, rfl, hb, hsz, hz, f, hf, HF.out⟩
      case round =>
        clear hf hb hsz hz HF
        obtain ⟨k, hk1, hk2, rfl, hb, hsz, hz, f, hf, hfj⟩ := hrel
        by_cases hlt : k < 64
        · have hck := hf.cell k (by omega)
          have hfk := hf.free k
          have h15 := hf.cell (k - 15) (by omega)
          have h2 := hf.cell (k - 2) (by omega)
          have h16 := hf.cell (k - 16) (by omega)
          have h7 := hf.cell (k - 7) (by omega)
          rw [hfj (k - 15) (by omega)] at h15
          rw [hfj (k - 2) (by omega)] at h2
          rw [hfj (k - 16) (by omega)] at h16
          rw [hfj (k - 7) (by omega)] at h7
          have HJ : Hid _ := hfj
          clear hfj
          go_wp2
          go_quiet (fail)
          go_wp2_with (go_at_call 266; refine (rot_at _ _ _ (by decide) (by decide)).mono ?_; rintro e w' ⟨rfl, rfl⟩)
          go_region
          go_wp2
          go_roundw
          case rel =>
            repeat apply Exists.intro
            exact ⟨⟨k + 1, by omega, by omega, by go_num, fill_step (below_drewN hb _) hsz hz hf HJ.out (wrd_hi (iniP s) k (by omega)).symm⟩, rfl⟩
          case measure => simp [intOf]; omega
        · have hk64 : k = 64 := by omega
          subst hk64
          have HF : Hid _ := hfj
          clear hfj
          have hld : (Tryz.prog.info? 372).map (·.size) = some (row 64 f).size := by rw [row_size]; exact info32
          have hold : (row 64 (fun _ => 0)).size = (row 64 f).size := by simp [row_size]
          go_wp2_with (first | (refine wpList_load_row rfl 372 (.tmp 3) rfl (w.heap.size + 1) rfl 372 (row 64 f) (0, 0) _ hf Tryz.underlying372 rfl hld ?_) | (refine wpList_store_row rfl 372 (.tmp 2) (.tmp 86) rfl (w.heap.size) (row 64 f) rfl rfl 372 (row 64 fun _ => 0) hz hld hold (row_ones _ _) ?_))
          have e : row 64 f = row 64 (wrd (iniP s)) := row_congr 64 _ _ HF.out
          refine bodyPost_ret (v := .agg (row 64 f)) ?_ rfl ?_
          · exact results_cell_row Tryz.results265 _ _ w.heap.size 372 (row 64 f) (0, 0) _ rfl (setRow_heap wr w.heap.size _ _ 372 (0, 0) hz) Tryz.underlying372 rfl hld
          · rw [e]
            exact ⟨rfl, below_setRow hb _ (Nat.le_refl _) _⟩
end Go.Proofs.YtadinjaocnlglaaGreatDoor
namespace Go.Proofs.YtadinjaocnlglaaGreatDoor
open Go.RowKit
set_option maxHeartbeats 400000 in
theorem turn_any (x : Int) (n : Nat) (m : Int) (w : World) (hm : m = n) (h3 : n ≤ 32) :
    Calls Tryz.prog 276 #[.int .u32 x, .int .u32 m] w fun e w' => e = .returned (.int .u32 (rotr x n)) ∧ w' = w := by
  have h0 : 0 ≤ m := by omega
  have h1 : m ≤ 32 := by omega
  have e1 : m.toNat = n := by omega
  have e2 : (32 - m).toNat = 32 - n := by omega
  have e : bits BinOp.or IntKind.u32 (x / 2 ^ m.toNat) (x * 2 ^ (32 - m).toNat % 4294967296) = rotr x n := by rw [e1, e2]; rfl
  have E : Hid (bits BinOp.or IntKind.u32 (x / 2 ^ m.toNat) (x * 2 ^ (32 - m).toNat % 4294967296) = rotr x n) := e
  clear e e1 e2 hm
  go_enter Tryz.func276, Tryz.ntmps276
  go_wp2
  go_ret
  rw [E.out]
  exact ⟨rfl, rfl⟩

theorem turn_at (x n : Int) (w : World) (h0 : 0 ≤ n) (h1 : n ≤ 32) :
    Calls Tryz.prog 276 #[.int .u32 x, .int .u32 n] w fun e w' => e = .returned (.int .u32 (rotr x n.toNat)) ∧ w' = w :=
  turn_any x n.toNat n w (by omega) (by omega)
end Go.Proofs.YtadinjaocnlglaaGreatDoor
namespace Go.Proofs.YtadinjaocnlglaaGreatDoor
open Go.RowKit
set_option maxHeartbeats 1000000 in
theorem words_any (s : ByteArray) (w : World) (h0 : s.size = 64)  :
    Calls Tryz.prog 275 #[.string s] w fun e w' => e = .returned (.agg (row 64 (wrd (iniR s)))) ∧ Below w.heap.size w w' := by
  go_enter Tryz.func275, Tryz.ntmps275
  go_wp2
  go_loopw [4] (fun i wr => ∃ k : Nat, k ≤ 16 ∧ i = .int .i64 k ∧ Below w.heap.size w wr ∧ wr.heap.size = w.heap.size + 2 ∧ Words wr w.heap.size 64 372 (fun _ => 0) ∧ ∃ f, Words wr (w.heap.size + 1) 64 372 f ∧ ∀ j, j < k → f j = wrd (iniR s) j) (fun i _ => 16 - (intOf i).toNat)
  case atStart =>
    refine ⟨0, by omega, rfl, ?_, ?_, ?_, (fun _ => 0), ?_, fun j hj => by omega⟩
    · exact ((Below.refl _ _).alloc (Nat.le_refl _) _).alloc (by simp) _
    · simp
    · unfold Words; rw [zeros64]; exact heap_alloc2_old _ _ _
    · unfold Words; rw [zeros64]; exact heap_alloc2_new _ _ _
  case round =>
    obtain ⟨k, hk, rfl, hb, hsz, hz, f, hf, hfj⟩ := hrel
    by_cases hlt : k < 16
    · have hck := hf.cell k (by omega)
      have hfk := hf.free k
      have i0 := fun W => index_byt s (4 * k) (by omega) W (4 * (k : Int)) (by omega)
      have i1 := fun W => index_byt s (4 * k + 1) (by omega) W (4 * (k : Int) + 1) (by omega)
      have i2 := fun W => index_byt s (4 * k + 2) (by omega) W (4 * (k : Int) + 2) (by omega)
      have i3 := fun W => index_byt s (4 * k + 3) (by omega) W (4 * (k : Int) + 3) (by omega)
      have HJ : Hid _ := hfj
      clear hfj
      go_wp2
      go_region
      go_wp2
      go_roundw
      case rel =>
        exact ⟨k + 1, by omega, by go_num, fill_step hb.drew hsz hz hf HJ.out (wrd_lo (iniR s) k hlt).symm⟩
      case measure => simp [intOf]; omega
    · have hk16 : k = 16 := by omega
      subst hk16
      have HF : Hid _ := hfj
      clear hfj
      go_wp2
      go_loopw [5] (fun i wr => ∃ k : Nat, 16 ≤ k ∧ k ≤ 64 ∧ i = .int .i64 k ∧ Below w.heap.size w wr ∧ wr.heap.size = w.heap.size + 2 ∧ Words wr w.heap.size 64 372 (fun _ => 0) ∧ ∃ f, Words wr (w.heap.size + 1) 64 372 f ∧ ∀ j, j < k → f j = wrd (iniR s) j) (fun i _ => 64 - (intOf i).toNat)
      case atStart => exact ⟨16, by omega, by omega, rfl, hb, hsz, hz, f, hf, HF.out⟩
      case round =>
        clear hf hb hsz hz HF
        obtain ⟨k, hk1, hk2, rfl, hb, hsz, hz, f, hf, hfj⟩ := hrel
        by_cases hlt : k < 64
        · have hck := hf.cell k (by omega)
          have hfk := hf.free k
          have h15 := hf.cell (k - 15) (by omega)
          have h2 := hf.cell (k - 2) (by omega)
          have h16 := hf.cell (k - 16) (by omega)
          have h7 := hf.cell (k - 7) (by omega)
          rw [hfj (k - 15) (by omega)] at h15
          rw [hfj (k - 2) (by omega)] at h2
          rw [hfj (k - 16) (by omega)] at h16
          rw [hfj (k - 7) (by omega)] at h7
          have HJ : Hid _ := hfj
          clear hfj
          go_wp2
          go_quiet ((go_at_call 276; exact Calls.quiet_of_same (turn_at _ _ _ (by decide) (by decide))))
          go_wp2
          obtain ⟨wq, hwq⟩ : ∃ wq, wq = wr.drewN nq := ⟨_, rfl⟩
          rw [← hwq]
          have hbq : Below w.heap.size w wq := by rw [hwq]; exact below_drewN hb _
          have hszq : wq.heap.size = w.heap.size + 2 := by rw [hwq]; exact hsz
          have hzq : Words wq w.heap.size 64 372 (fun _ => 0) := by rw [hwq]; exact hz
          have hfq : Words wq (w.heap.size + 1) 64 372 f := by rw [hwq]; exact hf
          rw [show wr.cell? ⟨w.heap.size + 1, k, none⟩ = wq.cell? ⟨w.heap.size + 1, k, none⟩ by rw [hwq]; rfl] at hck
          rw [show wr.frozen? ⟨w.heap.size + 1, k, none⟩ = wq.frozen? ⟨w.heap.size + 1, k, none⟩ by rw [hwq]; rfl] at hfk
          rw [show wr.cell? ⟨w.heap.size + 1, k - 2, none⟩ = wq.cell? ⟨w.heap.size + 1, k - 2, none⟩ by rw [hwq]; rfl] at h2
          rw [show wr.cell? ⟨w.heap.size + 1, k - 16, none⟩ = wq.cell? ⟨w.heap.size + 1, k - 16, none⟩ by rw [hwq]; rfl] at h16
          rw [show wr.cell? ⟨w.heap.size + 1, k - 7, none⟩ = wq.cell? ⟨w.heap.size + 1, k - 7, none⟩ by rw [hwq]; rfl] at h7
          clear hwq hb hsz hz hf h15
          go_quiet ((go_at_call 276; exact Calls.quiet_of_same (turn_at _ _ _ (by decide) (by decide))))
          go_wp2
          go_region
          go_wp2
          go_roundw
          case rel =>
            exact ⟨k + 1, by omega, by omega, by go_num, fill_step (below_drewN hbq _) hszq hzq hfq HJ.out (wrd_hi (iniR s) k (by omega)).symm⟩
          case measure => simp [intOf]; omega
        · have hk64 : k = 64 := by omega
          subst hk64
          have HF : Hid _ := hfj
          clear hfj
          have hld : (Tryz.prog.info? 372).map (·.size) = some (row 64 f).size := by rw [row_size]; exact info32
          have hold : (row 64 (fun _ => 0)).size = (row 64 f).size := by simp [row_size]
          go_wp2_with (first | (refine wpList_load_row rfl 372 (.tmp 3) rfl (w.heap.size + 1) rfl 372 (row 64 f) (0, 0) _ hf Tryz.underlying372 rfl hld ?_) | (refine wpList_store_row rfl 372 (.tmp 2) (.tmp 96) rfl (w.heap.size) (row 64 f) rfl rfl 372 (row 64 fun _ => 0) hz hld hold (row_ones _ _) ?_))
          have e : row 64 f = row 64 (wrd (iniR s)) := row_congr 64 _ _ HF.out
          refine bodyPost_ret (v := .agg (row 64 f)) ?_ rfl ?_
          · exact results_cell_row Tryz.results275 _ _ w.heap.size 372 (row 64 f) (0, 0) _ rfl (setRow_heap wr w.heap.size _ _ 372 (0, 0) hz) Tryz.underlying372 rfl hld
          · rw [e]
            exact ⟨rfl, below_setRow hb _ (Nat.le_refl _) _⟩
end Go.Proofs.YtadinjaocnlglaaGreatDoor
