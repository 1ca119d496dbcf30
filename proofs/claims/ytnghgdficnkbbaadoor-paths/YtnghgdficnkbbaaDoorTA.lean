/-
  Plain facts: rows of words in a block; the words of SHA-256 as functions on integers.
-/
import Derived.WalkKit
import Derived.Deep.Draws
namespace Go.Proofs.YtnghgdficnkbbaaDoor
open Go.RowKit

/-- n words in a row. -/
def row (n : Nat) (f : Nat → Int) : Array Value := Array.ofFn (n := n) fun i => Value.int .u32 (f i.val)
def upd (f : Nat → Int) (k : Nat) (v : Int) : Nat → Int := fun j => if j = k then v else f j
theorem row_size (n : Nat) (f : Nat → Int) : (row n f).size = n := by simp [row]
theorem row_get (n : Nat) (f : Nat → Int) (k : Nat) (h : k < n) : (row n f)[k]? = some (.int .u32 (f k)) := by
  simp [row, h]
theorem row_set (n : Nat) (f : Nat → Int) (k : Nat) (v : Int) : (row n f).setIfInBounds k (.int .u32 v) = row n (upd f k v) := by
  apply Array.ext_getElem?
  intro i
  rw [Array.getElem?_setIfInBounds, row_size]
  by_cases hi : i < n
  · rw [row_get n f i hi, row_get n _ i hi]
    by_cases h : k = i
    · subst h; simp [hi, upd]
    · simp [h, upd, Ne.symm h]
  · have e1 : (row n f)[i]? = none := by simp [row, hi]
    have e2 : (row n (upd f k v))[i]? = none := by simp [row, hi]
    rw [e1, e2]
    by_cases h : k = i
    · subst h; simp [hi]
    · simp [h]
theorem row_congr (n : Nat) (f g : Nat → Int) (h : ∀ j, j < n → f j = g j) : row n f = row n g := by
  apply Array.ext
  · simp [row]
  · intro i h1 h2
    simp only [row, Array.getElem_ofFn]
    rw [h i (by simpa [row] using h1)]
theorem row_ones (n : Nat) (f : Nat → Int) : (row n f).all (·.oneCell') = true := by
  rw [Array.all_eq_true_iff_forall_mem]
  intro v hv
  simp only [row, Array.mem_ofFn] at hv
  obtain ⟨i, rfl⟩ := hv
  rfl
theorem zeros64 : row 64 (fun _ => 0) = Array.replicate 64 (Value.int .u32 0) := by
  apply Array.ext
  · simp [row]
  · intro i h1 h2; simp [row]

/-- the block g holds n words -/
def Words (w : World) (g n : Nat) (t : TypeId) (f : Nat → Int) : Prop := w.heap[g]? = some (.cells (row n f) t (0, 0))
theorem Words.cell {w : World} {g n : Nat} {t : TypeId} {f : Nat → Int} (h : Words w g n t f) (k : Nat) (hk : k < n) : w.cell? ⟨g, k, none⟩ = some (.int .u32 (f k)) := by
  rw [cell_of_row w g k _ t _ h, row_get n f k hk]
theorem Words.free {w : World} {g n : Nat} {t : TypeId} {f : Nat → Int} (h : Words w g n t f) (k : Nat) : w.frozen? ⟨g, k, none⟩ = false := frozen_of_row w g k _ t h
theorem Words.put {w : World} {g n : Nat} {t : TypeId} {f : Nat → Int} (h : Words w g n t f) (k : Nat) (v : Int) : Words (w.setCell ⟨g, k, none⟩ (.int .u32 v)) g n t (upd f k v) := by
  have := heap_setCell_same w g k _ t (.int .u32 v) h
  rwa [row_set] at this
theorem Words.drew {w : World} {g n : Nat} {t : TypeId} {f : Nat → Int} (h : Words w g n t f) : Words w.drew g n t f := h
theorem Words.drewN {w : World} {g n : Nat} {t : TypeId} {f : Nat → Int} (h : Words w g n t f) (m : Nat) : Words (w.drewN m) g n t f := h
theorem Words.other {w : World} {g n : Nat} {t : TypeId} {f : Nat → Int} (h : Words w g n t f) (a : Addr) (v : Value) (ha : g ≠ a.block) : Words (w.setCell a v) g n t f := by
  unfold Words; rw [heap_setCell_other w a g v ha]; exact h
theorem Words.lt {w : World} {g n : Nat} {t : TypeId} {f : Nat → Int} (h : Words w g n t f) : g < w.heap.size := (Array.getElem?_eq_some_iff.1 h).1
theorem Words.alloc {w : World} {g n : Nat} {t : TypeId} {f : Nat → Int} (h : Words w g n t f) (o : Obj) : Words (w.alloc o) g n t f := by
  unfold Words; rw [Below.heap_alloc w o g h.lt]; exact h
theorem Words.below {w w' : World} {g n : Nat} {t : TypeId} {f : Nat → Int} (h : Words w g n t f) {B : Nat} (hb : Below B w w') (hg : g < B) : Words w' g n t f := by
  unfold Words; rw [hb.block g hg]; exact h

/-- the i-th byte of a string -/
def byt (s : ByteArray) (i : Nat) : Int := ((s.data.toList.getD i 0).toNat : Int)
/-- turned right by n -/
def rotr (x : Int) (n : Nat) : Int := bits .or .u32 (x / 2 ^ n) (x * 2 ^ (32 - n) % 4294967296)
def sg0 (x : Int) : Int := bits .xor .u32 (bits .xor .u32 (rotr x 7) (rotr x 18)) (x / 8)
def sg1 (x : Int) : Int := bits .xor .u32 (bits .xor .u32 (rotr x 17) (rotr x 19)) (x / 1024)
/-- the first words, by or -/
def iniP (s : ByteArray) (k : Nat) : Int :=
  bits .or .u32 (bits .or .u32 (bits .or .u32 (byt s (4 * k) % 4294967296 * 16777216 % 4294967296) (byt s (4 * k + 1) % 4294967296 * 65536 % 4294967296)) (byt s (4 * k + 2) % 4294967296 * 256 % 4294967296)) (byt s (4 * k + 3) % 4294967296)
/-- the first words, by plus -/
def iniR (s : ByteArray) (k : Nat) : Int :=
  (byt s (4 * k) % 4294967296 * 16777216 + byt s (4 * k + 1) % 4294967296 * 65536 + byt s (4 * k + 2) % 4294967296 * 256 + byt s (4 * k + 3)) % 4294967296
/-- the word of each round, by the first sixteen -/
def wrd (f : Nat → Int) (i : Nat) : Int :=
  if _h : i < 16 then f i else (wrd f (i - 16) + sg0 (wrd f (i - 15)) + wrd f (i - 7) + sg1 (wrd f (i - 2))) % 4294967296
theorem wrd_lo (f : Nat → Int) (i : Nat) (h : i < 16) : wrd f i = f i := by rw [wrd, dif_pos h]
theorem wrd_hi (f : Nat → Int) (i : Nat) (h : ¬ i < 16) : wrd f i = (wrd f (i - 16) + sg0 (wrd f (i - 15)) + wrd f (i - 7) + sg1 (wrd f (i - 2))) % 4294967296 := by rw [wrd, dif_neg h]
theorem wrd_congr (f g : Nat → Int) (h : ∀ j, j < 16 → f j = g j) (i : Nat) : wrd f i = wrd g i := by
  induction i using Nat.strongRecOn with
  | ind i ih =>
    by_cases hi : i < 16
    · rw [wrd_lo f i hi, wrd_lo g i hi, h i hi]
    · rw [wrd_hi f i hi, wrd_hi g i hi, ih (i - 16) (by omega), ih (i - 15) (by omega), ih (i - 7) (by omega), ih (i - 2) (by omega)]
theorem or_comm32 (a b : Int) : bits .or .u32 a b = bits .or .u32 b a := by
  unfold bits
  simp only [BitVec.or_comm]

end Go.Proofs.YtnghgdficnkbbaaDoor
