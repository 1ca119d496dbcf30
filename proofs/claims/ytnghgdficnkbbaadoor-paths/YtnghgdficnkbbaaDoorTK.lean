/-
  Rows of bytes in a block; a text copied into one; the bytes of texts.
-/
import Derived.Test.YtnghgdficnkbbaaDoorTH
import Derived.Laws.CopyRow
import Derived.Laws.BytesArg
namespace Go.Proofs.YtnghgdficnkbbaaDoor
open Go.RowKit
/-- n bytes in a row -/
def brow (n : Nat) (f : Nat → Int) : Array Value := Array.ofFn (n := n) fun i => Value.int .u8 (f i.val)
theorem brow_size (n : Nat) (f : Nat → Int) : (brow n f).size = n := by simp [brow]
theorem brow_get (n : Nat) (f : Nat → Int) (k : Nat) (h : k < n) : (brow n f)[k]? = some (.int .u8 (f k)) := by
  simp [brow, h]
theorem brow_none (n : Nat) (f : Nat → Int) (k : Nat) (h : ¬ k < n) : (brow n f)[k]? = none := by
  simp [brow, h]
theorem brow_set (n : Nat) (f : Nat → Int) (k : Nat) (v : Int) : (brow n f).setIfInBounds k (.int .u8 v) = brow n (upd f k v) := by
  apply Array.ext_getElem?
  intro i
  rw [Array.getElem?_setIfInBounds, brow_size]
  by_cases hi : i < n
  · rw [brow_get n f i hi, brow_get n _ i hi]
    by_cases h : k = i
    · subst h; simp [hi, upd]
    · simp [h, upd, Ne.symm h]
  · rw [brow_none n f i hi, brow_none n _ i hi]
    by_cases h : k = i
    · subst h; simp [hi]
    · simp [h]
/-- the block g holds n bytes -/
def Byts (w : World) (g n : Nat) (f : Nat → Int) : Prop := w.heap[g]? = some (.cells (brow n f) 5 (0, 0))
theorem Byts.cell {w : World} {g n : Nat} {f : Nat → Int} (h : Byts w g n f) (k : Nat) (hk : k < n) : w.cell? ⟨g, k, none⟩ = some (.int .u8 (f k)) := by
  rw [cell_of_row w g k _ 5 _ h, brow_get n f k hk]
theorem Byts.free {w : World} {g n : Nat} {f : Nat → Int} (h : Byts w g n f) (k : Nat) : w.frozen? ⟨g, k, none⟩ = false := frozen_of_row w g k _ 5 h
theorem Byts.put {w : World} {g n : Nat} {f : Nat → Int} (h : Byts w g n f) (k : Nat) (v : Int) : Byts (w.setCell ⟨g, k, none⟩ (.int .u8 v)) g n (upd f k v) := by
  have := heap_setCell_same w g k _ 5 (.int .u8 v) h
  rwa [brow_set] at this
theorem Byts.to {w : World} {g n : Nat} {f h : Nat → Int} (b : Byts w g n f) (e : ∀ j, j < n → f j = h j) : Byts w g n h := by
  have : brow n f = brow n h := by
    apply Array.ext
    · simp [brow]
    · intro i h1 h2
      simp only [brow, Array.getElem_ofFn]
      rw [e i (by simpa [brow] using h1)]
  unfold Byts; rw [← this]; exact b
/-- behind a copy of a text into the row's head -/
def over (s : ByteArray) (f : Nat → Int) : Nat → Int := fun j => if j < s.size then byt s j else f j
theorem byt_get (s : ByteArray) (i : Nat) (h : i < s.size) : byt s i = ((s.data[i]'h).toNat : Int) := by
  have hs : i < s.data.toList.length := h
  unfold byt
  rw [List.getD_eq_getElem?_getD, List.getElem?_eq_getElem hs]
  rfl
theorem run_copy_text {w : World} {g n : Nat} {f : Nat → Int} (h : Byts w g n f) (s : ByteArray) (hs : s.size ≤ n) (cap : Nat) (ty sT : TypeId) :
    (Builtin.copy_ #[55, sT] ty #[.slice (some ⟨g, 0, none⟩) n cap, .string s]).run Tryd.prog w = .ok (goInt s.size) (w.setRow g (brow n (over s f))) := by
  have hmin : Nat.min s.size n = s.size := Nat.min_eq_left hs
  have hsz : (Tryd.prog.info? 5).map (·.size) = some 1 := by kernel_rfl
  have hst := run_storeCells_at Tryd.prog g 0 5 ((s.extract 0 s.size).data.map fun b => Value.int .u8 b.toNat).toList 0 (brow n f) w h (by simp [brow_size]; omega) (by intro v hv; simp at hv; obtain ⟨b, _, rfl⟩ := hv; rfl)
  have he : s.extract 0 s.size = s := by simp
  have erow : ((brow n f).toList.take (0 + 0) ++ ((s.extract 0 s.size).data.map fun b => Value.int .u8 b.toNat).toList ++ (brow n f).toList.drop (0 + 0 + ((s.extract 0 s.size).data.map fun b => Value.int .u8 b.toNat).toList.length)).toArray = brow n (over s f) := by
    rw [he]
    apply Array.ext_getElem?
    intro i
    by_cases hi : i < n
    · rw [brow_get n _ i hi]
      by_cases h1 : i < s.size
      · simp [over, h1, byt_get s i h1, List.getElem?_append]
      · have e2 : s.size + (i - s.size) = i := by omega
        have hbi := brow_get n f i hi
        simp [over, h1, List.getElem?_append, e2, hbi]
    · have h1 : ¬ i < s.size := by omega
      have e2 : s.size + (i - s.size) = i := by omega
      have hbi := brow_none n f i hi
      rw [brow_none n _ i hi]
      simp [List.getElem?_append, h1, e2, hbi]
  rw [erow] at hst
  cases hq : Tryd.prog.info? 5 with
  | none => simp [hq] at hsz
  | some i =>
    simp [Builtin.copy_, run_underlying Tryd.underlying55, Builtin.lenOf, Builtin.firstCells, sizeOf, typeInfo, hq, hmin]
    rw [he] at hst
    have el : List.take s.size (List.map (fun b => Value.int IntKind.u8 (b.toNat : Int)) s.data.toList) = (Array.map (fun b => Value.int IntKind.u8 (b.toNat : Int)) s.data).toList := by
      rw [List.take_of_length_le (by simp), Array.toList_map]
    rw [el, hst]
    rfl
theorem wpList_copy_text {w : World} {ops : Array Oper} {rest : List Oper} {o : Oper} {a : Act} {Q : Exit → Act → World → Prop} (hgd : o.guard = none) (d s : Operand)
    (ho : o.op = .call { callee := .builtin .copy, args := #[d, s], argTypes := #[55, 9] }) (g n cap : Nat) (f : Nat → Int) (h : Byts w g n f) (t : ByteArray) (ht : t.size ≤ n)
    (hd : a.eval d = .slice (some ⟨g, 0, none⟩) n cap) (hs : a.eval s = .string t)
    (hK : ∀ w2, Hid (w2 = w.setRow g (brow n (over t f))) → wpList Tryd.prog ops Q rest (a.put o.dst (goInt t.size)) w2) : wpList Tryd.prog ops Q (o :: rest) a w := by
  refine wpList_plain hgd fun K hK' => ?_
  have hrun := run_copy_text h t ht cap o.type 9
  unfold Oper.wp
  simp [execOp, ho, resolve, invoke, builtin, hd, hs, hrun, Result.andThen]
  exact hK' _ _ (hK _ rfl)
theorem byts_setRow {w : World} {g n : Nat} {old : Array Value} (f : Nat → Int) (h : w.heap[g]? = some (.cells old 5 (0, 0))) : Byts (w.setRow g (brow n f)) g n f := setRow_heap w g old _ 5 _ h
/-- n bytes that are told by a function, as a text -/
def txt (n : Nat) (f : Nat → Int) : ByteArray := strOfNums ((List.range n).map f)
theorem convert_byts {w : World} {g n : Nat} {f : Nat → Int} (h : Byts w g n f) (cap : Nat) : (convert 55 9 (.slice (some ⟨g, 0, none⟩) n cap)).run Tryd.prog w = .ok (.string (txt n f)) w := by
  refine run_convert_bytes_arg (P := Tryd.prog) w 55 5 Tryd.underlying55 Tryd.underlying5 g 0 n cap ((List.range n).map f) (by simp) (fun i hi => ?_) 9 Tryd.underlying9
  rw [Nat.zero_add, h.cell i hi]
  simp [hi]
end Go.Proofs.YtnghgdficnkbbaaDoor
