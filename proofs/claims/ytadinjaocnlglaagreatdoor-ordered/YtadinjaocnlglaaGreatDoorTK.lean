/-
  The walk of digest.told.
  Rows of bytes in a block; a text copied into one; the bytes of texts.
-/
import Derived.Test.YtadinjaocnlglaaGreatDoorTI
import Derived.WalkKit
import Derived.WalkSpells
import Derived.WalkLawsBesides
import Derived.BigRegion
import Derived.BigQuiet
import Derived.Deep.QuietTactic
import Derived.Deep.RegionWith
import Derived.Laws.CopyRow
import Derived.Laws.BytesArg
namespace Go.Proofs.YtadinjaocnlglaaGreatDoor
open Go.RowKit
theorem make32 (w : World) : (Instr.makeSlice 165 (.int .i64 0) (.int .i64 32)).run Tryz.prog w = .ok (.slice (some ⟨w.heap.size, 0, none⟩) 0 32) (w.alloc (.cells (Array.replicate 32 (.int .u8 0)) 5)) := by kernel_rfl
theorem dinfo5 : (Tryz.prog.info? 5).map (fun i => (i.zero, i.size, i.bytes)) = some (some (.int .u8 0), 1, 1) := by kernel_rfl
/-- the bytes of the first k words -/
def tl (st : Nat → Int) : Nat → List Int
  | 0 => []
  | k + 1 => tl st k ++ [st k / 16777216 % 256, st k / 65536 % 256, st k / 256 % 256, st k % 256]
theorem tl_len (st : Nat → Int) (k : Nat) : (tl st k).length = 4 * k := by
  induction k with
  | zero => rfl
  | succ k ih => simp [tl, ih]; omega
set_option maxHeartbeats 1000000 in
set_option maxRecDepth 100000 in
theorem told_any (st : Nat → Int) (w : World) :
    Calls Tryz.prog 188 #[.agg (row 8 st)] w fun e w' => e = .returned (.string (strOfNums (tl st 8))) ∧ Below w.heap.size w w' := by
  have hmk := make32
  have hA : Words ((w.alloc (Obj.cells (row 8 st) 294)).alloc (Obj.cells (Array.replicate 32 (Value.int IntKind.u8 0)) 5)) w.heap.size 8 294 st := heap_alloc2_old _ _ _
  have hld8 : (Tryz.prog.info? 294).map (·.size) = some (row 8 st).size := by rw [row_size]; exact info26
  go_enter Tryz.func188, Tryz.ntmps188
  go_wp2_with (refine wpList_load_row rfl 294 (.tmp 1) rfl w.heap.size rfl 294 (row 8 st) (0, 0) _ (heap_alloc2_old _ _ _) Tryz.underlying294 rfl hld8 ?_)
  obtain ⟨i0, hi, hz0, hz1, hz2⟩ := info_parts dinfo5
  go_loopw [8, 3] (fun i v wr => ∃ k : Nat, k ≤ 8 ∧ i = .int .i64 k ∧ v = .slice (some ⟨w.heap.size + 1, 0, none⟩) (4 * k) 32 ∧ wr.ownsRow (w.heap.size + 1) 5 1 (.slice (some ⟨w.heap.size + 1, 0, none⟩) (4 * k) 32) (4 * k) ((tl st k).map (Value.int .u8)) ∧ Below w.heap.size w wr) (fun i _ _ => 8 - (intOf i).toNat)
  case atStart =>
    refine ⟨0, by omega, rfl, rfl, ⟨rfl, Or.inr ⟨w.heap.size + 1, 32, _, rfl, Nat.le_refl _, heap_alloc2_new _ _ _, by omega, by unfold maxLen; omega, by simp, by simp [tl]⟩⟩, ((Below.refl _ _).alloc (Nat.le_refl _) _).alloc (by simp) _⟩
  case round =>
    obtain ⟨k, hk, rfl, rfl, hown, hb⟩ := hrel
    by_cases hlt : k < 8
    · have hix := fun Wx => index_row 8 294 st k hlt Wx Tryz.underlying294
      go_wp2_with (at_builtin; refine wpList_append_fits _ rfl (.tmp 11) (.tmp 23) 165 rfl (w.heap.size + 1) 5 i0 1 Tryz.underlying165 hi hz1 (w.heap.size + 1) (4 * k) 32 ((tl st k).map (Value.int .u8)) rfl (hown.alloc _) ⟨wr.heap.size, 0, none⟩ 4 4 [.int .u8 (st k / 16777216 % 256), .int .u8 (st k / 65536 % 256), .int .u8 (st k / 256 % 256), .int .u8 (st k % 256)] rfl rfl ?c1 ?c2 ?c3 ?_)
      case c1 =>
        intro j u hj
        match j, hj with
        | 0, hj => simp at hj; subst hj; simp [Addr.add]
        | 1, hj => simp at hj; subst hj; simp [Addr.add]
        | 2, hj => simp at hj; subst hj; simp [Addr.add]
        | 3, hj => simp at hj; subst hj; simp [Addr.add]
      case c2 => intro u hu; simp at hu; rcases hu with rfl | rfl | rfl | rfl <;> rfl
      case c3 => omega
      intro w' hown' hgrow
      have hb' : Below w.heap.size w w' := (hb.alloc (by have := hb.size; omega) _).grown hgrow (by have := hb.size; simp; omega) (fun k hk => by cases hk; omega)
      have hown2 : w'.ownsRow (w.heap.size + 1) 5 1 (.slice (some ⟨w.heap.size + 1, 0, none⟩) (4 * (k + 1)) 32) (4 * (k + 1)) ((tl st (k + 1)).map (Value.int .u8)) := by
        have e : 4 * (k + 1) = 4 * k + 4 := by omega
        rw [e]; simpa [tl] using hown'
      clear hown' hgrow hown hb
      go_wp2
      go_roundw
      case rel => exact ⟨k + 1, by omega, by go_num, by congr 1, hown2, hb'⟩
      case measure => simp [intOf]; omega
    · have hk8 : k = 8 := by omega
      subst hk8
      have hcv := run_convert_bytes_arg (P := Tryz.prog) wr 165 5 Tryz.underlying165 Tryz.underlying5 (w.heap.size + 1) 0 32 32 (tl st 8) (tl_len st 8) (fun i hi => by
        rw [Nat.zero_add, hown.cellAt i (by omega)]
        have hl : i < (tl st 8).length := by rw [tl_len]; omega
        rw [List.getElem?_map, List.getElem?_eq_getElem hl, List.getD_eq_getElem?_getD, List.getElem?_eq_getElem hl]; rfl) 9 Tryz.underlying9
      go_wp2
      go_ret
      exact ⟨rfl, hb⟩
end Go.Proofs.YtadinjaocnlglaaGreatDoor
namespace Go.Proofs.YtadinjaocnlglaaGreatDoor
open Go.RowKit
/-- n bytes in a row -/
def brow (n : Nat) (f : Nat → Int) : Array Value := Array.ofFn (n := n) fun i => Value.int .u8 (f i.val)
theorem brow_size (n : Nat) (f : Nat → Int) : (brow n f).size = n := by simp [brow]
theorem brow_get (n : Nat) (f : Nat → Int) (k : Nat) (h : k < n) : (brow n f)[k]? = some (.int .u8 (f k)) := by
  simp [brow, h]
theorem brow_none (n : Nat) (f : Nat → Int) (k : Nat) (h : ¬ k < n) : (brow n f)[k]? = none := by
  simp [brow, h]
theorem brow_set (n : Nat) (f : Nat → Int) (k : Nat) (v : Int) : (brow n f).setIfInBounds k (.int .u8 v) = brow n (upd f k v) := by
  apply Array.ext_getElem?
  intro i
  rw [Array.getElem?_setIfInBounds, brow_size]
  by_cases hi : i < n
  · rw [brow_get n f i hi, brow_get n _ i hi]
    by_cases h : k = i
    · subst h; simp [hi, upd]
    · simp [h, upd, Ne.symm h]
  · rw [brow_none n f i hi, brow_none n _ i hi]
    by_cases h : k = i
    · subst h; simp [hi]
    · simp [h]
/-- the block g holds n bytes -/
def Byts (w : World) (g n : Nat) (f : Nat → Int) : Prop := w.heap[g]? = some (.cells (brow n f) 5 (0, 0))
theorem Byts.cell {w : World} {g n : Nat} {f : Nat → Int} (h : Byts w g n f) (k : Nat) (hk : k < n) : w.cell? ⟨g, k, none⟩ = some (.int .u8 (f k)) := by
  rw [cell_of_row w g k _ 5 _ h, brow_get n f k hk]
theorem Byts.free {w : World} {g n : Nat} {f : Nat → Int} (h : Byts w g n f) (k : Nat) : w.frozen? ⟨g, k, none⟩ = false := frozen_of_row w g k _ 5 h
theorem Byts.put {w : World} {g n : Nat} {f : Nat → Int} (h : Byts w g n f) (k : Nat) (v : Int) : Byts (w.setCell ⟨g, k, none⟩ (.int .u8 v)) g n (upd f k v) := by
  have := heap_setCell_same w g k _ 5 (.int .u8 v) h
  rwa [brow_set] at this
theorem Byts.to {w : World} {g n : Nat} {f h : Nat → Int} (b : Byts w g n f) (e : ∀ j, j < n → f j = h j) : Byts w g n h := by
  have : brow n f = brow n h := by
    apply Array.ext
    · simp [brow]
    · intro i h1 h2
      simp only [brow, Array.getElem_ofFn]
      rw [e i (by simpa [brow] using h1)]
  unfold Byts; rw [← this]; exact b
/-- behind a copy of a text into the row's head -/
def over (s : ByteArray) (f : Nat → Int) : Nat → Int := fun j => if j < s.size then byt s j else f j
theorem byt_get (s : ByteArray) (i : Nat) (h : i < s.size) : byt s i = ((s.data[i]'h).toNat : Int) := by
  have hs : i < s.data.toList.length := h
  unfold byt
  rw [List.getD_eq_getElem?_getD, List.getElem?_eq_getElem hs]
  rfl
theorem run_copy_text {w : World} {g n : Nat} {f : Nat → Int} (h : Byts w g n f) (s : ByteArray) (hs : s.size ≤ n) (cap : Nat) (ty sT : TypeId) :
    (Builtin.copy_ #[165, sT] ty #[.slice (some ⟨g, 0, none⟩) n cap, .string s]).run Tryz.prog w = .ok (goInt s.size) (w.setRow g (brow n (over s f))) := by
  have hmin : Nat.min s.size n = s.size := Nat.min_eq_left hs
  have hsz : (Tryz.prog.info? 5).map (·.size) = some 1 := by kernel_rfl
  have hst := run_storeCells_at Tryz.prog g 0 5 ((s.extract 0 s.size).data.map fun b => Value.int .u8 b.toNat).toList 0 (brow n f) w h (by simp [brow_size]; omega) (by intro v hv; simp at hv; obtain ⟨b, _, rfl⟩ := hv; rfl)
  have he : s.extract 0 s.size = s := by simp
  have erow : ((brow n f).toList.take (0 + 0) ++ ((s.extract 0 s.size).data.map fun b => Value.int .u8 b.toNat).toList ++ (brow n f).toList.drop (0 + 0 + ((s.extract 0 s.size).data.map fun b => Value.int .u8 b.toNat).toList.length)).toArray = brow n (over s f) := by
    rw [he]
    apply Array.ext_getElem?
    intro i
    by_cases hi : i < n
    · rw [brow_get n _ i hi]
      by_cases h1 : i < s.size
      · simp [over, h1, byt_get s i h1, List.getElem?_append]
      · have e2 : s.size + (i - s.size) = i := by omega
        have hbi := brow_get n f i hi
        simp [over, h1, List.getElem?_append, e2, hbi]
    · have h1 : ¬ i < s.size := by omega
      have e2 : s.size + (i - s.size) = i := by omega
      have hbi := brow_none n f i hi
      rw [brow_none n _ i hi]
      simp [List.getElem?_append, h1, e2, hbi]
  rw [erow] at hst
  cases hq : Tryz.prog.info? 5 with
  | none => simp [hq] at hsz
  | some i =>
    simp [Builtin.copy_, run_underlying Tryz.underlying165, Builtin.lenOf, Builtin.firstCells, sizeOf, typeInfo, hq, hmin]
    rw [he] at hst
    have el : List.take s.size (List.map (fun b => Value.int IntKind.u8 (b.toNat : Int)) s.data.toList) = (Array.map (fun b => Value.int IntKind.u8 (b.toNat : Int)) s.data).toList := by
      rw [List.take_of_length_le (by simp), Array.toList_map]
    rw [el, hst]
    rfl
theorem wpList_copy_text {w : World} {ops : Array Oper} {rest : List Oper} {o : Oper} {a : Act} {Q : Exit → Act → World → Prop} (hgd : o.guard = none) (d s : Operand)
    (ho : o.op = .call { callee := .builtin .copy, args := #[d, s], argTypes := #[165, 9] }) (g n cap : Nat) (f : Nat → Int) (h : Byts w g n f) (t : ByteArray) (ht : t.size ≤ n)
    (hd : a.eval d = .slice (some ⟨g, 0, none⟩) n cap) (hs : a.eval s = .string t)
    (hK : ∀ w2, Hid (w2 = w.setRow g (brow n (over t f))) → wpList Tryz.prog ops Q rest (a.put o.dst (goInt t.size)) w2) : wpList Tryz.prog ops Q (o :: rest) a w := by
  refine wpList_plain hgd fun K hK' => ?_
  have hrun := run_copy_text h t ht cap o.type 9
  unfold Oper.wp
  simp [execOp, ho, resolve, invoke, builtin, hd, hs, hrun, Result.andThen]
  exact hK' _ _ (hK _ rfl)
theorem byts_setRow {w : World} {g n : Nat} {old : Array Value} (f : Nat → Int) (h : w.heap[g]? = some (.cells old 5 (0, 0))) : Byts (w.setRow g (brow n f)) g n f := setRow_heap w g old _ 5 _ h
/-- n bytes that are told by a function, as a text -/
def txt (n : Nat) (f : Nat → Int) : ByteArray := strOfNums ((List.range n).map f)
theorem convert_byts {w : World} {g n : Nat} {f : Nat → Int} (h : Byts w g n f) (cap : Nat) : (convert 165 9 (.slice (some ⟨g, 0, none⟩) n cap)).run Tryz.prog w = .ok (.string (txt n f)) w := by
  refine run_convert_bytes_arg (P := Tryz.prog) w 165 5 Tryz.underlying165 Tryz.underlying5 g 0 n cap ((List.range n).map f) (by simp) (fun i hi => ?_) 9 Tryz.underlying9
  rw [Nat.zero_add, h.cell i hi]
  simp [hi]
end Go.Proofs.YtadinjaocnlglaaGreatDoor
