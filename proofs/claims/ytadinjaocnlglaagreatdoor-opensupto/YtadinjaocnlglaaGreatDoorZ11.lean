/-
  Rows of bytes in a block; a text copied into one; the bytes of texts.
  The walk of vaultref.padded.
  The walk of digest.mix.
  The walk of digest.mixAll.
  The walk of digest.padded.
  The walk of digest.Of.
-/
import Derived.Test.YtadinjaocnlglaaGreatDoorZ10
import Derived.Laws.CopyRow
import Derived.Laws.BytesArg
import Derived.WalkKit
import Derived.WalkSpells
import Derived.WalkLawsBesides
import Derived.BigRegion
import Derived.BigQuiet
import Derived.Deep.QuietTactic
import Derived.Deep.RegionWith
import Derived.Test.YtadinjaocnlglaaGreatDoorZ09
namespace Go.Proofs.YtadinjaocnlglaaGreatDoor
open Go.RowKit
def brow (n : Nat) (f : Nat → Int) : Array Value := Array.ofFn (n := n) fun i => Value.int .u8 (f i.val)
theorem brow_size (n : Nat) (f : Nat → Int) : (brow n f).size = n := by simp [brow]
theorem brow_get (n : Nat) (f : Nat → Int) (k : Nat) (h : k < n) : (brow n f)[k]? = some (.int .u8 (f k)) := by
 simp [brow, h]
theorem brow_none (n : Nat) (f : Nat → Int) (k : Nat) (h : ¬ k < n) : (brow n f)[k]? = none := by
 simp [brow, h]
theorem brow_set (n : Nat) (f : Nat → Int) (k : Nat) (v : Int) : (brow n f).setIfInBounds k (.int .u8 v) = brow n (upd f k v) := by
 apply Array.ext_getElem?
 intro i
 rw [Array.getElem?_setIfInBounds, brow_size]
 by_cases hi : i < n
 ·rw [brow_get n f i hi, brow_get n _ i hi]
  by_cases h : k = i
  ·subst h; simp [hi, upd]
  ·simp [h, upd, Ne.symm h]
 ·rw [brow_none n f i hi, brow_none n _ i hi]
  by_cases h : k = i
  ·subst h; simp [hi]
  ·simp [h]
def Byts (w : World) (g n : Nat) (f : Nat → Int) : Prop := w.heap[g]? = some (.cells (brow n f) 5 (0, 0))
theorem Byts.cell {w : World} {g n : Nat} {f : Nat → Int} (h : Byts w g n f) (k : Nat) (hk : k < n) : w.cell? ⟨g, k, none⟩ = some (.int .u8 (f k)) := by
 rw [cell_of_row w g k _ 5 _ h, brow_get n f k hk]
theorem Byts.free {w : World} {g n : Nat} {f : Nat → Int} (h : Byts w g n f) (k : Nat) : w.frozen? ⟨g, k, none⟩ = false := frozen_of_row w g k _ 5 h
theorem Byts.put {w : World} {g n : Nat} {f : Nat → Int} (h : Byts w g n f) (k : Nat) (v : Int) : Byts (w.setCell ⟨g, k, none⟩ (.int .u8 v)) g n (upd f k v) := by
 have := heap_setCell_same w g k _ 5 (.int .u8 v) h
 rwa [brow_set] at this
theorem Byts.to {w : World} {g n : Nat} {f h : Nat → Int} (b : Byts w g n f) (e : ∀ j, j < n → f j = h j) : Byts w g n h := by
 have : brow n f = brow n h := by
  apply Array.ext
  ·simp [brow]
  ·intro i h1 h2
   simp only [brow, Array.getElem_ofFn]
   rw [e i (by simpa [brow] using h1)]
 unfold Byts; rw [← this]; exact b
def over (s : ByteArray) (f : Nat → Int) : Nat → Int := fun j => if j < s.size then byt s j else f j
theorem byt_get (s : ByteArray) (i : Nat) (h : i < s.size) : byt s i = ((s.data[i]'h).toNat : Int) := by
 have hs : i < s.data.toList.length := h
 unfold byt
 rw [List.getD_eq_getElem?_getD, List.getElem?_eq_getElem hs]
 rfl
theorem run_copy_text {w : World} {g n : Nat} {f : Nat → Int} (h : Byts w g n f) (s : ByteArray) (hs : s.size ≤ n) (cap : Nat) (ty sT : TypeId) :
  (Builtin.copy_ #[165, sT] ty #[.slice (some ⟨g, 0, none⟩) n cap, .string s]).run Tryz.prog w = .ok (goInt s.size) (w.setRow g (brow n (over s f))) := by
 have hmin : Nat.min s.size n = s.size := Nat.min_eq_left hs
 have hsz : (Tryz.prog.info? 5).map (·.size) = some 1 := by kernel_rfl
 have hst := run_storeCells_at Tryz.prog g 0 5 ((s.extract 0 s.size).data.map fun b => Value.int .u8 b.toNat).toList 0 (brow n f) w h (by simp [brow_size]; omega) (by intro v hv; simp at hv; obtain ⟨b, _, rfl⟩ := hv; rfl)
 have he : s.extract 0 s.size = s := by simp
 have erow : ((brow n f).toList.take (0 + 0) ++ ((s.extract 0 s.size).data.map fun b => Value.int .u8 b.toNat).toList ++ (brow n f).toList.drop (0 + 0 + ((s.extract 0 s.size).data.map fun b => Value.int .u8 b.toNat).toList.length)).toArray = brow n (over s f) := by
  rw [he]
  apply Array.ext_getElem?
  intro i
  by_cases hi : i < n
  ·rw [brow_get n _ i hi]
   by_cases h1 : i < s.size
   ·simp [over, h1, byt_get s i h1, List.getElem?_append]
   ·have e2 : s.size + (i - s.size) = i := by omega
    have hbi := brow_get n f i hi
    simp [over, h1, List.getElem?_append, e2, hbi]
  ·have h1 : ¬ i < s.size := by omega
   have e2 : s.size + (i - s.size) = i := by omega
   have hbi := brow_none n f i hi
   rw [brow_none n _ i hi]
   simp [List.getElem?_append, h1, e2, hbi]
 rw [erow] at hst
 cases hq : Tryz.prog.info? 5 with
 | none => simp [hq] at hsz
 | some i =>
  simp [Builtin.copy_, run_underlying Tryz.underlying165, Builtin.lenOf, Builtin.firstCells, sizeOf, typeInfo, hq, hmin]
  rw [he] at hst
  have el : List.take s.size (List.map (fun b => Value.int IntKind.u8 (b.toNat : Int)) s.data.toList) = (Array.map (fun b => Value.int IntKind.u8 (b.toNat : Int)) s.data).toList := by
   rw [List.take_of_length_le (by simp), Array.toList_map]
  rw [el, hst]
  rfl
theorem wpList_copy_text {w : World} {ops : Array Oper} {rest : List Oper} {o : Oper} {a : Act} {Q : Exit → Act → World → Prop} (hgd : o.guard = none) (d s : Operand)
  (ho : o.op = .call { callee := .builtin .copy, args := #[d, s], argTypes := #[165, 9] }) (g n cap : Nat) (f : Nat → Int) (h : Byts w g n f) (t : ByteArray) (ht : t.size ≤ n)
  (hd : a.eval d = .slice (some ⟨g, 0, none⟩) n cap) (hs : a.eval s = .string t)
  (hK : ∀ w2, Hid (w2 = w.setRow g (brow n (over t f))) → wpList Tryz.prog ops Q rest (a.put o.dst (goInt t.size)) w2) : wpList Tryz.prog ops Q (o :: rest) a w := by
 refine wpList_plain hgd fun K hK' => ?_
 have hrun := run_copy_text h t ht cap o.type 9
 unfold Oper.wp
 simp [execOp, ho, resolve, invoke, builtin, hd, hs, hrun, Result.andThen]
 exact hK' _ _ (hK _ rfl)
theorem byts_setRow {w : World} {g n : Nat} {old : Array Value} (f : Nat → Int) (h : w.heap[g]? = some (.cells old 5 (0, 0))) : Byts (w.setRow g (brow n f)) g n f := setRow_heap w g old _ 5 _ h
def txt (n : Nat) (f : Nat → Int) : ByteArray := strOfNums ((List.range n).map f)
theorem convert_byts {w : World} {g n : Nat} {f : Nat → Int} (h : Byts w g n f) (cap : Nat) : (convert 165 9 (.slice (some ⟨g, 0, none⟩) n cap)).run Tryz.prog w = .ok (.string (txt n f)) w := by
 refine run_convert_bytes_arg (P := Tryz.prog) w 165 5 Tryz.underlying165 Tryz.underlying5 g 0 n cap ((List.range n).map f) (by simp) (fun i hi => ?_) 9 Tryz.underlying9
 rw [Nat.zero_add, h.cell i hi]
 simp [hi]
def refA (s : ByteArray) : Nat → ByteArray
 | 0 => s ++ ⟨#[128]⟩
 | k + 1 => refA s k ++ ⟨#[0]⟩
theorem refA_size (s : ByteArray) (k : Nat) : (refA s k).size = s.size + 1 + k := by
 induction k with
 | zero => simp [refA]; rfl
 | succ k ih => simp [refA, ih]; rfl
def lenV : Value → Nat | .string s => s.size | _ => 0
def nz (s : ByteArray) : Nat := (119 - s.size % 64) % 64
def refB (a s : ByteArray) : Nat → ByteArray
 | 0 => a
 | j + 1 => refB a s j ++ strOfNums [((s.size : Int) * 8 / 2 ^ (8 * (7 - j))).tmod 256 % 256]
theorem refB_size (a s : ByteArray) (k : Nat) : (refB a s k).size = a.size + k := by
 induction k with
 | zero => rfl
 | succ k ih => simp [refB, ih, strOfNums_size]; omega
def refT (s : ByteArray) : ByteArray := refB (refA s (nz s)) s 8
set_option maxHeartbeats 1000000 in
set_option maxRecDepth 100000 in
theorem refpad_any (s : ByteArray) (w : World) (h0 : s.size ≤ 140737488351232) :
  Calls Tryz.prog 233 #[.string s] w fun e w' => e = .returned (.string (refT s)) ∧ Below w.heap.size w w' := by
 have hz : nz s < 64 := by unfold nz; omega
 have HZ : Hid ((s.size + 1 + nz s) % 64 = 56) := by show (s.size + 1 + nz s) % 64 = 56; unfold nz; omega
 have HZ2 : Hid (∀ k, k < nz s → (s.size + 1 + k) % 64 ≠ 56) := by show ∀ k, k < nz s → (s.size + 1 + k) % 64 ≠ 56; intro k; unfold nz; omega
 have hT : Hid (refT s = refB (refA s (nz s)) s 8) := rfl
 obtain ⟨z, hzz⟩ : ∃ z, z = nz s := ⟨_, rfl⟩
 rw [← hzz] at hz HZ HZ2 hT
 clear hzz
 go_enter Tryz.func233, Tryz.ntmps233
 go_wp2
 go_loop [3] (fun v => ∃ k : Nat, k ≤ z ∧ v = .string (refA s k)) (fun v => s.size + 1 + z - lenV v)
 case atStart => exact ⟨0, by omega, rfl⟩
 case round =>
  obtain ⟨k, hk, rfl⟩ := hrel
  obtain ⟨a, ha⟩ : ∃ a, a = refA s k := ⟨_, rfl⟩
  rw [← ha]
  have HA : Hid (a = refA s k) := ha
  have hal : (a.size : Int) = s.size + 1 + k := by rw [ha, refA_size]; omega
  have hal2 : a.size ≤ 140737488355328 := by omega
  have HAL : Hid ((a.size : Int) = s.size + 1 + k) := hal
  clear ha hal
  by_cases hlt : k < z
  ·have hne : ((a.size : Int) % 64 != 56) = true := by have := HZ2.out k hlt; have := HAL.out; rw [bne_iff_ne]; omega
   go_wp2
   go_round
   case rel => exact ⟨k + 1, by omega, by rw [HA.out]; rfl⟩
   case measure => have := HAL.out; have e : (a ++ (⟨#[0]⟩ : ByteArray)).size = a.size + 1 := (by simp; rfl); simp only [lenV]; omega
  ·have hkz : k = z := by omega
   subst hkz
   have hne : ((a.size : Int) % 64 != 56) = false := by have := HZ.out; have := HAL.out; rw [bne_eq_false_iff_eq]; omega
   go_wp2
   go_loopw [5, 3] (fun i v wr => ∃ j : Nat, j ≤ 8 ∧ i = .int .i64 (7 - j) ∧ v = .string (refB a s j) ∧ Below w.heap.size w wr) (fun i _ _ => ((intOf i) + 1).toNat)
   case atStart => exact ⟨0, by omega, rfl, rfl, Below.refl _ _⟩
   case round =>
    obtain ⟨j, hj, rfl, rfl, hb⟩ := hrel
    obtain ⟨c, hc⟩ : ∃ c, c = refB a s j := ⟨_, rfl⟩
    rw [← hc]
    have HC : Hid (c = refB a s j) := hc
    have hcl : c.size ≤ 140737488355340 := by rw [hc, refB_size]; omega
    clear hc
    by_cases hlt : j < 8
    ·have hcv := run_convert_bytes_arg (P := Tryz.prog) (wr.alloc (Obj.cells #[Value.int IntKind.u8 (((s.size : Int) * 8 / 2 ^ (8 * (7 - j))).tmod 256 % 256)] 5)) 165 5 Tryz.underlying165 Tryz.underlying5 wr.heap.size 0 1 1 [((s.size : Int) * 8 / 2 ^ (8 * (7 - j))).tmod 256 % 256] rfl (fun i hi => by
      obtain rfl : i = 0 := by omega
      rw [cell_of_row _ _ _ _ 5 (0, 0) (heap_alloc_new wr _)]; rfl) 9 Tryz.underlying9
     have hsz1 : (strOfNums [((s.size : Int) * 8 / 2 ^ (8 * (7 - j))).tmod 256 % 256]).size = 1 := rfl
     go_wp2
     go_roundw
     case rel => exact ⟨j + 1, by omega, by go_num, by rw [HC.out]; rfl, hb.alloc hb.size _⟩
     case measure => simp [intOf]; omega
    ·have hj8 : j = 8 := by omega
     subst hj8
     go_wp2
     go_ret
     exact ⟨by rw [hT.out, ← HA.out, ← HC.out]; rfl, hb⟩
set_option maxHeartbeats 1000000 in
set_option maxRecDepth 100000 in
theorem mix_any (kt : Nat → Int) (st : Nat → Int) (s : ByteArray) (w : World) (h0 : s.size = 64) (hT : Tab w 2 kt) (h3 : 4 ≤ w.heap.size) :
  Calls Tryz.prog 226 #[.agg (row 8 st), .string s] w fun e w' => e = .returned (.agg (row 8 (press kt (wrd (iniP s)) st))) ∧ Below w.heap.size w w' := by
 have HT : Hid _ := hT
 clear hT
 go_enter Tryz.func226, Tryz.ntmps226
 go_wp2_with fail
 refine (sched_any s _ h0).mono ?_
 rintro e w1 ⟨rfl, hb1⟩
 have hsz1 : w.heap.size + 2 ≤ w1.heap.size := by have := hb1.size; simpa using this
 have hA1 : Words w1 w.heap.size 8 294 st := Words.below (heap_alloc2_old _ _ _) hb1 (by simp; omega)
 have hR1 : Words w1 (w.heap.size + 1) 8 294 (fun _ => 0) := Words.below (heap_alloc2_new _ _ _) hb1 (by simp)
 have hB1 : Below w.heap.size w w1 := (((Below.refl _ _).alloc (Nat.le_refl _) _).alloc (by simp) _).trans (hb1.mono (by simp; omega))
 have hld : (Tryz.prog.info? 372).map (·.size) = some (row 64 (wrd (iniP s))).size := by rw [row_size]; exact info32
 clear hb1
 generalize hW : wrd (iniP s) = W at *
 have HW : Hid (wrd (iniP s) = W) := hW
 clear hW
 go_wp2_with (refine wpList_store_row_at rfl rfl 372 (.tmp 5) (.tmp 23) rfl w1.heap.size (row 64 W) rfl rfl 372 _ (heap_alloc_new w1 _) hld (by rw [row_size]; rfl) (row_ones _ _) ?_; intro w2 hw2)
 have M2 : Mem w w1.heap.size st (fun _ => 0) W w2 := by
  refine ⟨?_, ?_, ?_, ?_, hsz1, ?_⟩
  ·rw [hw2.out]; exact (hA1.alloc _).setRow_other _ _ (by omega)
  ·rw [hw2.out]; exact (hR1.alloc _).setRow_other _ _ (by omega)
  ·rw [hw2.out]; exact words_setRow W (heap_alloc_new w1 _)
  ·rw [hw2.out]; exact below_setRow (hB1.alloc (by omega) _) _ (by omega) _
  ·rw [hw2.out]; simp
 clear hw2 hA1 hR1 hB1 hsz1
 have c0 := M2.own.cell 0 (by omega)
 have c1 := M2.own.cell 1 (by omega)
 have c2 := M2.own.cell 2 (by omega)
 have c3 := M2.own.cell 3 (by omega)
 go_quiet (fail)
 go_wp2
 obtain ⟨w3, hw3⟩ : ∃ wq, wq = w2.drewN nq := ⟨_, rfl⟩
 rw [← hw3]
 have M3 : Mem w w1.heap.size st (fun _ => 0) W w3 := by rw [hw3]; exact M2.drewN _
 clear hw3 c0 c1 c2 c3 M2
 have c4 := M3.own.cell 4 (by omega)
 have c5 := M3.own.cell 5 (by omega)
 have c6 := M3.own.cell 6 (by omega)
 have c7 := M3.own.cell 7 (by omega)
 go_quiet (fail)
 obtain ⟨w4, hw4⟩ : ∃ wq, wq = w3.drewN nq := ⟨_, rfl⟩
 rw [← hw4]
 have M4 : Mem w w1.heap.size st (fun _ => 0) W w4 := by rw [hw4]; exact M3.drewN _
 clear hw4 c4 c5 c6 c7 M3
 have hw4 : Words w4 w1.heap.size 64 372 W := M4.wrd
 go_wp2_with (refine wpList_load_row rfl 372 (.tmp 5) rfl w1.heap.size rfl 372 (row 64 W) (0, 0) _ hw4 Tryz.underlying372 rfl hld ?_)
 go_loop [41, 6, 7, 8, 9, 10, 11, 12, 13] (fun i a b c d e f g h => ∃ k : Nat, k ≤ 64 ∧ i = .int .i64 k ∧ a = .int .u32 (rounds kt W st k 0) ∧ b = .int .u32 (rounds kt W st k 1) ∧ c = .int .u32 (rounds kt W st k 2) ∧ d = .int .u32 (rounds kt W st k 3) ∧ e = .int .u32 (rounds kt W st k 4) ∧ f = .int .u32 (rounds kt W st k 5) ∧ g = .int .u32 (rounds kt W st k 6) ∧ h = .int .u32 (rounds kt W st k 7)) (fun i _ _ _ _ _ _ _ _ => 64 - (intOf i).toNat)
 case atStart => exact ⟨0, by omega, rfl, rfl, rfl, rfl, rfl, rfl, rfl, rfl, rfl⟩
 case round =>
  obtain ⟨k, hk, rfl, rfl, rfl, rfl, rfl, rfl, rfl, rfl, rfl⟩ := hrel
  by_cases hlt : k < 64
  ·have hKc : w4.cell? ⟨2, k, none⟩ = some (.int .u32 (kt k)) := Tab.below HT.out M4.below (by omega) k hlt
   have hix := fun Wx => index_row 64 372 W k hlt Wx Tryz.underlying372
   obtain ⟨x, hx⟩ : ∃ x, rounds kt W st k = x := ⟨_, rfl⟩
   have HS : Hid (rounds kt W st (k + 1) = rnd x (kt k) (W k)) := by rw [← hx]; rfl
   rw [hx]
   clear hx
   go_wp2_with (go_at_call 266; refine (rot_at _ _ _ (by decide) (by decide)).mono ?_; rintro e w' ⟨rfl, rfl⟩)
   go_round
   case rel =>
    refine ⟨k + 1, by omega, by go_num, ?_⟩
    rw [HS.out]
    exact ⟨congrArg (Value.int .u32) (rnd_a x _ _), rfl, rfl, rfl, congrArg (Value.int .u32) (rnd_e x _ _), rfl, rfl, rfl⟩
   case measure => simp [intOf]; omega
  ·have hk64 : k = 64 := by omega
   subst hk64
   have hlo : w.heap.size + 2 ≤ w4.heap.size := by have := M4.lo; have := M4.size; omega
   obtain ⟨x, hx⟩ : ∃ x, rounds kt W st 64 = x := ⟨_, rfl⟩
   have HX : Hid (rounds kt W st 64 = x) := hx
   rw [hx]
   clear hx
   go_wp2
   go_loopw [115] (fun i wr => ∃ k : Nat, k ≤ 8 ∧ i = .int .i64 k ∧ SumMem w w4.heap.size st x k wr) (fun i _ => 8 - (intOf i).toNat)
   case atStart => exact ⟨0, by omega, rfl, M4.below.alloc (by omega) _, M4.own.alloc _, M4.res.alloc _, x, heap_alloc_new w4 _, fun j hj => by omega, fun j _ => rfl⟩
   case round =>
    clear M4
    obtain ⟨k, hk, rfl, S⟩ := hrel
    by_cases hlt : k < 8
    ·obtain ⟨f, hf, hf1, hf2⟩ := S.sum
     have c1 := hf.cell k hlt
     rw [hf2 k (Nat.le_refl _)] at c1
     have c2 := hf.free k
     have c3 := S.own.cell k hlt
     clear hf1 hf2 hf
     go_wp2
     go_region
     go_wp2
     go_roundw
     case rel => exact ⟨k + 1, by omega, by go_num, S.drew.step (by omega)⟩
     case measure => simp [intOf]; omega
    ·have hk8 : k = 8 := by omega
     subst hk8
     obtain ⟨f, hf, hf1, hf2⟩ := S.sum
     have HF : Hid _ := hf1
     clear hf1 hf2
     have hR := S.res
     have hld8 : (Tryz.prog.info? 294).map (·.size) = some (row 8 f).size := by rw [row_size]; exact info26
     have hold8 : (row 8 (fun _ => 0)).size = (row 8 f).size := by simp [row_size]
     go_wp2_with (first | (refine wpList_load_row rfl 294 (.tmp 20) rfl w4.heap.size rfl 294 (row 8 f) (0, 0) _ hf Tryz.underlying294 rfl hld8 ?_) | (refine wpList_store_row rfl 294 (.tmp 4) (.tmp 127) rfl (w.heap.size + 1) (row 8 f) rfl rfl 294 (row 8 fun _ => 0) hR hld8 hold8 (row_ones _ _) ?_))
     have e : row 8 f = row 8 (press kt W st) := row_congr 8 _ _ (by
      intro j hj; rw [HF.out j hj]; unfold press; rw [HX.out])
     refine bodyPost_ret (v := .agg (row 8 f)) ?_ rfl ?_
     ·exact results_cell_row Tryz.results226 _ _ (w.heap.size + 1) 294 (row 8 f) (0, 0) _ rfl (setRow_heap wr (w.heap.size + 1) _ _ 294 (0, 0) hR) Tryz.underlying294 rfl hld8
     ·rw [e, ← HW.out]
      exact ⟨rfl, below_setRow S.below _ (by omega) _⟩
theorem mix_at (kt : Nat → Int) (st : Nat → Int) (s : ByteArray) (w : World) (h0 : s.size = 64) (hT : Tab w 2 kt) (h3 : 4 ≤ w.heap.size) :
  Calls Tryz.prog 226 #[.agg (row 8 st), .string s] w fun e w' => e = .returned (.agg (row 8 (press kt (wrd (iniR s)) st))) ∧ Below w.heap.size w w' := by
 rw [← wrd_eq]; exact mix_any kt st s w h0 hT h3
theorem mix_lit (kt : Nat → Int) (st : Nat → Int) (s : ByteArray) (w : World) (h0 : s.size = 64) (hT : Tab w 2 kt) (h3 : 4 ≤ w.heap.size) :
  Calls Tryz.prog 226 #[.agg #[.int .u32 (st 0), .int .u32 (st 1), .int .u32 (st 2), .int .u32 (st 3), .int .u32 (st 4), .int .u32 (st 5), .int .u32 (st 6), .int .u32 (st 7)], .string s] w fun e w' => ∃ y, Hid (y = press kt (wrd (iniR s)) st) ∧
   e = .returned (.agg #[.int .u32 (y 0), .int .u32 (y 1), .int .u32 (y 2), .int .u32 (y 3), .int .u32 (y 4), .int .u32 (y 5), .int .u32 (y 6), .int .u32 (y 7)]) ∧ Below w.heap.size w w' :=
 (mix_at kt st s w h0 hT h3).mono fun _ _ h => ⟨_, rfl, h.1, h.2⟩
set_option maxHeartbeats 1000000 in
set_option maxRecDepth 100000 in
theorem mixAll_any (kt : Nat → Int) (st : Nat → Int) (s : ByteArray) (n : Nat) (w : World) (h0 : s.size = 64 * n) (hn : n ≤ 2199023255552) (hT : Tab w 2 kt) (h3 : 4 ≤ w.heap.size) :
  Calls Tryz.prog 186 #[.agg (row 8 st), .string s] w fun e w' => e = .returned (.agg (row 8 (pcs kt s st n))) ∧ Below w.heap.size w w' := by
 have HT : Hid _ := hT
 clear hT
 have H0 : Hid _ := h0
 have hsz : s.size ≤ 140737488355328 := by omega
 clear h0
 go_enter Tryz.func186, Tryz.ntmps186
 go_wp2
 go_loopw [5] (fun i wr => ∃ k : Nat, k ≤ n ∧ i = .int .i64 ((64 * k : Nat) : Int) ∧ Below w.heap.size w wr ∧ Words wr (w.heap.size + 1) 8 294 (fun _ => 0) ∧ Words wr w.heap.size 8 294 (pcs kt s st k)) (fun i _ => s.size - (intOf i).toNat)
 case atStart => exact ⟨0, by omega, rfl, ((Below.refl _ _).alloc (Nat.le_refl _) _).alloc (by simp) _, heap_alloc2_new _ _ _, heap_alloc2_old _ _ _⟩
 case round =>
  obtain ⟨k, hk, rfl, hb, hR, hA⟩ := hrel
  by_cases hlt : k < n
  ·obtain ⟨at', hat⟩ : ∃ m : Nat, m = 64 * k := ⟨_, rfl⟩
   have hle : at' + 64 ≤ s.size := by have := H0.out; omega
   rw [← hat]
   have HAT : Hid (at' = 64 * k) := hat
   clear hat
   obtain ⟨x, hx⟩ : ∃ x, pcs kt s st k = x := ⟨_, rfl⟩
   have HX : Hid (pcs kt s st k = x) := hx
   rw [hx] at hA
   clear hx
   obtain ⟨c0, c1, c2, c3, c4, c5, c6, c7, cf⟩ := hA.cells8
   have hge : w.heap.size + 2 ≤ wr.heap.size := by have := hR.lt; omega
   obtain ⟨q, HQ, hq, hsl⟩ : ∃ q, Hid (q = piece s k) ∧ q.size = 64 ∧ ∀ W, (Instr.slice 9 (.string s) (some (.int .i64 (at' : Int))) (some (.int .i64 ((at' : Int) + 64))) none).run Tryz.prog W = .ok (.string q) W := by
    refine ⟨piece s k, rfl, piece_size s k (by have := HAT.out; omega), fun W => ?_⟩
    rw [run_slice_string W 9 s .i64 .i64 _ _ Tryz.underlying9 (by omega) (by omega) (by omega)]
    have e1 : ((at' : Int)).toNat = 64 * k := by have := HAT.out; omega
    have e2 : ((at' : Int) + 64).toNat = 64 * k + 64 := by have := HAT.out; omega
    rw [e1, e2]; rfl
   have hwp : IntKind.i64.wrap ((at' : Int) + 64) = (at' : Int) + 64 := by rw [IntKind.wrap_i64]; omega
   go_wp2
   have hTr : Tab wr.drew 2 kt := Tab.below HT.out hb.drew (by omega)
   have h3r : 4 ≤ wr.drew.heap.size := by show 4 ≤ wr.heap.size; omega
   have hltb : w.heap.size < wr.drew.heap.size := by show w.heap.size < wr.heap.size; omega
   go_region_with (go_at_call 226; refine (mix_lit kt x q wr.drew hq hTr h3r).mono ?_; rintro e w' ⟨y, hy, rfl, hb'⟩; obtain ⟨d0, d1, d2, d3, d4, d5, d6, d7, df⟩ := (hA.drew.below hb' hltb).cells8)
   go_wp2
   go_roundw
   case rel =>
    refine ⟨k + 1, by omega, by have := HAT.out; go_num, put8_below (hb.drew.trans (hb'.mono (Nat.le_of_lt hltb))), put8_other ((hR.drew).below hb' (by show w.heap.size + 1 < wr.heap.size; omega)) (by simp), ?_⟩
    have e : pcs kt s st (k + 1) = y := by
     show press kt (wrd (iniR (piece s k))) (pcs kt s st k) = y
     rw [hy.out, HX.out, HQ.out]
    rw [e]
    exact put8 (hA.drew.below hb' hltb)
   case measure => have := HAT.out; have := H0.out; simp [intOf]; omega
  ·have hkn : k = n := by omega
   subst hkn
   obtain ⟨x, hx⟩ : ∃ x, pcs kt s st k = x := ⟨_, rfl⟩
   have HX : Hid (pcs kt s st k = x) := hx
   rw [hx] at hA
   clear hx
   obtain ⟨m, hm⟩ : ∃ m : Nat, m = 64 * k := ⟨_, rfl⟩
   rw [← hm]
   have hms : s.size ≤ m := by have := H0.out; omega
   clear hm
   have hld8 : (Tryz.prog.info? 294).map (·.size) = some (row 8 x).size := by rw [row_size]; exact info26
   have hold8 : (row 8 (fun _ => 0)).size = (row 8 x).size := by simp [row_size]
   go_wp2_with (first | (refine wpList_load_row rfl 294 (.tmp 2) rfl w.heap.size rfl 294 (row 8 x) (0, 0) _ hA Tryz.underlying294 rfl hld8 ?_) | (refine wpList_store_row rfl 294 (.tmp 4) (.tmp 19) rfl (w.heap.size + 1) (row 8 x) rfl rfl 294 (row 8 fun _ => 0) hR hld8 hold8 (row_ones _ _) ?_))
   refine bodyPost_ret (v := .agg (row 8 x)) ?_ rfl ?_
   ·exact results_cell_row Tryz.results186 _ _ (w.heap.size + 1) 294 (row 8 x) (0, 0) _ rfl (setRow_heap wr (w.heap.size + 1) _ _ 294 (0, 0) hR) Tryz.underlying294 rfl hld8
   ·rw [HX.out]
    exact ⟨rfl, below_setRow hb _ (by omega) _⟩
theorem make64 (w : World) : (Instr.makeSlice 165 (.int .i64 64) (.int .i64 64)).run Tryz.prog w = .ok (.slice (some ⟨w.heap.size, 0, none⟩) 64 64) (w.alloc (.cells (Array.replicate 64 (.int .u8 0)) 5)) := by kernel_rfl
theorem make128 (w : World) : (Instr.makeSlice 165 (.int .i64 128) (.int .i64 128)).run Tryz.prog w = .ok (.slice (some ⟨w.heap.size, 0, none⟩) 128 128) (w.alloc (.cells (Array.replicate 128 (.int .u8 0)) 5)) := by kernel_rfl
theorem bzeros (n : Nat) : Array.replicate n (Value.int .u8 0) = brow n (fun _ => 0) := by
 apply Array.ext
 ·simp [brow]
 ·intro i h1 h2; simp [brow]
def padS (s : ByteArray) (n sz k j : Nat) : Int :=
 if sz - k ≤ j then (n : Int) * 8 / 2 ^ (8 * (sz - 1 - j)) % 256 else if j < s.size then byt s j else if j = s.size then 128 else 0
theorem pad_0 (s : ByteArray) (n sz j : Nat) (hj : j < sz) : upd (over s fun _ => 0) s.size 128 j = padS s n sz 0 j := by
 unfold upd over padS
 rw [if_neg (show ¬ sz - 0 ≤ j by omega)]
 by_cases h1 : j = s.size
 ·rw [if_pos h1, if_neg (by omega), if_pos h1]
 ·rw [if_neg h1]
  by_cases h2 : j < s.size
  ·rw [if_pos h2, if_pos h2]
  ·rw [if_neg h2, if_neg h2, if_neg h1]
theorem pad_step (s : ByteArray) (n sz k j : Nat) (hk : k < sz) (hj : j < sz) : upd (padS s n sz k) (sz - 1 - k) ((n : Int) * 8 / 2 ^ (8 * k) % 256) j = padS s n sz (k + 1) j := by
 unfold upd
 by_cases h1 : j = sz - 1 - k
 ·rw [if_pos h1]
  unfold padS
  rw [if_pos (by omega), show sz - 1 - j = k by omega]
 ·rw [if_neg h1]
  unfold padS
  by_cases h2 : sz - k ≤ j
  ·rw [if_pos h2, if_pos (by omega)]
  ·rw [if_neg h2, if_neg (show ¬ sz - (k + 1) ≤ j by omega)]
set_option maxHeartbeats 1000000 in
set_option maxRecDepth 100000 in
theorem padded_lo (s : ByteArray) (n : Nat) (w : World) (h0 : s.size < 56) (hn : n ≤ 140737488355328) :
  Calls Tryz.prog 187 #[.string s, .int .i64 n] w fun e w' => e = .returned (.string (txt 64 (padS s n 64 8))) ∧ Below w.heap.size w w' := by
 have hmk := make64
 have hB : Byts (w.alloc (.cells (Array.replicate 64 (.int .u8 0)) 5)) w.heap.size 64 (fun _ => 0) := by unfold Byts; rw [← bzeros]; exact heap_alloc_new _ _
 go_enter Tryz.func187, Tryz.ntmps187
 go_wp2_with (refine wpList_copy_text rfl (.tmp 16) (.tmp 17) rfl w.heap.size 64 64 (fun _ => 0) hB s (by omega) rfl rfl ?_; intro w2 hw2; (have hB2 : Byts w2 w.heap.size 64 (over s fun _ => 0) := by rw [hw2.out]; exact byts_setRow _ hB); have hcs := hB2.cell s.size (by omega); have hfs := hB2.free s.size)
 have hw2b : Below w.heap.size w w2 := by rw [hw2.out]; exact below_setRow ((Below.refl _ _).alloc (Nat.le_refl _) _) _ (Nat.le_refl _) _
 have hP : Byts (w2.setCell ⟨w.heap.size, s.size, none⟩ (.int .u8 128)) w.heap.size 64 (padS s n 64 0) := (hB2.put s.size 128).to (fun j hj => pad_0 s n 64 j hj)
 have hb3 : Below w.heap.size w (w2.setCell ⟨w.heap.size, s.size, none⟩ (.int .u8 128)) := hw2b.setCell (Nat.le_refl _) _
 go_loopw [26] (fun i wr => ∃ k : Nat, k ≤ 8 ∧ i = .int .i64 k ∧ Below w.heap.size w wr ∧ Byts wr w.heap.size 64 (padS s n 64 k)) (fun i _ => 8 - (intOf i).toNat)
 case atStart => exact ⟨0, by omega, rfl, hb3, hP⟩
 case round =>
  clear hw2 hB2 hcs hfs hw2b hP hb3 hB
  obtain ⟨k, hk, rfl, hb, hP⟩ := hrel
  by_cases hlt : k < 8
  ·have c1 := hP.cell (64 - 1 - k) (by omega)
   have c2 := hP.free (64 - 1 - k)
   go_wp2
   go_roundw
   case rel => exact ⟨k + 1, by omega, by go_num, hb.setCell (Nat.le_refl _) _, (hP.put (64 - 1 - k) _).to (fun j hj => pad_step s n 64 k j (by omega) hj)⟩
   case measure => simp [intOf]; omega
  ·have hk8 : k = 8 := by omega
   subst hk8
   have hcv := convert_byts hP 64
   go_wp2
   go_ret
   exact ⟨rfl, hb⟩
set_option maxHeartbeats 1000000 in
set_option maxRecDepth 100000 in
theorem padded_hi (s : ByteArray) (n : Nat) (w : World) (h0 : 56 ≤ s.size) (h1 : s.size < 64) (hn : n ≤ 140737488355328) :
  Calls Tryz.prog 187 #[.string s, .int .i64 n] w fun e w' => e = .returned (.string (txt 128 (padS s n 128 8))) ∧ Below w.heap.size w w' := by
 have hmk := make128
 have hB : Byts (w.alloc (.cells (Array.replicate 128 (.int .u8 0)) 5)) w.heap.size 128 (fun _ => 0) := by unfold Byts; rw [← bzeros]; exact heap_alloc_new _ _
 go_enter Tryz.func187, Tryz.ntmps187
 go_wp2_with (refine wpList_copy_text rfl (.tmp 16) (.tmp 17) rfl w.heap.size 128 128 (fun _ => 0) hB s (by omega) rfl rfl ?_; intro w2 hw2; (have hB2 : Byts w2 w.heap.size 128 (over s fun _ => 0) := by rw [hw2.out]; exact byts_setRow _ hB); have hcs := hB2.cell s.size (by omega); have hfs := hB2.free s.size)
 have hw2b : Below w.heap.size w w2 := by rw [hw2.out]; exact below_setRow ((Below.refl _ _).alloc (Nat.le_refl _) _) _ (Nat.le_refl _) _
 have hP : Byts (w2.setCell ⟨w.heap.size, s.size, none⟩ (.int .u8 128)) w.heap.size 128 (padS s n 128 0) := (hB2.put s.size 128).to (fun j hj => pad_0 s n 128 j hj)
 have hb3 : Below w.heap.size w (w2.setCell ⟨w.heap.size, s.size, none⟩ (.int .u8 128)) := hw2b.setCell (Nat.le_refl _) _
 go_loopw [26] (fun i wr => ∃ k : Nat, k ≤ 8 ∧ i = .int .i64 k ∧ Below w.heap.size w wr ∧ Byts wr w.heap.size 128 (padS s n 128 k)) (fun i _ => 8 - (intOf i).toNat)
 case atStart => exact ⟨0, by omega, rfl, hb3, hP⟩
 case round =>
  clear hw2 hB2 hcs hfs hw2b hP hb3 hB
  obtain ⟨k, hk, rfl, hb, hP⟩ := hrel
  by_cases hlt : k < 8
  ·have c1 := hP.cell (128 - 1 - k) (by omega)
   have c2 := hP.free (128 - 1 - k)
   go_wp2
   go_roundw
   case rel => exact ⟨k + 1, by omega, by go_num, hb.setCell (Nat.le_refl _) _, (hP.put (128 - 1 - k) _).to (fun j hj => pad_step s n 128 k j (by omega) hj)⟩
   case measure => simp [intOf]; omega
  ·have hk8 : k = 8 := by omega
   subst hk8
   have hcv := convert_byts hP 128
   go_wp2
   go_ret
   exact ⟨rfl, hb⟩
def hini : Nat → Int
 | 0 => 1779033703
 | 1 => 3144134277
 | 2 => 1013904242
 | 3 => 2773480762
 | 4 => 1359893119
 | 5 => 2600822924
 | 6 => 528734635
 | _ => 1541459225
theorem mixAll_lit (kt : Nat → Int) (st : Nat → Int) (s : ByteArray) (n : Nat) (w : World) (h0 : s.size = 64 * n) (hn : n ≤ 2199023255552) (hT : Tab w 2 kt) (h3 : 4 ≤ w.heap.size) :
  Calls Tryz.prog 186 #[.agg #[.int .u32 (st 0), .int .u32 (st 1), .int .u32 (st 2), .int .u32 (st 3), .int .u32 (st 4), .int .u32 (st 5), .int .u32 (st 6), .int .u32 (st 7)], .string s] w fun e w' => ∃ y, Hid (y = pcs kt s st n) ∧
   e = .returned (.agg #[.int .u32 (y 0), .int .u32 (y 1), .int .u32 (y 2), .int .u32 (y 3), .int .u32 (y 4), .int .u32 (y 5), .int .u32 (y 6), .int .u32 (y 7)]) ∧ Below w.heap.size w w' :=
 (mixAll_any kt st s n w h0 hn hT h3).mono fun _ _ h => ⟨_, rfl, h.1, h.2⟩
def padT (s : ByteArray) (n : Nat) : ByteArray := if s.size < 56 then txt 64 (padS s n 64 8) else txt 128 (padS s n 128 8)
def padN (s : ByteArray) : Nat := if s.size < 56 then 1 else 2
theorem txt_size (n : Nat) (f : Nat → Int) : (txt n f).size = n := by simp [txt, strOfNums_size]
theorem padT_size (s : ByteArray) (n : Nat) : (padT s n).size = 64 * padN s := by
 unfold padT padN
 by_cases h : s.size < 56
 ·rw [if_pos h, if_pos h, txt_size]
 ·rw [if_neg h, if_neg h, txt_size]
theorem padN_le (s : ByteArray) : padN s ≤ 2 := by
 unfold padN; split <;> omega
theorem padded_at (s : ByteArray) (n : Nat) (w : World) (h0 : s.size < 64) (hn : n ≤ 140737488355328) :
  Calls Tryz.prog 187 #[.string s, .int .i64 n] w fun e w' => e = .returned (.string (padT s n)) ∧ Below w.heap.size w w' := by
 unfold padT
 by_cases h : s.size < 56
 ·rw [if_pos h]; exact padded_lo s n w h hn
 ·rw [if_neg h]; exact padded_hi s n w (by omega) h0 hn
def ofT (kt : Nat → Int) (s : ByteArray) : ByteArray :=
 strOfNums (tl (pcs kt (padT (s.extract (64 * (s.size / 64)) s.size) s.size) (pcs kt (s.extract 0 (64 * (s.size / 64))) hini (s.size / 64)) (padN (s.extract (64 * (s.size / 64)) s.size))) 8)
set_option maxHeartbeats 1000000 in
set_option maxRecDepth 100000 in
theorem of_any (kt : Nat → Int) (s : ByteArray) (w : World) (hs : s.size ≤ 140737488351232) (hT : Tab w 2 kt) (h3 : 4 ≤ w.heap.size) :
  Calls Tryz.prog 125 #[.string s] w fun e w' => e = .returned (.string (ofT kt s)) ∧ Below w.heap.size w w' := by
 have HT : Hid _ := hT
 clear hT
 obtain ⟨n, hn⟩ : ∃ n, n = s.size / 64 := ⟨_, rfl⟩
 obtain ⟨wh, hwh⟩ : ∃ wh, wh = 64 * n := ⟨_, rfl⟩
 have hwe : ((s.size : Int) - (s.size : Int) % 64) = (wh : Int) := by omega
 have hwl : wh ≤ s.size := by omega
 have hwr : s.size - wh < 64 := by omega
 obtain ⟨q1, HQ1, hq1, hsl1⟩ : ∃ q, Hid (q = s.extract 0 wh) ∧ q.size = 64 * n ∧ ∀ W, (Instr.slice 9 (.string s) none (some (.int .i64 (wh : Int))) none).run Tryz.prog W = .ok (.string q) W := by
  refine ⟨s.extract 0 wh, rfl, by rw [ByteArray.size_extract]; omega, fun W => ?_⟩
  rw [run_slice_string_to_if W 9 s .i64 _ Tryz.underlying9, if_pos ⟨by omega, by omega⟩, Int.toNat_natCast]
 obtain ⟨q2, HQ2, hq2, hsl2⟩ : ∃ q, Hid (q = s.extract wh s.size) ∧ q.size < 64 ∧ ∀ W, (Instr.slice 9 (.string s) (some (.int .i64 (wh : Int))) none none).run Tryz.prog W = .ok (.string q) W := by
  refine ⟨s.extract wh s.size, rfl, by rw [ByteArray.size_extract]; omega, fun W => ?_⟩
  rw [run_slice_string_from_if W 9 s .i64 _ Tryz.underlying9, if_pos ⟨by omega, by omega⟩, Int.toNat_natCast]
 have hnn : n ≤ 2199023255552 := by omega
 have HWH : Hid (wh = 64 * (s.size / 64)) := by rw [hwh, hn]; rfl
 have HN : Hid (n = s.size / 64) := hn
 have HQ1S : Hid (q1.size = 64 * n) := hq1
 have HWE : Hid (((s.size : Int) - (s.size : Int) % 64) = (wh : Int)) := hwe
 clear hn hwh hq1 hwe
 go_enter Tryz.func125, Tryz.ntmps125
 go_wp2
 rw [HWE.out]
 obtain ⟨w1, hw1⟩ : ∃ w1, w1 = w.alloc (Obj.cells #[Value.int IntKind.u32 1779033703, Value.int IntKind.u32 3144134277, Value.int IntKind.u32 1013904242, Value.int IntKind.u32 2773480762, Value.int IntKind.u32 1359893119, Value.int IntKind.u32 2600822924, Value.int IntKind.u32 528734635, Value.int IntKind.u32 1541459225] 294) := ⟨_, rfl⟩
 rw [← hw1]
 have hA1 : Words w1 w.heap.size 8 294 hini := by rw [hw1]; exact heap_alloc_new _ _
 have hB1 : Below w.heap.size w w1 := by rw [hw1]; exact (Below.refl _ _).alloc (Nat.le_refl _) _
 clear hw1
 obtain ⟨x, hx⟩ : ∃ x, x = hini := ⟨_, rfl⟩
 have HX : Hid (x = hini) := hx
 rw [← hx] at hA1
 clear hx
 have hlt1 : w.heap.size < w1.heap.size := hA1.lt
 have hTr : Tab w1.drew 2 kt := Tab.below HT.out hB1.drew (by omega)
 have h3r : 4 ≤ w1.drew.heap.size := by show 4 ≤ w1.heap.size; omega
 have hltb : w.heap.size < w1.drew.heap.size := hlt1
 obtain ⟨c0, c1, c2, c3, c4, c5, c6, c7, cf⟩ := hA1.cells8
 go_region_with (go_at_call 186; refine (mixAll_lit kt x q1 n w1.drew HQ1S.out hnn hTr h3r).mono ?_; rintro e w' ⟨y, hy, rfl, hb'⟩; obtain ⟨d0, d1, d2, d3, d4, d5, d6, d7, df⟩ := (hA1.drew.below hb' hltb).cells8)
 go_wp2
 obtain ⟨w2, hw2⟩ : ∃ w2, w2 = (((((((w'.setCell ⟨w.heap.size, 0, none⟩ (Value.int IntKind.u32 (y 0))).setCell ⟨w.heap.size, 1, none⟩ (Value.int IntKind.u32 (y 1))).setCell ⟨w.heap.size, 2, none⟩ (Value.int IntKind.u32 (y 2))).setCell ⟨w.heap.size, 3, none⟩ (Value.int IntKind.u32 (y 3))).setCell ⟨w.heap.size, 4, none⟩ (Value.int IntKind.u32 (y 4))).setCell ⟨w.heap.size, 5, none⟩ (Value.int IntKind.u32 (y 5))).setCell ⟨w.heap.size, 6, none⟩ (Value.int IntKind.u32 (y 6))).setCell ⟨w.heap.size, 7, none⟩ (Value.int IntKind.u32 (y 7)) := ⟨_, rfl⟩
 rw [← hw2]
 have hA2 : Words w2 w.heap.size 8 294 y := by rw [hw2]; exact put8 (hA1.drew.below hb' hltb)
 have hB2 : Below w.heap.size w w2 := by rw [hw2]; exact put8_below (hB1.drew.trans (hb'.mono (Nat.le_of_lt hltb)))
 clear hw2 d0 d1 d2 d3 d4 d5 d6 d7 df hb' c0 c1 c2 c3 c4 c5 c6 c7 cf hA1 hB1 hTr h3r hltb hlt1 hsl1
 have hlt2 : w.heap.size < w2.drew.heap.size := hA2.lt
 have hTr : Tab w2.drew 2 kt := Tab.below HT.out hB2.drew (by omega)
 have h3r : 4 ≤ w2.drew.heap.size := by omega
 have hns : s.size ≤ 140737488355328 := by omega
 have hpn := padN_le q2
 have hpnn : padN q2 ≤ 2199023255552 := by omega
 have HPS : Hid _ := padT_size q2 s.size
 obtain ⟨p, hp⟩ : ∃ p, padT q2 s.size = p := ⟨_, rfl⟩
 have HP : Hid (padT q2 s.size = p) := hp
 have hpad := fun W => padded_at q2 s.size W hq2 hns
 simp only [hp] at hpad
 have HPD : Hid _ := hpad
 have HPZ : Hid (p.size = 64 * padN q2) := by rw [← hp]; exact padT_size q2 s.size
 clear hp hpad HPS
 obtain ⟨c0, c1, c2, c3, c4, c5, c6, c7, cf⟩ := hA2.cells8
 go_region_with (first | (go_at_call 187; refine (HPD.out _).mono ?_; rintro e w5 ⟨rfl, hb5⟩; have hA5 := hA2.drew.below hb5 hlt2; have hT5 := Tab.below hTr hb5 (by omega); have h35 := Nat.le_trans h3r hb5.size; have hlt5 := Nat.lt_of_lt_of_le hlt2 hb5.size; obtain ⟨e0, e1, e2, e3, e4, e5, e6, e7, ef⟩ := hA5.cells8) | (go_at_call 186; refine (mixAll_lit kt y p (padN q2) w5 HPZ.out hpnn hT5 h35).mono ?_; rintro e w6 ⟨z, hz, rfl, hb6⟩; obtain ⟨f0, f1, f2, f3, f4, f5, f6, f7, ff⟩ := (hA5.below hb6 hlt5).cells8))
 all_goals
  have hA7 := put8 (y := z) (hA5.below hb6 hlt5)
  have hB7 := put8_below (y := z) ((hB2.drew.trans (hb5.mono (Nat.le_of_lt hlt2))).trans (hb6.mono (Nat.le_of_lt hlt5)))
  have hld8 : (Tryz.prog.info? 294).map (·.size) = some (row 8 z).size := by rw [row_size]; exact info26
  clear e0 e1 e2 e3 e4 e5 e6 e7 ef f0 f1 f2 f3 f4 f5 f6 f7 ff c0 c1 c2 c3 c4 c5 c6 c7 cf
  go_wp2_with (first | (refine wpList_load_row rfl 294 (.tmp 3) rfl w.heap.size rfl 294 (row 8 z) (0, 0) _ hA7 Tryz.underlying294 rfl hld8 ?_) | (go_at_call 188; refine (told_any z _).mono ?_; rintro e w7 ⟨rfl, hb7⟩))
  go_ret
  refine ⟨?_, hB7.trans (hb7.mono (by have := hA7.lt; omega))⟩
  unfold ofT
  rw [← HWH.out, ← HN.out, ← HQ1.out, ← HQ2.out, HP.out, ← HX.out, ← hy.out, ← hz.out]
  rfl
end Go.Proofs.YtadinjaocnlglaaGreatDoor
