/-
  What the two compressions share.
  The walk of vaultref.pressed.
  Rows as a region meets them; the pieces of a text.
  The walk of digest.told.
-/
import Derived.Test.YtadinjaocnlglaaGreatDoorZ09
import Derived.WalkKit
import Derived.WalkSpells
import Derived.WalkLawsBesides
import Derived.BigRegion
import Derived.BigQuiet
import Derived.Deep.QuietTactic
import Derived.Deep.RegionWith
namespace Go.Proofs.YtadinjaocnlglaaGreatDoor
open Go.RowKit
theorem info25 : (Tryz.prog.info? 152).map (·.size) = some 1 := by kernel_rfl
theorem index_row (n t : Nat) (f : Nat → Int) (i : Nat) (h : i < n) (W : World) (hu : Tryz.prog.underlying t = some (.array n 152)) : (Instr.index t (.agg (row n f)) (.int .i64 i)).run Tryz.prog W = .ok (.int .u32 (f i)) W := by
 have hi := info25
 have hg := row_get n f i h
 cases hq : Tryz.prog.info? 152 with
 | none => simp [hq] at hi
 | some d =>
  have hs : d.size = 1 := by simpa [hq] using hi
  simp [Instr.index, asIntOf, run_underlying hu, sizeOf, typeInfo, hq, hs, part, hg]
  intro; omega
structure Mem (w : World) (g : Nat) (st x W : Nat → Int) (w2 : World) : Prop where
 own : Words w2 w.heap.size 8 294 st
 res : Words w2 (w.heap.size + 1) 8 294 x
 wrd : Words w2 g 64 372 W
 below : Below w.heap.size w w2
 lo : w.heap.size + 2 ≤ g
 size : w2.heap.size = g + 1
theorem Mem.drewN {w : World} {g : Nat} {st x W : Nat → Int} {w2 : World} (h : Mem w g st x W w2) (n : Nat) : Mem w g st x W (w2.drewN n) := ⟨h.own, h.res, h.wrd, below_drewN h.below n, h.lo, h.size⟩
def bs1 (x : Int) : Int := bits .xor .u32 (bits .xor .u32 (rotr x 6) (rotr x 11)) (rotr x 25)
def bs0 (x : Int) : Int := bits .xor .u32 (bits .xor .u32 (rotr x 2) (rotr x 13)) (rotr x 22)
def cho (e f g : Int) : Int := bits .xor .u32 (bits .and .u32 e f) (bits .and .u32 (bits .xor .u32 e 4294967295) g)
def maj (a b c : Int) : Int := bits .xor .u32 (bits .xor .u32 (bits .and .u32 a b) (bits .and .u32 a c)) (bits .and .u32 b c)
def rnd (x : Nat → Int) (k w : Int) : Nat → Int
 | 0 => (x 7 + bs1 (x 4) + cho (x 4) (x 5) (x 6) + k + w + bs0 (x 0) + maj (x 0) (x 1) (x 2)) % 4294967296
 | 1 => x 0
 | 2 => x 1
 | 3 => x 2
 | 4 => (x 3 + x 7 + bs1 (x 4) + cho (x 4) (x 5) (x 6) + k + w) % 4294967296
 | 5 => x 4
 | 6 => x 5
 | _ => x 6
def rounds (kt W st : Nat → Int) : Nat → Nat → Int
 | 0 => st
 | k + 1 => rnd (rounds kt W st k) (kt k) (W k)
def press (kt W st : Nat → Int) (j : Nat) : Int := (rounds kt W st 64 j + st j) % 4294967296
theorem xor_comm32 (a b : Int) : bits .xor .u32 a b = bits .xor .u32 b a := by
 unfold bits
 simp only [BitVec.xor_comm]
theorem not_form (e : Int) : bits .xor .u32 (if IntKind.u32.signed = true then -1 else IntKind.u32.max) e = bits .xor .u32 e 4294967295 := by
 rw [xor_comm32]; rfl
theorem rnd_a (x : Nat → Int) (k w : Int) : ((x 7 + bits BinOp.xor IntKind.u32 (bits BinOp.xor IntKind.u32 (rotr (x 4) 6) (rotr (x 4) 11)) (rotr (x 4) 25) +
  bits BinOp.xor IntKind.u32 (bits BinOp.and IntKind.u32 (x 4) (x 5)) (bits BinOp.and IntKind.u32 (bits BinOp.xor IntKind.u32 (if IntKind.u32.signed = true then -1 else IntKind.u32.max) (x 4)) (x 6)) + k + w +
  bits BinOp.xor IntKind.u32 (bits BinOp.xor IntKind.u32 (rotr (x 0) 2) (rotr (x 0) 13)) (rotr (x 0) 22)) % 4294967296 +
  bits BinOp.xor IntKind.u32 (bits BinOp.xor IntKind.u32 (bits BinOp.and IntKind.u32 (x 0) (x 1)) (bits BinOp.and IntKind.u32 (x 0) (x 2))) (bits BinOp.and IntKind.u32 (x 1) (x 2))) % 4294967296 = rnd x k w 0 := by
 rw [not_form]
 show ((x 7 + bs1 (x 4) + cho (x 4) (x 5) (x 6) + k + w + bs0 (x 0)) % 4294967296 + maj (x 0) (x 1) (x 2)) % 4294967296 = (x 7 + bs1 (x 4) + cho (x 4) (x 5) (x 6) + k + w + bs0 (x 0) + maj (x 0) (x 1) (x 2)) % 4294967296
 omega
theorem rnd_e (x : Nat → Int) (k w : Int) : (x 3 + (x 7 + bits BinOp.xor IntKind.u32 (bits BinOp.xor IntKind.u32 (rotr (x 4) 6) (rotr (x 4) 11)) (rotr (x 4) 25) +
  bits BinOp.xor IntKind.u32 (bits BinOp.and IntKind.u32 (x 4) (x 5)) (bits BinOp.and IntKind.u32 (bits BinOp.xor IntKind.u32 (if IntKind.u32.signed = true then -1 else IntKind.u32.max) (x 4)) (x 6)) + k + w) % 4294967296) % 4294967296 = rnd x k w 4 := by
 rw [not_form]
 show (x 3 + (x 7 + bs1 (x 4) + cho (x 4) (x 5) (x 6) + k + w) % 4294967296) % 4294967296 = (x 3 + x 7 + bs1 (x 4) + cho (x 4) (x 5) (x 6) + k + w) % 4294967296
 omega
structure SumMem (w : World) (g : Nat) (st x : Nat → Int) (k : Nat) (wr : World) : Prop where
 below : Below w.heap.size w wr
 own : Words wr w.heap.size 8 294 st
 res : Words wr (w.heap.size + 1) 8 294 (fun _ => 0)
 sum : ∃ f, Words wr g 8 294 f ∧ (∀ j, j < k → f j = (x j + st j) % 4294967296) ∧ ∀ j, k ≤ j → f j = x j
theorem SumMem.drew {w : World} {g : Nat} {st x : Nat → Int} {k : Nat} {wr : World} (h : SumMem w g st x k wr) : SumMem w g st x k wr.drew := ⟨h.below.drew, h.own, h.res, h.sum⟩
theorem SumMem.step {w : World} {g : Nat} {st x : Nat → Int} {k : Nat} {wr : World} (h : SumMem w g st x k wr) (hg : w.heap.size + 2 ≤ g) : SumMem w g st x (k + 1) (wr.setCell ⟨g, k, none⟩ (.int .u32 ((x k + st k) % 4294967296))) := by
 obtain ⟨f, hf, h1, h2⟩ := h.sum
 refine ⟨h.below.setCell (by simp; omega) _, h.own.other _ _ (by simp; omega), h.res.other _ _ (by simp; omega), upd f k ((x k + st k) % 4294967296), hf.put k _, fun j hj => ?_, fun j hj => ?_⟩
 ·unfold upd
  by_cases e : j = k
  ·rw [if_pos e, e]
  ·rw [if_neg e]; exact h1 j (by omega)
 ·unfold upd
  rw [if_neg (by omega)]; exact h2 j (by omega)
structure PMem (w : World) (g gx : Nat) (st x W : Nat → Int) (wr : World) : Prop where
 own : Words wr w.heap.size 8 294 st
 res : Words wr (w.heap.size + 1) 8 294 (fun _ => 0)
 wrd : Words wr g 64 372 W
 cur : Words wr gx 8 294 x
 below : Below w.heap.size w wr
theorem PMem.drewN {w : World} {g gx : Nat} {st x W : Nat → Int} {wr : World} (h : PMem w g gx st x W wr) (n : Nat) : PMem w g gx st x W (wr.drewN n) := ⟨h.own, h.res, h.wrd, h.cur, below_drewN h.below n⟩
theorem PMem.setRow {w : World} {g gx : Nat} {st x W : Nat → Int} {wr : World} (h : PMem w g gx st x W wr) (hg : w.heap.size + 2 ≤ g) (hgx : g < gx) (y : Nat → Int) : PMem w g gx st y W (wr.setRow gx (row 8 y)) :=
 ⟨h.own.setRow_other _ _ (by omega), h.res.setRow_other _ _ (by omega), h.wrd.setRow_other _ _ (by omega), words_setRow y h.cur, below_setRow h.below _ (by omega) _⟩
theorem lit8 (f : Nat → Int) : #[Value.int .u32 (f 0), .int .u32 (f 1), .int .u32 (f 2), .int .u32 (f 3), .int .u32 (f 4), .int .u32 (f 5), .int .u32 (f 6), .int .u32 (f 7)] = row 8 f := rfl
theorem ones8 (a b c d e f g h : Int) : #[Value.int .u32 a, .int .u32 b, .int .u32 c, .int .u32 d, .int .u32 e, .int .u32 f, .int .u32 g, .int .u32 h].all (·.oneCell') = true := by simp [Value.oneCell']
theorem rowR (x : Nat → Int) (k w : Int) : #[Value.int .u32 ((x 7 + bits BinOp.xor IntKind.u32 (bits BinOp.xor IntKind.u32 (rotr (x 4) 6) (rotr (x 4) 11)) (rotr (x 4) 25) +
   bits BinOp.xor IntKind.u32 (bits BinOp.and IntKind.u32 (x 4) (x 5)) (bits BinOp.and IntKind.u32 (bits BinOp.xor IntKind.u32 (x 4) 4294967295) (x 6)) + k + w +
   (bits BinOp.xor IntKind.u32 (bits BinOp.xor IntKind.u32 (rotr (x 0) 2) (rotr (x 0) 13)) (rotr (x 0) 22) +
   bits BinOp.xor IntKind.u32 (bits BinOp.xor IntKind.u32 (bits BinOp.and IntKind.u32 (x 0) (x 1)) (bits BinOp.and IntKind.u32 (x 0) (x 2))) (bits BinOp.and IntKind.u32 (x 1) (x 2)))) % 4294967296),
  Value.int .u32 (x 0), Value.int .u32 (x 1), Value.int .u32 (x 2),
  Value.int .u32 ((x 3 + (x 7 + bits BinOp.xor IntKind.u32 (bits BinOp.xor IntKind.u32 (rotr (x 4) 6) (rotr (x 4) 11)) (rotr (x 4) 25) +
   bits BinOp.xor IntKind.u32 (bits BinOp.and IntKind.u32 (x 4) (x 5)) (bits BinOp.and IntKind.u32 (bits BinOp.xor IntKind.u32 (x 4) 4294967295) (x 6)) + k + w)) % 4294967296),
  Value.int .u32 (x 4), Value.int .u32 (x 5), Value.int .u32 (x 6)] = row 8 (rnd x k w) := by
 have ea : (x 7 + bs1 (x 4) + cho (x 4) (x 5) (x 6) + k + w + (bs0 (x 0) + maj (x 0) (x 1) (x 2))) % 4294967296 = rnd x k w 0 := by
  show _ = (x 7 + bs1 (x 4) + cho (x 4) (x 5) (x 6) + k + w + bs0 (x 0) + maj (x 0) (x 1) (x 2)) % 4294967296
  omega
 have ee : (x 3 + (x 7 + bs1 (x 4) + cho (x 4) (x 5) (x 6) + k + w)) % 4294967296 = rnd x k w 4 := by
  show _ = (x 3 + x 7 + bs1 (x 4) + cho (x 4) (x 5) (x 6) + k + w) % 4294967296
  omega
 rw [← lit8 (rnd x k w), ← ea, ← ee]
 rfl
structure SumR (w : World) (g : Nat) (st x : Nat → Int) (k : Nat) (wr : World) : Prop where
 below : Below w.heap.size w wr
 cur : Words wr g 8 294 x
 res : Words wr (w.heap.size + 1) 8 294 (fun _ => 0)
 sum : ∃ f, Words wr w.heap.size 8 294 f ∧ (∀ j, j < k → f j = (x j + st j) % 4294967296) ∧ ∀ j, k ≤ j → f j = st j
theorem SumR.drew {w : World} {g : Nat} {st x : Nat → Int} {k : Nat} {wr : World} (h : SumR w g st x k wr) : SumR w g st x k wr.drew := ⟨h.below.drew, h.cur, h.res, h.sum⟩
theorem SumR.step {w : World} {g : Nat} {st x : Nat → Int} {k : Nat} {wr : World} (h : SumR w g st x k wr) (hg : w.heap.size + 2 ≤ g) : SumR w g st x (k + 1) (wr.setCell ⟨w.heap.size, k, none⟩ (.int .u32 ((st k + x k) % 4294967296))) := by
 obtain ⟨f, hf, h1, h2⟩ := h.sum
 refine ⟨h.below.setCell (by simp) _, h.cur.other _ _ (by simp; omega), h.res.other _ _ (by simp), upd f k ((st k + x k) % 4294967296), hf.put k _, fun j hj => ?_, fun j hj => ?_⟩
 ·unfold upd
  by_cases e : j = k
  ·rw [if_pos e, e, Int.add_comm]
  ·rw [if_neg e]; exact h1 j (by omega)
 ·unfold upd
  rw [if_neg (by omega)]; exact h2 j (by omega)
set_option maxHeartbeats 1000000 in
set_option maxRecDepth 100000 in
theorem pressed_any (kt : Nat → Int) (st : Nat → Int) (s : ByteArray) (w : World) (h0 : s.size = 64) (hT : Tab w 3 kt) (h3 : 4 ≤ w.heap.size) :
  Calls Tryz.prog 234 #[.agg (row 8 st), .string s] w fun e w' => e = .returned (.agg (row 8 (press kt (wrd (iniR s)) st))) ∧ Below w.heap.size w w' := by
 have HT : Hid _ := hT
 clear hT
 go_enter Tryz.func234, Tryz.ntmps234
 go_wp2_with fail
 refine (words_any s _ h0).mono ?_
 rintro e w1 ⟨rfl, hb1⟩
 have hsz1 : w.heap.size + 2 ≤ w1.heap.size := by have := hb1.size; simpa using this
 have hA1 : Words w1 w.heap.size 8 294 st := Words.below (heap_alloc2_old _ _ _) hb1 (by simp; omega)
 have hR1 : Words w1 (w.heap.size + 1) 8 294 (fun _ => 0) := Words.below (heap_alloc2_new _ _ _) hb1 (by simp)
 have hB1 : Below w.heap.size w w1 := (((Below.refl _ _).alloc (Nat.le_refl _) _).alloc (by simp) _).trans (hb1.mono (by simp; omega))
 have hld : (Tryz.prog.info? 372).map (·.size) = some (row 64 (wrd (iniR s))).size := by rw [row_size]; exact info32
 have hld8 : (Tryz.prog.info? 294).map (·.size) = some (row 8 st).size := by rw [row_size]; exact info26
 clear hb1
 generalize hW : wrd (iniR s) = W at *
 have HW : Hid (wrd (iniR s) = W) := hW
 clear hW
 go_wp2_with (first | (refine wpList_store_row_at rfl rfl 372 (.tmp 5) (.tmp 16) rfl w1.heap.size (row 64 W) rfl rfl 372 _ (heap_alloc_new w1 _) hld (by rw [row_size]; rfl) (row_ones _ _) ?_; intro w2 hw2; (have hA2 : Words w2 w.heap.size 8 294 st := by rw [hw2.out]; exact (hA1.alloc _).setRow_other _ _ (by omega))) | (refine wpList_load_row rfl 294 (.tmp 2) rfl w.heap.size rfl 294 (row 8 st) (0, 0) _ hA2 Tryz.underlying294 rfl hld8 ?_) | (refine wpList_store_row_at rfl rfl 294 (.tmp 6) (.tmp 17) rfl w2.heap.size (row 8 st) rfl rfl 294 _ (heap_alloc_new w2 _) hld8 (by rw [row_size]; rfl) (row_ones _ _) ?_; intro w3 hw3))
 have hz2 : w2.heap.size = w1.heap.size + 1 := by rw [hw2.out]; simp
 have hgx : w1.heap.size < w2.heap.size := by omega
 have M3 : PMem w w1.heap.size w2.heap.size st st W w3 := by
  have r1 : Words w2 (w.heap.size + 1) 8 294 (fun _ => 0) := by rw [hw2.out]; exact (hR1.alloc _).setRow_other _ _ (by omega)
  have r2 : Words w2 w1.heap.size 64 372 W := by rw [hw2.out]; exact words_setRow W (heap_alloc_new w1 _)
  have r3 : Below w.heap.size w w2 := by rw [hw2.out]; exact below_setRow (hB1.alloc (by omega) _) _ (by omega) _
  rw [hw3.out]
  exact ⟨(hA2.alloc _).setRow_other _ _ (by omega), (r1.alloc _).setRow_other _ _ (by omega), (r2.alloc _).setRow_other _ _ (by omega), words_setRow st (heap_alloc_new w2 _), below_setRow (r3.alloc (by omega) _) _ (by omega) _⟩
 generalize w2.heap.size = gx at *
 generalize w1.heap.size = g at *
 clear hw2 hw3 hA1 hR1 hB1 hA2 hz2
 go_loopw [7] (fun i wr => ∃ k : Nat, k ≤ 64 ∧ i = .int .i64 k ∧ PMem w g gx st (rounds kt W st k) W wr) (fun i _ => 64 - (intOf i).toNat)
 case atStart => exact ⟨0, by omega, rfl, M3⟩
 case round =>
  clear M3
  obtain ⟨k, hk, rfl, M⟩ := hrel
  by_cases hlt : k < 64
  ·obtain ⟨x, hx⟩ : ∃ x, rounds kt W st k = x := ⟨_, rfl⟩
   have HS : Hid (rounds kt W st (k + 1) = rnd x (kt k) (W k)) := by rw [← hx]; rfl
   rw [hx] at M
   clear hx
   have c4 := M.cur.cell 4 (by omega)
   go_wp2
   go_quiet ((go_at_call 276; exact Calls.quiet_of_same (turn_at _ _ _ (by decide) (by decide))))
   obtain ⟨wa, hwa⟩ : ∃ wq, wq = wr.drewN nq := ⟨_, rfl⟩
   rw [← hwa]
   have Ma : PMem w g gx st x W wa := by rw [hwa]; exact M.drewN _
   clear hwa c4 M
   have c4 := Ma.cur.cell 4 (by omega)
   have c5 := Ma.cur.cell 5 (by omega)
   have c6 := Ma.cur.cell 6 (by omega)
   have c7 := Ma.cur.cell 7 (by omega)
   have hKc : wa.cell? ⟨3, k, none⟩ = some (.int .u32 (kt k)) := Tab.below HT.out Ma.below (by omega) k hlt
   have hWc := Ma.wrd.cell k hlt
   go_wp2
   go_quiet (fail)
   obtain ⟨wb, hwb⟩ : ∃ wq, wq = wa.drewN nq := ⟨_, rfl⟩
   rw [← hwb]
   have Mb : PMem w g gx st x W wb := by rw [hwb]; exact Ma.drewN _
   clear hwb c4 c5 c6 c7 hKc hWc Ma
   have c0 := Mb.cur.cell 0 (by omega)
   go_wp2
   go_quiet ((go_at_call 276; exact Calls.quiet_of_same (turn_at _ _ _ (by decide) (by decide))))
   obtain ⟨wc, hwc⟩ : ∃ wq, wq = wb.drewN nq := ⟨_, rfl⟩
   rw [← hwc]
   have Mc : PMem w g gx st x W wc := by rw [hwc]; exact Mb.drewN _
   clear hwc c0 Mb
   have c0 := Mc.cur.cell 0 (by omega)
   have c1 := Mc.cur.cell 1 (by omega)
   have c2 := Mc.cur.cell 2 (by omega)
   have c3 := Mc.cur.cell 3 (by omega)
   have c4 := Mc.cur.cell 4 (by omega)
   have c5 := Mc.cur.cell 5 (by omega)
   have c6 := Mc.cur.cell 6 (by omega)
   have hcur := Mc.cur
   go_wp2_with (refine wpList_store_row_at rfl rfl 294 (.tmp 6) (.tmp 109) rfl gx _ rfl rfl 294 (row 8 x) hcur (by exact info26) (by rw [row_size]; rfl) (ones8 _ _ _ _ _ _ _ _) ?_; intro wd hwd)
   go_roundw
   case rel =>
    refine ⟨k + 1, by omega, by go_num, ?_⟩
    rw [HS.out, hwd.out, rowR]
    exact Mc.setRow hsz1 hgx _
   case measure => simp [intOf]; omega
  ·have hk64 : k = 64 := by omega
   subst hk64
   obtain ⟨x, hx⟩ : ∃ x, rounds kt W st 64 = x := ⟨_, rfl⟩
   have HX : Hid (rounds kt W st 64 = x) := hx
   rw [hx] at M
   clear hx
   go_wp2
   go_loopw [14] (fun i wr => ∃ k : Nat, k ≤ 8 ∧ i = .int .i64 k ∧ SumR w gx st x k wr) (fun i _ => 8 - (intOf i).toNat)
   case atStart => exact ⟨0, by omega, rfl, M.below, M.cur, M.res, st, M.own, fun j hj => by omega, fun j _ => rfl⟩
   case round =>
    clear M
    obtain ⟨k, hk, rfl, S⟩ := hrel
    by_cases hlt : k < 8
    ·obtain ⟨f, hf, hf1, hf2⟩ := S.sum
     have c1 := hf.cell k hlt
     rw [hf2 k (Nat.le_refl _)] at c1
     have c2 := hf.free k
     have c3 := S.cur.cell k hlt
     clear hf1 hf2 hf
     go_wp2
     go_region
     go_wp2
     go_roundw
     case rel => exact ⟨k + 1, by omega, by go_num, S.drew.step (by omega)⟩
     case measure => simp [intOf]; omega
    ·have hk8 : k = 8 := by omega
     subst hk8
     obtain ⟨f, hf, hf1, hf2⟩ := S.sum
     have HF : Hid _ := hf1
     clear hf1 hf2
     have hR := S.res
     have hld8 : (Tryz.prog.info? 294).map (·.size) = some (row 8 f).size := by rw [row_size]; exact info26
     have hold8 : (row 8 (fun _ => 0)).size = (row 8 f).size := by simp [row_size]
     go_wp2_with (first | (refine wpList_load_row rfl 294 (.tmp 2) rfl w.heap.size rfl 294 (row 8 f) (0, 0) _ hf Tryz.underlying294 rfl hld8 ?_) | (refine wpList_store_row rfl 294 (.tmp 4) (.tmp 123) rfl (w.heap.size + 1) (row 8 f) rfl rfl 294 (row 8 fun _ => 0) hR hld8 hold8 (row_ones _ _) ?_))
     have e : row 8 f = row 8 (press kt W st) := row_congr 8 _ _ (by
      intro j hj; rw [HF.out j hj]; unfold press; rw [HX.out])
     refine bodyPost_ret (v := .agg (row 8 f)) ?_ rfl ?_
     ·exact results_cell_row Tryz.results234 _ _ (w.heap.size + 1) 294 (row 8 f) (0, 0) _ rfl (setRow_heap wr (w.heap.size + 1) _ _ 294 (0, 0) hR) Tryz.underlying294 rfl hld8
     ·rw [e, ← HW.out]
      exact ⟨rfl, below_setRow S.below _ (by omega) _⟩
def piece (s : ByteArray) (j : Nat) : ByteArray := s.extract (64 * j) (64 * j + 64)
def pcs (kt : Nat → Int) (s : ByteArray) (st : Nat → Int) : Nat → Nat → Int
 | 0 => st
 | j + 1 => press kt (wrd (iniR (piece s j))) (pcs kt s st j)
theorem byt_lo (s : ByteArray) (i : Nat) : 0 ≤ byt s i := by unfold byt; omega
theorem byt_hi (s : ByteArray) (i : Nat) : byt s i ≤ 255 := by
 unfold byt
 have := (s.data.toList.getD i 0).toNat_lt
 omega
theorem or_pieces (a b c d : Nat) (hb : b < 256) (hc : c < 256) (hd : d < 256) : ((a * 16777216 ||| b * 65536) ||| c * 256) ||| d = a * 16777216 + b * 65536 + c * 256 + d := by
 have e1 : a * 16777216 ||| b * 65536 = a * 16777216 + b * 65536 := by
  have := Nat.two_pow_add_eq_or_of_lt (i := 24) (b := b * 65536) (by omega) a
  rw [show a * 16777216 = 2 ^ 24 * a by omega]; exact this.symm
 have e2 : (a * 16777216 + b * 65536) ||| c * 256 = a * 16777216 + b * 65536 + c * 256 := by
  have := Nat.two_pow_add_eq_or_of_lt (i := 16) (b := c * 256) (by omega) (a * 256 + b)
  rw [show a * 16777216 + b * 65536 = 2 ^ 16 * (a * 256 + b) by omega]; exact this.symm
 have e3 : (a * 16777216 + b * 65536 + c * 256) ||| d = a * 16777216 + b * 65536 + c * 256 + d := by
  have := Nat.two_pow_add_eq_or_of_lt (i := 8) (b := d) (by omega) (a * 65536 + b * 256 + c)
  rw [show a * 16777216 + b * 65536 + c * 256 = 2 ^ 8 * (a * 65536 + b * 256 + c) by omega]; exact this.symm
 rw [e1, e2, e3]
theorem ini_eq (s : ByteArray) (k : Nat) : iniP s k = iniR s k := by
 obtain ⟨a, ha⟩ := Int.eq_ofNat_of_zero_le (byt_lo s (4 * k))
 obtain ⟨b, hb⟩ := Int.eq_ofNat_of_zero_le (byt_lo s (4 * k + 1))
 obtain ⟨c, hc⟩ := Int.eq_ofNat_of_zero_le (byt_lo s (4 * k + 2))
 obtain ⟨d, hd⟩ := Int.eq_ofNat_of_zero_le (byt_lo s (4 * k + 3))
 have h1 := byt_hi s (4 * k)
 have h2 := byt_hi s (4 * k + 1)
 have h3 := byt_hi s (4 * k + 2)
 have h4 := byt_hi s (4 * k + 3)
 rw [ha] at h1; rw [hb] at h2; rw [hc] at h3; rw [hd] at h4
 unfold iniP iniR
 rw [ha, hb, hc, hd]
 rw [show (a : Int) % 4294967296 * 16777216 % 4294967296 = ((a * 16777216 : Nat) : Int) by omega, show (b : Int) % 4294967296 * 65536 % 4294967296 = ((b * 65536 : Nat) : Int) by omega, show (c : Int) % 4294967296 * 256 % 4294967296 = ((c * 256 : Nat) : Int) by omega, show (d : Int) % 4294967296 = ((d : Nat) : Int) by omega]
 have o := or_pieces a b c d (by omega) (by omega) (by omega)
 rw [u32_or_nat _ _ (by omega) (by omega), u32_or_nat _ _ ?_ (by omega), u32_or_nat _ _ ?_ (by omega), o]
 ·omega
 ·have := Nat.le_trans (Nat.left_le_or (n := (a * 16777216 ||| b * 65536) ||| c * 256) (m := d)) (Nat.le_of_eq o)
  omega
 ·have l1 := Nat.left_le_or (n := a * 16777216 ||| b * 65536) (m := c * 256)
  have l2 := Nat.le_trans (Nat.left_le_or (n := (a * 16777216 ||| b * 65536) ||| c * 256) (m := d)) (Nat.le_of_eq o)
  omega
theorem wrd_eq (s : ByteArray) : wrd (iniP s) = wrd (iniR s) := funext fun i => wrd_congr _ _ (fun j _ => ini_eq s j) i
theorem piece_size (s : ByteArray) (j : Nat) (h : 64 * j + 64 ≤ s.size) : (piece s j).size = 64 := by
 unfold piece; rw [ByteArray.size_extract]; omega
structure Cells8 (w : World) (g : Nat) (y : Nat → Int) : Prop where
 c0 : w.cell? ⟨g, 0, none⟩ = some (.int .u32 (y 0))
 c1 : w.cell? ⟨g, 1, none⟩ = some (.int .u32 (y 1))
 c2 : w.cell? ⟨g, 2, none⟩ = some (.int .u32 (y 2))
 c3 : w.cell? ⟨g, 3, none⟩ = some (.int .u32 (y 3))
 c4 : w.cell? ⟨g, 4, none⟩ = some (.int .u32 (y 4))
 c5 : w.cell? ⟨g, 5, none⟩ = some (.int .u32 (y 5))
 c6 : w.cell? ⟨g, 6, none⟩ = some (.int .u32 (y 6))
 c7 : w.cell? ⟨g, 7, none⟩ = some (.int .u32 (y 7))
 free : ∀ j, w.frozen? ⟨g, j, none⟩ = false
theorem Words.cells8 {w : World} {g : Nat} {y : Nat → Int} (h : Words w g 8 294 y) : Cells8 w g y := ⟨h.cell 0 (by omega), h.cell 1 (by omega), h.cell 2 (by omega), h.cell 3 (by omega), h.cell 4 (by omega), h.cell 5 (by omega), h.cell 6 (by omega), h.cell 7 (by omega), h.free⟩
theorem put8 {w : World} {g : Nat} {x y : Nat → Int} (h : Words w g 8 294 x) : Words ((((((((w.setCell ⟨g, 0, none⟩ (.int .u32 (y 0))).setCell ⟨g, 1, none⟩ (.int .u32 (y 1))).setCell ⟨g, 2, none⟩ (.int .u32 (y 2))).setCell ⟨g, 3, none⟩ (.int .u32 (y 3))).setCell ⟨g, 4, none⟩ (.int .u32 (y 4))).setCell ⟨g, 5, none⟩ (.int .u32 (y 5))).setCell ⟨g, 6, none⟩ (.int .u32 (y 6))).setCell ⟨g, 7, none⟩ (.int .u32 (y 7))) g 8 294 y := by
 have h8 := (((((((h.put 0 (y 0)).put 1 (y 1)).put 2 (y 2)).put 3 (y 3)).put 4 (y 4)).put 5 (y 5)).put 6 (y 6)).put 7 (y 7)
 unfold Words at h8 ⊢
 rw [h8]
 congr 2
theorem put8_other {w : World} {g k n : Nat} {t : TypeId} {f y : Nat → Int} (h : Words w k n t f) (hk : k ≠ g) : Words ((((((((w.setCell ⟨g, 0, none⟩ (.int .u32 (y 0))).setCell ⟨g, 1, none⟩ (.int .u32 (y 1))).setCell ⟨g, 2, none⟩ (.int .u32 (y 2))).setCell ⟨g, 3, none⟩ (.int .u32 (y 3))).setCell ⟨g, 4, none⟩ (.int .u32 (y 4))).setCell ⟨g, 5, none⟩ (.int .u32 (y 5))).setCell ⟨g, 6, none⟩ (.int .u32 (y 6))).setCell ⟨g, 7, none⟩ (.int .u32 (y 7))) k n t f :=
 (((((((h.other _ _ hk).other _ _ hk).other _ _ hk).other _ _ hk).other _ _ hk).other _ _ hk).other _ _ hk).other _ _ hk
theorem put8_below {W w : World} {g : Nat} {y : Nat → Int} (h : Below g W w) : Below g W ((((((((w.setCell ⟨g, 0, none⟩ (.int .u32 (y 0))).setCell ⟨g, 1, none⟩ (.int .u32 (y 1))).setCell ⟨g, 2, none⟩ (.int .u32 (y 2))).setCell ⟨g, 3, none⟩ (.int .u32 (y 3))).setCell ⟨g, 4, none⟩ (.int .u32 (y 4))).setCell ⟨g, 5, none⟩ (.int .u32 (y 5))).setCell ⟨g, 6, none⟩ (.int .u32 (y 6))).setCell ⟨g, 7, none⟩ (.int .u32 (y 7))) :=
 (((((((h.setCell (Nat.le_refl _) _).setCell (Nat.le_refl _) _).setCell (Nat.le_refl _) _).setCell (Nat.le_refl _) _).setCell (Nat.le_refl _) _).setCell (Nat.le_refl _) _).setCell (Nat.le_refl _) _).setCell (Nat.le_refl _) _
theorem make32 (w : World) : (Instr.makeSlice 165 (.int .i64 0) (.int .i64 32)).run Tryz.prog w = .ok (.slice (some ⟨w.heap.size, 0, none⟩) 0 32) (w.alloc (.cells (Array.replicate 32 (.int .u8 0)) 5)) := by kernel_rfl
theorem dinfo5 : (Tryz.prog.info? 5).map (fun i => (i.zero, i.size, i.bytes)) = some (some (.int .u8 0), 1, 1) := by kernel_rfl
def tl (st : Nat → Int) : Nat → List Int
 | 0 => []
 | k + 1 => tl st k ++ [st k / 16777216 % 256, st k / 65536 % 256, st k / 256 % 256, st k % 256]
theorem tl_len (st : Nat → Int) (k : Nat) : (tl st k).length = 4 * k := by
 induction k with
 | zero => rfl
 | succ k ih => simp [tl, ih]; omega
set_option maxHeartbeats 1000000 in
set_option maxRecDepth 100000 in
theorem told_any (st : Nat → Int) (w : World) :
  Calls Tryz.prog 188 #[.agg (row 8 st)] w fun e w' => e = .returned (.string (strOfNums (tl st 8))) ∧ Below w.heap.size w w' := by
 have hmk := make32
 have hA : Words ((w.alloc (Obj.cells (row 8 st) 294)).alloc (Obj.cells (Array.replicate 32 (Value.int IntKind.u8 0)) 5)) w.heap.size 8 294 st := heap_alloc2_old _ _ _
 have hld8 : (Tryz.prog.info? 294).map (·.size) = some (row 8 st).size := by rw [row_size]; exact info26
 go_enter Tryz.func188, Tryz.ntmps188
 go_wp2_with (refine wpList_load_row rfl 294 (.tmp 1) rfl w.heap.size rfl 294 (row 8 st) (0, 0) _ (heap_alloc2_old _ _ _) Tryz.underlying294 rfl hld8 ?_)
 obtain ⟨i0, hi, hz0, hz1, hz2⟩ := info_parts dinfo5
 go_loopw [8, 3] (fun i v wr => ∃ k : Nat, k ≤ 8 ∧ i = .int .i64 k ∧ v = .slice (some ⟨w.heap.size + 1, 0, none⟩) (4 * k) 32 ∧ wr.ownsRow (w.heap.size + 1) 5 1 (.slice (some ⟨w.heap.size + 1, 0, none⟩) (4 * k) 32) (4 * k) ((tl st k).map (Value.int .u8)) ∧ Below w.heap.size w wr) (fun i _ _ => 8 - (intOf i).toNat)
 case atStart =>
  refine ⟨0, by omega, rfl, rfl, ⟨rfl, Or.inr ⟨w.heap.size + 1, 32, _, rfl, Nat.le_refl _, heap_alloc2_new _ _ _, by omega, by unfold maxLen; omega, by simp, by simp [tl]⟩⟩, ((Below.refl _ _).alloc (Nat.le_refl _) _).alloc (by simp) _⟩
 case round =>
  obtain ⟨k, hk, rfl, rfl, hown, hb⟩ := hrel
  by_cases hlt : k < 8
  ·have hix := fun Wx => index_row 8 294 st k hlt Wx Tryz.underlying294
   go_wp2_with (at_builtin; refine wpList_append_fits _ rfl (.tmp 11) (.tmp 23) 165 rfl (w.heap.size + 1) 5 i0 1 Tryz.underlying165 hi hz1 (w.heap.size + 1) (4 * k) 32 ((tl st k).map (Value.int .u8)) rfl (hown.alloc _) ⟨wr.heap.size, 0, none⟩ 4 4 [.int .u8 (st k / 16777216 % 256), .int .u8 (st k / 65536 % 256), .int .u8 (st k / 256 % 256), .int .u8 (st k % 256)] rfl rfl ?c1 ?c2 ?c3 ?_)
   case c1 =>
    intro j u hj
    match j, hj with
    | 0, hj => simp at hj; subst hj; simp [Addr.add]
    | 1, hj => simp at hj; subst hj; simp [Addr.add]
    | 2, hj => simp at hj; subst hj; simp [Addr.add]
    | 3, hj => simp at hj; subst hj; simp [Addr.add]
   case c2 => intro u hu; simp at hu; rcases hu with rfl | rfl | rfl | rfl <;> rfl
   case c3 => omega
   intro w' hown' hgrow
   have hb' : Below w.heap.size w w' := (hb.alloc (by have := hb.size; omega) _).grown hgrow (by have := hb.size; simp; omega) (fun k hk => by cases hk; omega)
   have hown2 : w'.ownsRow (w.heap.size + 1) 5 1 (.slice (some ⟨w.heap.size + 1, 0, none⟩) (4 * (k + 1)) 32) (4 * (k + 1)) ((tl st (k + 1)).map (Value.int .u8)) := by
    have e : 4 * (k + 1) = 4 * k + 4 := by omega
    rw [e]; simpa [tl] using hown'
   clear hown' hgrow hown hb
   go_wp2
   go_roundw
   case rel => exact ⟨k + 1, by omega, by go_num, by congr 1, hown2, hb'⟩
   case measure => simp [intOf]; omega
  ·have hk8 : k = 8 := by omega
   subst hk8
   have hcv := run_convert_bytes_arg (P := Tryz.prog) wr 165 5 Tryz.underlying165 Tryz.underlying5 (w.heap.size + 1) 0 32 32 (tl st 8) (tl_len st 8) (fun i hi => by
    rw [Nat.zero_add, hown.cellAt i (by omega)]
    have hl : i < (tl st 8).length := by rw [tl_len]; omega
    rw [List.getElem?_map, List.getElem?_eq_getElem hl, List.getD_eq_getElem?_getD, List.getElem?_eq_getElem hl]; rfl) 9 Tryz.underlying9
   go_wp2
   go_ret
   exact ⟨rfl, hb⟩
end Go.Proofs.YtadinjaocnlglaaGreatDoor
