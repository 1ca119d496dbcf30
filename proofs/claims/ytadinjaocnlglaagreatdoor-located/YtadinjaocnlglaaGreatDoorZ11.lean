/-
  The walk of digest.told.
  Rows of bytes in a block; a text copied into one; the bytes of texts.
  The walk of vaultref.padded.
  The walk of digest.mix.
-/
import Derived.Test.YtadinjaocnlglaaGreatDoorZ10
import Derived.WalkKit
import Derived.WalkSpells
import Derived.WalkLawsBesides
import Derived.BigRegion
import Derived.BigQuiet
import Derived.Deep.QuietTactic
import Derived.Deep.RegionWith
import Derived.Laws.CopyRow
import Derived.Laws.BytesArg
namespace Go.Proofs.YtadinjaocnlglaaGreatDoor
open Go.RowKit
theorem make32 (w : World) : (Instr.makeSlice 165 (.int .i64 0) (.int .i64 32)).run Tryz.prog w = .ok (.slice (some ⟨w.heap.size, 0, none⟩) 0 32) (w.alloc (.cells (Array.replicate 32 (.int .u8 0)) 5)) := by kernel_rfl
theorem dinfo5 : (Tryz.prog.info? 5).map (fun i => (i.zero, i.size, i.bytes)) = some (some (.int .u8 0), 1, 1) := by kernel_rfl
/-- the bytes of the first k words -/
def tl (st : Nat → Int) : Nat → List Int
  | 0 => []
  | k + 1 => tl st k ++ [st k / 16777216 % 256, st k / 65536 % 256, st k / 256 % 256, st k % 256]
theorem tl_len (st : Nat → Int) (k : Nat) : (tl st k).length = 4 * k := by
  induction k with
  | zero => rfl
  | succ k ih => simp [tl, ih]; omega
set_option maxHeartbeats 1000000 in
set_option maxRecDepth 100000 in
theorem told_any (st : Nat → Int) (w : World) :
    Calls Tryz.prog 188 #[.agg (row 8 st)] w fun e w' => e = .returned (.string (strOfNums (tl st 8))) ∧ Below w.heap.size w w' := by
  have hmk := make32
  have hA : Words ((w.alloc (Obj.cells (row 8 st) 294)).alloc (Obj.cells (Array.replicate 32 (Value.int IntKind.u8 0)) 5)) w.heap.size 8 294 st := heap_alloc2_old _ _ _
  have hld8 : (Tryz.prog.info? 294).map (·.size) = some (row 8 st).size := by rw [row_size]; exact info26
  go_enter Tryz.func188, Tryz.ntmps188
  go_wp2_with (refine wpList_load_row rfl 294 (.tmp 1) rfl w.heap.size rfl 294 (row 8 st) (0, 0) _ (heap_alloc2_old _ _ _) Tryz.underlying294 rfl hld8 ?_)
  obtain ⟨i0, hi, hz0, hz1, hz2⟩ := info_parts dinfo5
  go_loopw [8, 3] (fun i v wr => ∃ k : Nat, k ≤ 8 ∧ i = .int .i64 k ∧ v = .slice (some ⟨w.heap.size + 1, 0, none⟩) (4 * k) 32 ∧ wr.ownsRow (w.heap.size + 1) 5 1 (.slice (some ⟨w.heap.size + 1, 0, none⟩) (4 * k) 32) (4 * k) ((tl st k).map (Value.int .u8)) ∧ Below w.heap.size w wr) (fun i _ _ => 8 - (intOf i).toNat)
  case atStart =>
    refine ⟨0, by omega, rfl, rfl, ⟨rfl, Or.inr ⟨w.heap.size + 1, 32, _, rfl, Nat.le_refl _, heap_alloc2_new _ _ _, by omega, by unfold maxLen; omega, by simp, by simp [tl]⟩⟩, ((Below.refl _ _).alloc (Nat.le_refl _) _).alloc (by simp) _⟩
  case round =>
    obtain ⟨k, hk, rfl, rfl, hown, hb⟩ := hrel
    by_cases hlt : k < 8
    · have hix := fun Wx => index_row 8 294 st k hlt Wx Tryz.underlying294
      go_wp2_with (at_builtin; refine wpList_append_fits _ rfl (.tmp 11) (.tmp 23) 165 rfl (w.heap.size + 1) 5 i0 1 Tryz.underlying165 hi hz1 (w.heap.size + 1) (4 * k) 32 ((tl st k).map (Value.int .u8)) rfl (hown.alloc _) ⟨wr.heap.size, 0, none⟩ 4 4 [.int .u8 (st k / 16777216 % 256), .int .u8 (st k / 65536 % 256), .int .u8 (st k / 256 % 256), .int .u8 (st k % 256)] rfl rfl ?c1 ?c2 ?c3 ?_)
      case c1 =>
        intro j u hj
        match j, hj with
        | 0, hj => simp at hj; subst hj; simp [Addr.add]
        | 1, hj => simp at hj; subst hj; simp [Addr.add]
        | 2, hj => simp at hj; subst hj; simp [Addr.add]
        | 3, hj => simp at hj; subst hj; simp [Addr.add]
      case c2 => intro u hu; simp at hu; rcases hu with rfl | rfl | rfl | rfl <;> rfl
      case c3 => omega
      intro w' hown' hgrow
      have hb' : Below w.heap.size w w' := (hb.alloc (by have := hb.size; omega) _).grown hgrow (by have := hb.size; simp; omega) (fun k hk => by cases hk; omega)
      have hown2 : w'.ownsRow (w.heap.size + 1) 5 1 (.slice (some ⟨w.heap.size + 1, 0, none⟩) (4 * (k + 1)) 32) (4 * (k + 1)) ((tl st (k + 1)).map (Value.int .u8)) := by
        have e : 4 * (k + 1) = 4 * k + 4 := by omega
        rw [e]; simpa [tl] using hown'
      clear hown' hgrow hown hb
      go_wp2
      go_roundw
      case rel => exact ⟨k + 1, by omega, by go_num, by congr 1, hown2, hb'⟩
      case measure => simp [intOf]; omega
    · have hk8 : k = 8 := by omega
      subst hk8
      have hcv := run_convert_bytes_arg (P := Tryz.prog) wr 165 5 Tryz.underlying165 Tryz.underlying5 (w.heap.size + 1) 0 32 32 (tl st 8) (tl_len st 8) (fun i hi => by
        rw [Nat.zero_add, hown.cellAt i (by omega)]
        have hl : i < (tl st 8).length := by rw [tl_len]; omega
        rw [List.getElem?_map, List.getElem?_eq_getElem hl, List.getD_eq_getElem?_getD, List.getElem?_eq_getElem hl]; rfl) 9 Tryz.underlying9
      go_wp2
      go_ret
      exact ⟨rfl, hb⟩
end Go.Proofs.YtadinjaocnlglaaGreatDoor
namespace Go.Proofs.YtadinjaocnlglaaGreatDoor
open Go.RowKit
/-- n bytes in a row -/
def brow (n : Nat) (f : Nat → Int) : Array Value := Array.ofFn (n := n) fun i => Value.int .u8 (f i.val)
theorem brow_size (n : Nat) (f : Nat → Int) : (brow n f).size = n := by simp [brow]
theorem brow_get (n : Nat) (f : Nat → Int) (k : Nat) (h : k < n) : (brow n f)[k]? = some (.int .u8 (f k)) := by
  simp [brow, h]
theorem brow_none (n : Nat) (f : Nat → Int) (k : Nat) (h : ¬ k < n) : (brow n f)[k]? = none := by
  simp [brow, h]
theorem brow_set (n : Nat) (f : Nat → Int) (k : Nat) (v : Int) : (brow n f).setIfInBounds k (.int .u8 v) = brow n (upd f k v) := by
  apply Array.ext_getElem?
  intro i
  rw [Array.getElem?_setIfInBounds, brow_size]
  by_cases hi : i < n
  · rw [brow_get n f i hi, brow_get n _ i hi]
    by_cases h : k = i
    · subst h; simp [hi, upd]
    · simp [h, upd, Ne.symm h]
  · rw [brow_none n f i hi, brow_none n _ i hi]
    by_cases h : k = i
    · subst h; simp [hi]
    · simp [h]
/-- the block g holds n bytes -/
def Byts (w : World) (g n : Nat) (f : Nat → Int) : Prop := w.heap[g]? = some (.cells (brow n f) 5 (0, 0))
theorem Byts.cell {w : World} {g n : Nat} {f : Nat → Int} (h : Byts w g n f) (k : Nat) (hk : k < n) : w.cell? ⟨g, k, none⟩ = some (.int .u8 (f k)) := by
  rw [cell_of_row w g k _ 5 _ h, brow_get n f k hk]
theorem Byts.free {w : World} {g n : Nat} {f : Nat → Int} (h : Byts w g n f) (k : Nat) : w.frozen? ⟨g, k, none⟩ = false := frozen_of_row w g k _ 5 h
theorem Byts.put {w : World} {g n : Nat} {f : Nat → Int} (h : Byts w g n f) (k : Nat) (v : Int) : Byts (w.setCell ⟨g, k, none⟩ (.int .u8 v)) g n (upd f k v) := by
  have := heap_setCell_same w g k _ 5 (.int .u8 v) h
  rwa [brow_set] at this
theorem Byts.to {w : World} {g n : Nat} {f h : Nat → Int} (b : Byts w g n f) (e : ∀ j, j < n → f j = h j) : Byts w g n h := by
  have : brow n f = brow n h := by
    apply Array.ext
    · simp [brow]
    · intro i h1 h2
      simp only [brow, Array.getElem_ofFn]
      rw [e i (by simpa [brow] using h1)]
  unfold Byts; rw [← this]; exact b
/-- behind a copy of a text into the row's head -/
def over (s : ByteArray) (f : Nat → Int) : Nat → Int := fun j => if j < s.size then byt s j else f j
theorem byt_get (s : ByteArray) (i : Nat) (h : i < s.size) : byt s i = ((s.data[i]'h).toNat : Int) := by
  have hs : i < s.data.toList.length := h
  unfold byt
  rw [List.getD_eq_getElem?_getD, List.getElem?_eq_getElem hs]
  rfl
theorem run_copy_text {w : World} {g n : Nat} {f : Nat → Int} (h : Byts w g n f) (s : ByteArray) (hs : s.size ≤ n) (cap : Nat) (ty sT : TypeId) :
    (Builtin.copy_ #[165, sT] ty #[.slice (some ⟨g, 0, none⟩) n cap, .string s]).run Tryz.prog w = .ok (goInt s.size) (w.setRow g (brow n (over s f))) := by
  have hmin : Nat.min s.size n = s.size := Nat.min_eq_left hs
  have hsz : (Tryz.prog.info? 5).map (·.size) = some 1 := by kernel_rfl
  have hst := run_storeCells_at Tryz.prog g 0 5 ((s.extract 0 s.size).data.map fun b => Value.int .u8 b.toNat).toList 0 (brow n f) w h (by simp [brow_size]; omega) (by intro v hv; simp at hv; obtain ⟨b, _, rfl⟩ := hv; rfl)
  have he : s.extract 0 s.size = s := by simp
  have erow : ((brow n f).toList.take (0 + 0) ++ ((s.extract 0 s.size).data.map fun b => Value.int .u8 b.toNat).toList ++ (brow n f).toList.drop (0 + 0 + ((s.extract 0 s.size).data.map fun b => Value.int .u8 b.toNat).toList.length)).toArray = brow n (over s f) := by
    rw [he]
    apply Array.ext_getElem?
    intro i
    by_cases hi : i < n
    · rw [brow_get n _ i hi]
      by_cases h1 : i < s.size
      · simp [over, h1, byt_get s i h1, List.getElem?_append]
      · have e2 : s.size + (i - s.size) = i := by omega
        have hbi := brow_get n f i hi
        simp [over, h1, List.getElem?_append, e2, hbi]
    · have h1 : ¬ i < s.size := by omega
      have e2 : s.size + (i - s.size) = i := by omega
      have hbi := brow_none n f i hi
      rw [brow_none n _ i hi]
      simp [List.getElem?_append, h1, e2, hbi]
  rw [erow] at hst
  cases hq : Tryz.prog.info? 5 with
  | none => simp [hq] at hsz
  | some i =>
    simp [Builtin.copy_, run_underlying Tryz.underlying165, Builtin.lenOf, Builtin.firstCells, sizeOf, typeInfo, hq, hmin]
    rw [he] at hst
    have el : List.take s.size (List.map (fun b => Value.int IntKind.u8 (b.toNat : Int)) s.data.toList) = (Array.map (fun b => Value.int IntKind.u8 (b.toNat : Int)) s.data).toList := by
      rw [List.take_of_length_le (by simp), Array.toList_map]
    rw [el, hst]
    rfl
theorem wpList_copy_text {w : World} {ops : Array Oper} {rest : List Oper} {o : Oper} {a : Act} {Q : Exit → Act → World → Prop} (hgd : o.guard = none) (d s : Operand)
    (ho : o.op = .call { callee := .builtin .copy, args := #[d, s], argTypes := #[165, 9] }) (g n cap : Nat) (f : Nat → Int) (h : Byts w g n f) (t : ByteArray) (ht : t.size ≤ n)
    (hd : a.eval d = .slice (some ⟨g, 0, none⟩) n cap) (hs : a.eval s = .string t)
    (hK : ∀ w2, Hid (w2 = w.setRow g (brow n (over t f))) → wpList Tryz.prog ops Q rest (a.put o.dst (goInt t.size)) w2) : wpList Tryz.prog ops Q (o :: rest) a w := by
  refine wpList_plain hgd fun K hK' => ?_
  have hrun := run_copy_text h t ht cap o.type 9
  unfold Oper.wp
  simp [execOp, ho, resolve, invoke, builtin, hd, hs, hrun, Result.andThen]
  exact hK' _ _ (hK _ rfl)
theorem byts_setRow {w : World} {g n : Nat} {old : Array Value} (f : Nat → Int) (h : w.heap[g]? = some (.cells old 5 (0, 0))) : Byts (w.setRow g (brow n f)) g n f := setRow_heap w g old _ 5 _ h
/-- n bytes that are told by a function, as a text -/
def txt (n : Nat) (f : Nat → Int) : ByteArray := strOfNums ((List.range n).map f)
theorem convert_byts {w : World} {g n : Nat} {f : Nat → Int} (h : Byts w g n f) (cap : Nat) : (convert 165 9 (.slice (some ⟨g, 0, none⟩) n cap)).run Tryz.prog w = .ok (.string (txt n f)) w := by
  refine run_convert_bytes_arg (P := Tryz.prog) w 165 5 Tryz.underlying165 Tryz.underlying5 g 0 n cap ((List.range n).map f) (by simp) (fun i hi => ?_) 9 Tryz.underlying9
  rw [Nat.zero_add, h.cell i hi]
  simp [hi]
end Go.Proofs.YtadinjaocnlglaaGreatDoor
namespace Go.Proofs.YtadinjaocnlglaaGreatDoor
open Go.RowKit
end Go.Proofs.YtadinjaocnlglaaGreatDoor
namespace Go.Proofs.YtadinjaocnlglaaGreatDoor
open Go.RowKit
set_option maxHeartbeats 1000000 in
set_option maxRecDepth 100000 in
theorem mix_any (kt : Nat → Int) (st : Nat → Int) (s : ByteArray) (w : World) (h0 : s.size = 64) (hT : Tab w 2 kt) (h3 : 4 ≤ w.heap.size) :
    Calls Tryz.prog 226 #[.agg (row 8 st), .string s] w fun e w' => e = .returned (.agg (row 8 (press kt (wrd (iniP s)) st))) ∧ Below w.heap.size w w' := by
  have HT : Hid _ := hT
  clear hT
  go_enter Tryz.func226, Tryz.ntmps226
  go_wp2_with fail
  refine (sched_any s _ h0).mono ?_
  rintro e w1 ⟨rfl, hb1⟩
  have hsz1 : w.heap.size + 2 ≤ w1.heap.size := by have := hb1.size; simpa using this
  have hA1 : Words w1 w.heap.size 8 294 st := Words.below (heap_alloc2_old _ _ _) hb1 (by simp; omega)
  have hR1 : Words w1 (w.heap.size + 1) 8 294 (fun _ => 0) := Words.below (heap_alloc2_new _ _ _) hb1 (by simp)
  have hB1 : Below w.heap.size w w1 := (((Below.refl _ _).alloc (Nat.le_refl _) _).alloc (by simp) _).trans (hb1.mono (by simp; omega))
  have hld : (Tryz.prog.info? 372).map (·.size) = some (row 64 (wrd (iniP s))).size := by rw [row_size]; exact info32
  clear hb1
  generalize hW : wrd (iniP s) = W at *
  have HW : Hid (wrd (iniP s) = W) := hW
  clear hW
  go_wp2_with (refine wpList_store_row_at rfl rfl 372 (.tmp 5) (.tmp 23) rfl w1.heap.size (row 64 W) rfl rfl 372 _ (heap_alloc_new w1 _) hld (by rw [row_size]; rfl) (row_ones _ _) ?_; intro w2 hw2)
  have M2 : Mem w w1.heap.size st (fun _ => 0) W w2 := by
    refine ⟨?_, ?_, ?_, ?_, hsz1, ?_⟩
    · rw [hw2.out]; exact (hA1.alloc _).setRow_other _ _ (by omega)
    · rw [hw2.out]; exact (hR1.alloc _).setRow_other _ _ (by omega)
    · rw [hw2.out]; exact words_setRow W (heap_alloc_new w1 _)
    · rw [hw2.out]; exact below_setRow (hB1.alloc (by omega) _) _ (by omega) _
    · rw [hw2.out]; simp
  clear hw2 hA1 hR1 hB1 hsz1
  have c0 := M2.own.cell 0 (by omega)
  have c1 := M2.own.cell 1 (by omega)
  have c2 := M2.own.cell 2 (by omega)
  have c3 := M2.own.cell 3 (by omega)
  go_quiet (fail)
  go_wp2
  obtain ⟨w3, hw3⟩ : ∃ wq, wq = w2.drewN nq := ⟨_, rfl⟩
  rw [← hw3]
  have M3 : Mem w w1.heap.size st (fun _ => 0) W w3 := by rw [hw3]; exact M2.drewN _
  clear hw3 c0 c1 c2 c3 M2
  have c4 := M3.own.cell 4 (by omega)
  have c5 := M3.own.cell 5 (by omega)
  have c6 := M3.own.cell 6 (by omega)
  have c7 := M3.own.cell 7 (by omega)
  go_quiet (fail)
  obtain ⟨w4, hw4⟩ : ∃ wq, wq = w3.drewN nq := ⟨_, rfl⟩
  rw [← hw4]
  have M4 : Mem w w1.heap.size st (fun _ => 0) W w4 := by rw [hw4]; exact M3.drewN _
  clear hw4 c4 c5 c6 c7 M3
  have hw4 : Words w4 w1.heap.size 64 372 W := M4.wrd
  go_wp2_with (refine wpList_load_row rfl 372 (.tmp 5) rfl w1.heap.size rfl 372 (row 64 W) (0, 0) _ hw4 Tryz.underlying372 rfl hld ?_)
  go_loop [41, 6, 7, 8, 9, 10, 11, 12, 13] (fun i a b c d e f g h => ∃ k : Nat, k ≤ 64 ∧ i = .int .i64 k ∧ a = .int .u32 (rounds kt W st k 0) ∧ b = .int .u32 (rounds kt W st k 1) ∧ c = .int .u32 (rounds kt W st k 2) ∧ d = .int .u32 (rounds kt W st k 3) ∧ e = .int .u32 (rounds kt W st k 4) ∧ f = .int .u32 (rounds kt W st k 5) ∧ g = .int .u32 (rounds kt W st k 6) ∧ h = .int .u32 (rounds kt W st k 7)) (fun i _ _ _ _ _ _ _ _ => 64 - (intOf i).toNat)
  case atStart => exact ⟨0, by omega, rfl, rfl, rfl, rfl, rfl, rfl, rfl, rfl, rfl⟩
  case round =>
    obtain ⟨k, hk, rfl, rfl, rfl, rfl, rfl, rfl, rfl, rfl, rfl⟩ := hrel
    by_cases hlt : k < 64
    · have hKc : w4.cell? ⟨2, k, none⟩ = some (.int .u32 (kt k)) := Tab.below HT.out M4.below (by omega) k hlt
      have hix := fun Wx => index_row 64 372 W k hlt Wx Tryz.underlying372
      obtain ⟨x, hx⟩ : ∃ x, rounds kt W st k = x := ⟨_, rfl⟩
      have HS : Hid (rounds kt W st (k + 1) = rnd x (kt k) (W k)) := by rw [← hx]; rfl
      rw [hx]
      clear hx
      go_wp2_with (go_at_call 266; refine (rot_at _ _ _ (by decide) (by decide)).mono ?_; rintro e w' ⟨rfl, rfl⟩)
      go_round
      case rel =>
        refine ⟨k + 1, by omega, by go_num, ?_⟩
        rw [HS.out]
        exact ⟨congrArg (Value.int .u32) (rnd_a x _ _), rfl, rfl, rfl, congrArg (Value.int .u32) (rnd_e x _ _), rfl, rfl, rfl⟩
      case measure => simp [intOf]; omega
    · have hk64 : k = 64 := by omega
      subst hk64
      have hlo : w.heap.size + 2 ≤ w4.heap.size := by have := M4.lo; have := M4.size; omega
      obtain ⟨x, hx⟩ : ∃ x, rounds kt W st 64 = x := ⟨_, rfl⟩
      have HX : Hid (rounds kt W st 64 = x) := hx
      rw [hx]
      clear hx
      go_wp2
      go_loopw [115] (fun i wr => ∃ k : Nat, k ≤ 8 ∧ i = .int .i64 k ∧ SumMem w w4.heap.size st x k wr) (fun i _ => 8 - (intOf i).toNat)
      case atStart => exact ⟨0, by omega, rfl, M4.below.alloc (by omega) _, M4.own.alloc _, M4.res.alloc _, x, heap_alloc_new w4 _, fun j hj => by omega, fun j _ => rfl⟩
      case round =>
        clear M4
        obtain ⟨k, hk, rfl, S⟩ := hrel
        by_cases hlt : k < 8
        · obtain ⟨f, hf, hf1, hf2⟩ := S.sum
          have c1 := hf.cell k hlt
          rw [hf2 k (Nat.le_refl _)] at c1
          have c2 := hf.free k
          have c3 := S.own.cell k hlt
          clear hf1 hf2 hf
          go_wp2
          go_region
          go_wp2
          go_roundw
          case rel => exact ⟨k + 1, by omega, by go_num, S.drew.step (by omega)⟩
          case measure => simp [intOf]; omega
        · have hk8 : k = 8 := by omega
          subst hk8
          obtain ⟨f, hf, hf1, hf2⟩ := S.sum
          have HF : Hid _ := hf1
          clear hf1 hf2
          have hR := S.res
          have hld8 : (Tryz.prog.info? 294).map (·.size) = some (row 8 f).size := by rw [row_size]; exact info26
          have hold8 : (row 8 (fun _ => 0)).size = (row 8 f).size := by simp [row_size]
          go_wp2_with (first | (refine wpList_load_row rfl 294 (.tmp 20) rfl w4.heap.size rfl 294 (row 8 f) (0, 0) _ hf Tryz.underlying294 rfl hld8 ?_) | (refine wpList_store_row rfl 294 (.tmp 4) (.tmp 127) rfl (w.heap.size + 1) (row 8 f) rfl rfl 294 (row 8 fun _ => 0) hR hld8 hold8 (row_ones _ _) ?_))
          have e : row 8 f = row 8 (press kt W st) := row_congr 8 _ _ (by
            intro j hj; rw [HF.out j hj]; unfold press; rw [HX.out])
          refine bodyPost_ret (v := .agg (row 8 f)) ?_ rfl ?_
          · exact results_cell_row Tryz.results226 _ _ (w.heap.size + 1) 294 (row 8 f) (0, 0) _ rfl (setRow_heap wr (w.heap.size + 1) _ _ 294 (0, 0) hR) Tryz.underlying294 rfl hld8
          · rw [e, ← HW.out]
            exact ⟨rfl, below_setRow S.below _ (by omega) _⟩
end Go.Proofs.YtadinjaocnlglaaGreatDoor
