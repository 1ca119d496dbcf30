/-
  The walks: turning, and the words of each round.
  The walk of digest.schedule.
  The walk of vaultref.turn.
  The walk of vaultref.words.
  What the two compressions share.
  The walk of vaultref.pressed.
  Rows as a region meets them; the pieces of a text.
-/
import Derived.Test.YtadinjaocnlglaaGreatDoorProg
import Derived.Test.YtadinjaocnlglaaGreatDoorZ09
import Derived.WalkKit
import Derived.WalkSpells
import Derived.WalkLawsBesides
import Derived.BigRegion
import Derived.BigQuiet
import Derived.Deep.QuietTactic
namespace Go.Proofs.YtadinjaocnlglaaGreatDoor
open Go.RowKit

theorem index_byt (s : ByteArray) (i : Nat) (h : i < s.size) (W : World) (j : Int) (hj : j = (i : Int)) : (Instr.index 9 (.string s) (.int .i64 j)).run Tryz.prog W = .ok (.int .u8 (byt s i)) W := by
  subst hj
  rw [run_index_string W 9 s .i64 i Tryz.underlying9, dif_pos ⟨by omega, by omega⟩]
  have hs : i < s.data.toList.length := h
  have e : byt s i = ((s[i]'h).toNat : Int) := by
    unfold byt
    rw [List.getD_eq_getElem?_getD, List.getElem?_eq_getElem hs]
    rfl
  rw [e]
  rfl

set_option maxHeartbeats 400000 in
theorem rot_any (x : Int) (n : Nat) (k : Int) (w : World) (hk : bits BinOp.and IntKind.u64 (IntKind.u64.wrap k) 31 = ((32 - n : Nat) : Int)) (h1 : 1 ≤ n) (h3 : n ≤ 32) :
    Calls Tryz.prog 266 #[.int .u32 x, .int .i64 k] w fun e w' => e = .returned (.int .u32 (rotr x n)) ∧ w' = w := by
  obtain ⟨s, hs⟩ : ∃ s : Int, s = ((32 - n : Nat) : Int) := ⟨_, rfl⟩
  rw [← hs] at hk
  have h0 : 0 ≤ s := by omega
  have h2 : s ≤ 31 := by omega
  have e1 : s.toNat = 32 - n := by omega
  have e2 : (32 - s).toNat = n := by omega
  have e : bits BinOp.or IntKind.u32 (x * 2 ^ s.toNat % 4294967296) (x / 2 ^ (32 - s).toNat) = rotr x n := by rw [e1, e2, or_comm32]; rfl
  have E : Hid (bits BinOp.or IntKind.u32 (x * 2 ^ s.toNat % 4294967296) (x / 2 ^ (32 - s).toNat) = rotr x n) := e
  clear e e1 e2 hs
  go_enter Tryz.func266, Tryz.ntmps266
  go_wp2
  go_ret
  rw [E.out]
  exact ⟨rfl, rfl⟩

theorem and31 : ∀ m : Fin 31, bits BinOp.and IntKind.u64 (IntKind.u64.wrap (-((m.val : Int) + 1))) 31 = ((32 - (m.val + 1) : Nat) : Int) := by decide
/-- one contract for every constant that is met -/
theorem rot_at (x k : Int) (w : World) (h0 : -31 ≤ k) (h1 : k ≤ -1) :
    Calls Tryz.prog 266 #[.int .u32 x, .int .i64 k] w fun e w' => e = .returned (.int .u32 (rotr x (-k).toNat)) ∧ w' = w := by
  have h := and31 ⟨(-k).toNat - 1, by omega⟩
  have e1 : -((((-k).toNat - 1 : Nat) : Int) + 1) = k := by omega
  have e2 : 32 - ((-k).toNat - 1 + 1) = 32 - (-k).toNat := by omega
  simp only [e1, e2] at h
  exact rot_any x (-k).toNat k w h (by omega) (by omega)
/-- what a store of the k-th word does to the row that is being filled -/
theorem fill_step {w wr : World} {f g : Nat → Int} {k : Nat} {v : Int} (hb : Below w.heap.size w wr) (hsz : wr.heap.size = w.heap.size + 2) (hz : Words wr w.heap.size 64 372 (fun _ => 0)) (hf : Words wr (w.heap.size + 1) 64 372 f) (hfj : ∀ j, j < k → f j = g j) (hv : v = g k) :
    Below w.heap.size w (wr.setCell ⟨w.heap.size + 1, k, none⟩ (.int .u32 v)) ∧ (wr.setCell ⟨w.heap.size + 1, k, none⟩ (.int .u32 v)).heap.size = w.heap.size + 2 ∧
    Words (wr.setCell ⟨w.heap.size + 1, k, none⟩ (.int .u32 v)) w.heap.size 64 372 (fun _ => 0) ∧ ∃ f', Words (wr.setCell ⟨w.heap.size + 1, k, none⟩ (.int .u32 v)) (w.heap.size + 1) 64 372 f' ∧ ∀ j, j < k + 1 → f' j = g j := by
  refine ⟨hb.setCell (by simp) _, by simp [World.setCell]; exact hsz, hz.other _ _ (by simp), upd f k v, hf.put k v, fun j hj => ?_⟩
  unfold upd
  by_cases h : j = k
  · rw [if_pos h, h, hv]
  · rw [if_neg h]; exact hfj j (by omega)

theorem below_setRow {B : Nat} {a w : World} (h : Below B a w) (g : Nat) (hg : B ≤ g) (cs : Array Value) : Below B a (w.setRow g cs) :=
  h.trans ⟨rfl, rfl, rfl, by simp, fun k hk => setRow_other w g k cs (by omega)⟩
theorem info32 : (Tryz.prog.info? 372).map (·.size) = some 64 := by kernel_rfl
theorem info26 : (Tryz.prog.info? 294).map (·.size) = some 8 := by kernel_rfl

/-- a table of words -/
def Tab (w : World) (g : Nat) (f : Nat → Int) : Prop := ∀ k, k < 64 → w.cell? ⟨g, k, none⟩ = some (.int .u32 (f k))
theorem Tab.below {w w' : World} {g : Nat} {f : Nat → Int} (h : Tab w g f) {B : Nat} (hb : Below B w w') (hg : g < B) : Tab w' g f := fun k hk => (hb.cell (p := ⟨g, k, none⟩) hg).trans (h k hk)
theorem words_setRow {w : World} {g n : Nat} {t : TypeId} {old : Array Value} (f : Nat → Int) (h : w.heap[g]? = some (.cells old t (0, 0))) : Words (w.setRow g (row n f)) g n t f := setRow_heap w g old _ t _ h
theorem Words.setRow_other {w : World} {g n : Nat} {t : TypeId} {f : Nat → Int} (h : Words w g n t f) (k : Nat) (cs : Array Value) (hk : g ≠ k) : Words (w.setRow k cs) g n t f := by
  unfold Words; rw [Go.setRow_other w k g cs hk]; exact h
/-- a whole row is stored: the world behind it under a name of its own -/
theorem wpList_store_row_at {P : Program} {ops : Array Oper} {rest : List Oper} {o : Oper} {a : Act} {w : World} {Q : Exit → Act → World → Prop} (hgd : o.guard = none) (hd : o.dst = none) (ty : TypeId) (x y : Operand) (ho : o.op = .store ty x y)
    (g : Nat) (cells : Array Value) (hx : a.eval x = .pointer (some ⟨g, 0, none⟩)) (hy : a.eval y = .agg cells)
    (t : TypeId) (old : Array Value) (hg : w.heap[g]? = some (.cells old t (0, 0))) (hi : (P.info? ty).map (·.size) = some cells.size)
    (hold : old.size = cells.size) (h1 : cells.all (·.oneCell') = true)
    (h : ∀ w2, Hid (w2 = w.setRow g cells) → wpList P ops Q rest a w2) : wpList P ops Q (o :: rest) a w :=
  wpList_store_row hgd ty x y ho g cells hx hy t old hg hi hold h1 (by rw [hd]; exact h _ rfl)

end Go.Proofs.YtadinjaocnlglaaGreatDoor
namespace Go.Proofs.YtadinjaocnlglaaGreatDoor
open Go.RowKit
set_option maxHeartbeats 1000000 in
theorem sched_any (s : ByteArray) (w : World) (h0 : s.size = 64)  :
    Calls Tryz.prog 265 #[.string s] w fun e w' => e = .returned (.agg (row 64 (wrd (iniP s)))) ∧ Below w.heap.size w w' := by
  go_enter Tryz.func265, Tryz.ntmps265
  go_wp2
  go_loopw [8] (fun i wr => ∃ k : Nat, k ≤ 16 ∧ i = .int .i64 k ∧ Below w.heap.size w wr ∧ wr.heap.size = w.heap.size + 2 ∧ Words wr w.heap.size 64 372 (fun _ => 0) ∧ ∃ f, Words wr (w.heap.size + 1) 64 372 f ∧ ∀ j, j < k → f j = wrd (iniP s) j) (fun i _ => 16 - (intOf i).toNat)
  case atStart =>
    refine ⟨0, by omega, rfl, ?_, ?_, ?_, (fun _ => 0), ?_, fun j hj => by omega⟩
    · exact ((Below.refl _ _).alloc (Nat.le_refl _) _).alloc (by simp) _
    · simp
    · unfold Words; rw [zeros64]; exact heap_alloc2_old _ _ _
    · unfold Words; rw [zeros64]; exact heap_alloc2_new _ _ _
  case round =>
    obtain ⟨k, hk, rfl, hb, hsz, hz, f, hf, hfj⟩ := hrel
    by_cases hlt : k < 16
    · have hck := hf.cell k (by omega)
      have hfk := hf.free k
      have i0 := fun W => index_byt s (4 * k) (by omega) W (4 * (k : Int)) (by omega)
      have i1 := fun W => index_byt s (4 * k + 1) (by omega) W (4 * (k : Int) + 1) (by omega)
      have i2 := fun W => index_byt s (4 * k + 2) (by omega) W (4 * (k : Int) + 2) (by omega)
      have i3 := fun W => index_byt s (4 * k + 3) (by omega) W (4 * (k : Int) + 3) (by omega)
      have HJ : Hid _ := hfj
      clear hfj
      go_wp2
      go_region
      go_wp2
      go_roundw
      case rel =>
        exact ⟨k + 1, by omega, by go_num, fill_step hb.drew hsz hz hf HJ.out (wrd_lo (iniP s) k hlt).symm⟩
      case measure => simp [intOf]; omega
    · have hk16 : k = 16 := by omega
      subst hk16
      have HF : Hid _ := hfj
      clear hfj
      go_wp2
      go_loopw [5] (fun i wr => ∃ k : Nat, 16 ≤ k ∧ k ≤ 64 ∧ i = .int .i64 k ∧ Below w.heap.size w wr ∧ wr.heap.size = w.heap.size + 2 ∧ Words wr w.heap.size 64 372 (fun _ => 0) ∧ ∃ f, Words wr (w.heap.size + 1) 64 372 f ∧ ∀ j, j < k → f j = wrd (iniP s) j) (fun i _ => 64 - (intOf i).toNat)
      case atStart => exact ⟨16, by omega, by omega, rfl, hb, hsz, hz, f, hf, HF.out⟩
      case round =>
        clear hf hb hsz hz HF
        obtain ⟨k, hk1, hk2, rfl, hb, hsz, hz, f, hf, hfj⟩ := hrel
        by_cases hlt : k < 64
        · have hck := hf.cell k (by omega)
          have hfk := hf.free k
          have h15 := hf.cell (k - 15) (by omega)
          have h2 := hf.cell (k - 2) (by omega)
          have h16 := hf.cell (k - 16) (by omega)
          have h7 := hf.cell (k - 7) (by omega)
          rw [hfj (k - 15) (by omega)] at h15
          rw [hfj (k - 2) (by omega)] at h2
          rw [hfj (k - 16) (by omega)] at h16
          rw [hfj (k - 7) (by omega)] at h7
          have HJ : Hid _ := hfj
          clear hfj
          go_wp2
          go_quiet (fail)
          go_wp2_with (go_at_call 266; refine (rot_at _ _ _ (by decide) (by decide)).mono ?_; rintro e w' ⟨rfl, rfl⟩)
          go_region
          go_wp2
          go_roundw
          case rel =>
            repeat apply Exists.intro
            exact ⟨⟨k + 1, by omega, by omega, by go_num, fill_step (below_drewN hb _) hsz hz hf HJ.out (wrd_hi (iniP s) k (by omega)).symm⟩, rfl⟩
          case measure => simp [intOf]; omega
        · have hk64 : k = 64 := by omega
          subst hk64
          have HF : Hid _ := hfj
          clear hfj
          have hld : (Tryz.prog.info? 372).map (·.size) = some (row 64 f).size := by rw [row_size]; exact info32
          have hold : (row 64 (fun _ => 0)).size = (row 64 f).size := by simp [row_size]
          go_wp2_with (first | (refine wpList_load_row rfl 372 (.tmp 3) rfl (w.heap.size + 1) rfl 372 (row 64 f) (0, 0) _ hf Tryz.underlying372 rfl hld ?_) | (refine wpList_store_row rfl 372 (.tmp 2) (.tmp 86) rfl (w.heap.size) (row 64 f) rfl rfl 372 (row 64 fun _ => 0) hz hld hold (row_ones _ _) ?_))
          have e : row 64 f = row 64 (wrd (iniP s)) := row_congr 64 _ _ HF.out
          refine bodyPost_ret (v := .agg (row 64 f)) ?_ rfl ?_
          · exact results_cell_row Tryz.results265 _ _ w.heap.size 372 (row 64 f) (0, 0) _ rfl (setRow_heap wr w.heap.size _ _ 372 (0, 0) hz) Tryz.underlying372 rfl hld
          · rw [e]
            exact ⟨rfl, below_setRow hb _ (Nat.le_refl _) _⟩
end Go.Proofs.YtadinjaocnlglaaGreatDoor
namespace Go.Proofs.YtadinjaocnlglaaGreatDoor
open Go.RowKit
end Go.Proofs.YtadinjaocnlglaaGreatDoor
namespace Go.Proofs.YtadinjaocnlglaaGreatDoor
open Go.RowKit
end Go.Proofs.YtadinjaocnlglaaGreatDoor
namespace Go.Proofs.YtadinjaocnlglaaGreatDoor
open Go.RowKit
theorem info25 : (Tryz.prog.info? 152).map (·.size) = some 1 := by kernel_rfl
theorem index_row (n t : Nat) (f : Nat → Int) (i : Nat) (h : i < n) (W : World) (hu : Tryz.prog.underlying t = some (.array n 152)) : (Instr.index t (.agg (row n f)) (.int .i64 i)).run Tryz.prog W = .ok (.int .u32 (f i)) W := by
  have hi := info25
  have hg := row_get n f i h
  cases hq : Tryz.prog.info? 152 with
  | none => simp [hq] at hi
  | some d =>
    have hs : d.size = 1 := by simpa [hq] using hi
    simp [Instr.index, asIntOf, run_underlying hu, sizeOf, typeInfo, hq, hs, part, hg]
    intro; omega
/-- what a compression has in memory: the state it was given, its result's place, the words -/
structure Mem (w : World) (g : Nat) (st x W : Nat → Int) (w2 : World) : Prop where
  own : Words w2 w.heap.size 8 294 st
  res : Words w2 (w.heap.size + 1) 8 294 x
  wrd : Words w2 g 64 372 W
  below : Below w.heap.size w w2
  lo : w.heap.size + 2 ≤ g
  size : w2.heap.size = g + 1
theorem Mem.drewN {w : World} {g : Nat} {st x W : Nat → Int} {w2 : World} (h : Mem w g st x W w2) (n : Nat) : Mem w g st x W (w2.drewN n) := ⟨h.own, h.res, h.wrd, below_drewN h.below n, h.lo, h.size⟩

def bs1 (x : Int) : Int := bits .xor .u32 (bits .xor .u32 (rotr x 6) (rotr x 11)) (rotr x 25)
def bs0 (x : Int) : Int := bits .xor .u32 (bits .xor .u32 (rotr x 2) (rotr x 13)) (rotr x 22)
def cho (e f g : Int) : Int := bits .xor .u32 (bits .and .u32 e f) (bits .and .u32 (bits .xor .u32 e 4294967295) g)
def maj (a b c : Int) : Int := bits .xor .u32 (bits .xor .u32 (bits .and .u32 a b) (bits .and .u32 a c)) (bits .and .u32 b c)
/-- one round -/
def rnd (x : Nat → Int) (k w : Int) : Nat → Int
  | 0 => (x 7 + bs1 (x 4) + cho (x 4) (x 5) (x 6) + k + w + bs0 (x 0) + maj (x 0) (x 1) (x 2)) % 4294967296
  | 1 => x 0
  | 2 => x 1
  | 3 => x 2
  | 4 => (x 3 + x 7 + bs1 (x 4) + cho (x 4) (x 5) (x 6) + k + w) % 4294967296
  | 5 => x 4
  | 6 => x 5
  | _ => x 6
/-- so many rounds -/
def rounds (kt W st : Nat → Int) : Nat → Nat → Int
  | 0 => st
  | k + 1 => rnd (rounds kt W st k) (kt k) (W k)
/-- a state behind a piece -/
def press (kt W st : Nat → Int) (j : Nat) : Int := (rounds kt W st 64 j + st j) % 4294967296
theorem xor_comm32 (a b : Int) : bits .xor .u32 a b = bits .xor .u32 b a := by
  unfold bits
  simp only [BitVec.xor_comm]
theorem not_form (e : Int) : bits .xor .u32 (if IntKind.u32.signed = true then -1 else IntKind.u32.max) e = bits .xor .u32 e 4294967295 := by
  rw [xor_comm32]; rfl
theorem rnd_a (x : Nat → Int) (k w : Int) : ((x 7 + bits BinOp.xor IntKind.u32 (bits BinOp.xor IntKind.u32 (rotr (x 4) 6) (rotr (x 4) 11)) (rotr (x 4) 25) +
    bits BinOp.xor IntKind.u32 (bits BinOp.and IntKind.u32 (x 4) (x 5)) (bits BinOp.and IntKind.u32 (bits BinOp.xor IntKind.u32 (if IntKind.u32.signed = true then -1 else IntKind.u32.max) (x 4)) (x 6)) + k + w +
    bits BinOp.xor IntKind.u32 (bits BinOp.xor IntKind.u32 (rotr (x 0) 2) (rotr (x 0) 13)) (rotr (x 0) 22)) % 4294967296 +
    bits BinOp.xor IntKind.u32 (bits BinOp.xor IntKind.u32 (bits BinOp.and IntKind.u32 (x 0) (x 1)) (bits BinOp.and IntKind.u32 (x 0) (x 2))) (bits BinOp.and IntKind.u32 (x 1) (x 2))) % 4294967296 = rnd x k w 0 := by
  rw [not_form]
  show ((x 7 + bs1 (x 4) + cho (x 4) (x 5) (x 6) + k + w + bs0 (x 0)) % 4294967296 + maj (x 0) (x 1) (x 2)) % 4294967296 = (x 7 + bs1 (x 4) + cho (x 4) (x 5) (x 6) + k + w + bs0 (x 0) + maj (x 0) (x 1) (x 2)) % 4294967296
  omega
theorem rnd_e (x : Nat → Int) (k w : Int) : (x 3 + (x 7 + bits BinOp.xor IntKind.u32 (bits BinOp.xor IntKind.u32 (rotr (x 4) 6) (rotr (x 4) 11)) (rotr (x 4) 25) +
    bits BinOp.xor IntKind.u32 (bits BinOp.and IntKind.u32 (x 4) (x 5)) (bits BinOp.and IntKind.u32 (bits BinOp.xor IntKind.u32 (if IntKind.u32.signed = true then -1 else IntKind.u32.max) (x 4)) (x 6)) + k + w) % 4294967296) % 4294967296 = rnd x k w 4 := by
  rw [not_form]
  show (x 3 + (x 7 + bs1 (x 4) + cho (x 4) (x 5) (x 6) + k + w) % 4294967296) % 4294967296 = (x 3 + x 7 + bs1 (x 4) + cho (x 4) (x 5) (x 6) + k + w) % 4294967296
  omega
/-- the last loop: k sums are made -/
structure SumMem (w : World) (g : Nat) (st x : Nat → Int) (k : Nat) (wr : World) : Prop where
  below : Below w.heap.size w wr
  own : Words wr w.heap.size 8 294 st
  res : Words wr (w.heap.size + 1) 8 294 (fun _ => 0)
  sum : ∃ f, Words wr g 8 294 f ∧ (∀ j, j < k → f j = (x j + st j) % 4294967296) ∧ ∀ j, k ≤ j → f j = x j
theorem SumMem.drew {w : World} {g : Nat} {st x : Nat → Int} {k : Nat} {wr : World} (h : SumMem w g st x k wr) : SumMem w g st x k wr.drew := ⟨h.below.drew, h.own, h.res, h.sum⟩
theorem SumMem.drewN {w : World} {g : Nat} {st x : Nat → Int} {k : Nat} {wr : World} (h : SumMem w g st x k wr) (n : Nat) : SumMem w g st x k (wr.drewN n) := ⟨below_drewN h.below n, h.own, h.res, h.sum⟩
theorem SumMem.step {w : World} {g : Nat} {st x : Nat → Int} {k : Nat} {wr : World} (h : SumMem w g st x k wr) (hg : w.heap.size + 2 ≤ g) : SumMem w g st x (k + 1) (wr.setCell ⟨g, k, none⟩ (.int .u32 ((x k + st k) % 4294967296))) := by
  obtain ⟨f, hf, h1, h2⟩ := h.sum
  refine ⟨h.below.setCell (by simp; omega) _, h.own.other _ _ (by simp; omega), h.res.other _ _ (by simp; omega), upd f k ((x k + st k) % 4294967296), hf.put k _, fun j hj => ?_, fun j hj => ?_⟩
  · unfold upd
    by_cases e : j = k
    · rw [if_pos e, e]
    · rw [if_neg e]; exact h1 j (by omega)
  · unfold upd
    rw [if_neg (by omega)]; exact h2 j (by omega)
/-- what vaultref.pressed has in memory at the head of a round -/
structure PMem (w : World) (g gx : Nat) (st x W : Nat → Int) (wr : World) : Prop where
  own : Words wr w.heap.size 8 294 st
  res : Words wr (w.heap.size + 1) 8 294 (fun _ => 0)
  wrd : Words wr g 64 372 W
  cur : Words wr gx 8 294 x
  below : Below w.heap.size w wr
theorem PMem.drewN {w : World} {g gx : Nat} {st x W : Nat → Int} {wr : World} (h : PMem w g gx st x W wr) (n : Nat) : PMem w g gx st x W (wr.drewN n) := ⟨h.own, h.res, h.wrd, h.cur, below_drewN h.below n⟩
theorem PMem.setRow {w : World} {g gx : Nat} {st x W : Nat → Int} {wr : World} (h : PMem w g gx st x W wr) (hg : w.heap.size + 2 ≤ g) (hgx : g < gx) (y : Nat → Int) : PMem w g gx st y W (wr.setRow gx (row 8 y)) :=
  ⟨h.own.setRow_other _ _ (by omega), h.res.setRow_other _ _ (by omega), h.wrd.setRow_other _ _ (by omega), words_setRow y h.cur, below_setRow h.below _ (by omega) _⟩
/-- the last loop of vaultref.pressed: k sums are made, in the state's own place -/
structure SumR (w : World) (g : Nat) (st x : Nat → Int) (k : Nat) (wr : World) : Prop where
  below : Below w.heap.size w wr
  cur : Words wr g 8 294 x
  res : Words wr (w.heap.size + 1) 8 294 (fun _ => 0)
  sum : ∃ f, Words wr w.heap.size 8 294 f ∧ (∀ j, j < k → f j = (x j + st j) % 4294967296) ∧ ∀ j, k ≤ j → f j = st j
theorem SumR.drew {w : World} {g : Nat} {st x : Nat → Int} {k : Nat} {wr : World} (h : SumR w g st x k wr) : SumR w g st x k wr.drew := ⟨h.below.drew, h.cur, h.res, h.sum⟩
theorem SumR.step {w : World} {g : Nat} {st x : Nat → Int} {k : Nat} {wr : World} (h : SumR w g st x k wr) (hg : w.heap.size + 2 ≤ g) : SumR w g st x (k + 1) (wr.setCell ⟨w.heap.size, k, none⟩ (.int .u32 ((st k + x k) % 4294967296))) := by
  obtain ⟨f, hf, h1, h2⟩ := h.sum
  refine ⟨h.below.setCell (by simp) _, h.cur.other _ _ (by simp; omega), h.res.other _ _ (by simp), upd f k ((st k + x k) % 4294967296), hf.put k _, fun j hj => ?_, fun j hj => ?_⟩
  · unfold upd
    by_cases e : j = k
    · rw [if_pos e, e, Int.add_comm]
    · rw [if_neg e]; exact h1 j (by omega)
  · unfold upd
    rw [if_neg (by omega)]; exact h2 j (by omega)
end Go.Proofs.YtadinjaocnlglaaGreatDoor
namespace Go.Proofs.YtadinjaocnlglaaGreatDoor
open Go.RowKit
end Go.Proofs.YtadinjaocnlglaaGreatDoor
namespace Go.Proofs.YtadinjaocnlglaaGreatDoor
open Go.RowKit
/-- the j-th piece of a text -/
def piece (s : ByteArray) (j : Nat) : ByteArray := s.extract (64 * j) (64 * j + 64)
/-- the state behind j pieces -/
def pcs (kt : Nat → Int) (s : ByteArray) (st : Nat → Int) : Nat → Nat → Int
  | 0 => st
  | j + 1 => press kt (wrd (iniR (piece s j))) (pcs kt s st j)
theorem byt_lo (s : ByteArray) (i : Nat) : 0 ≤ byt s i := by unfold byt; omega
theorem byt_hi (s : ByteArray) (i : Nat) : byt s i ≤ 255 := by
  unfold byt
  have := (s.data.toList.getD i 0).toNat_lt
  omega
theorem or_pieces (a b c d : Nat) (hb : b < 256) (hc : c < 256) (hd : d < 256) : ((a * 16777216 ||| b * 65536) ||| c * 256) ||| d = a * 16777216 + b * 65536 + c * 256 + d := by
  have e1 : a * 16777216 ||| b * 65536 = a * 16777216 + b * 65536 := by
    have := Nat.two_pow_add_eq_or_of_lt (i := 24) (b := b * 65536) (by omega) a
    rw [show a * 16777216 = 2 ^ 24 * a by omega]; exact this.symm
  have e2 : (a * 16777216 + b * 65536) ||| c * 256 = a * 16777216 + b * 65536 + c * 256 := by
    have := Nat.two_pow_add_eq_or_of_lt (i := 16) (b := c * 256) (by omega) (a * 256 + b)
    rw [show a * 16777216 + b * 65536 = 2 ^ 16 * (a * 256 + b) by omega]; exact this.symm
  have e3 : (a * 16777216 + b * 65536 + c * 256) ||| d = a * 16777216 + b * 65536 + c * 256 + d := by
    have := Nat.two_pow_add_eq_or_of_lt (i := 8) (b := d) (by omega) (a * 65536 + b * 256 + c)
    rw [show a * 16777216 + b * 65536 + c * 256 = 2 ^ 8 * (a * 65536 + b * 256 + c) by omega]; exact this.symm
  rw [e1, e2, e3]
theorem ini_eq (s : ByteArray) (k : Nat) : iniP s k = iniR s k := by
  obtain ⟨a, ha⟩ := Int.eq_ofNat_of_zero_le (byt_lo s (4 * k))
  obtain ⟨b, hb⟩ := Int.eq_ofNat_of_zero_le (byt_lo s (4 * k + 1))
  obtain ⟨c, hc⟩ := Int.eq_ofNat_of_zero_le (byt_lo s (4 * k + 2))
  obtain ⟨d, hd⟩ := Int.eq_ofNat_of_zero_le (byt_lo s (4 * k + 3))
  have h1 := byt_hi s (4 * k)
  have h2 := byt_hi s (4 * k + 1)
  have h3 := byt_hi s (4 * k + 2)
  have h4 := byt_hi s (4 * k + 3)
  rw [ha] at h1; rw [hb] at h2; rw [hc] at h3; rw [hd] at h4
  unfold iniP iniR
  rw [ha, hb, hc, hd]
  rw [show (a : Int) % 4294967296 * 16777216 % 4294967296 = ((a * 16777216 : Nat) : Int) by omega, show (b : Int) % 4294967296 * 65536 % 4294967296 = ((b * 65536 : Nat) : Int) by omega, show (c : Int) % 4294967296 * 256 % 4294967296 = ((c * 256 : Nat) : Int) by omega, show (d : Int) % 4294967296 = ((d : Nat) : Int) by omega]
  have o := or_pieces a b c d (by omega) (by omega) (by omega)
  rw [u32_or_nat _ _ (by omega) (by omega), u32_or_nat _ _ ?_ (by omega), u32_or_nat _ _ ?_ (by omega), o]
  · omega
  · have := Nat.le_trans (Nat.left_le_or (n := (a * 16777216 ||| b * 65536) ||| c * 256) (m := d)) (Nat.le_of_eq o)
    omega
  · have l1 := Nat.left_le_or (n := a * 16777216 ||| b * 65536) (m := c * 256)
    have l2 := Nat.le_trans (Nat.left_le_or (n := (a * 16777216 ||| b * 65536) ||| c * 256) (m := d)) (Nat.le_of_eq o)
    omega
theorem wrd_eq (s : ByteArray) : wrd (iniP s) = wrd (iniR s) := funext fun i => wrd_congr _ _ (fun j _ => ini_eq s j) i
theorem piece_size (s : ByteArray) (j : Nat) (h : 64 * j + 64 ≤ s.size) : (piece s j).size = 64 := by
  unfold piece; rw [ByteArray.size_extract]; omega
/-- eight cells, each readable and free -/
structure Cells8 (w : World) (g : Nat) (y : Nat → Int) : Prop where
  c0 : w.cell? ⟨g, 0, none⟩ = some (.int .u32 (y 0))
  c1 : w.cell? ⟨g, 1, none⟩ = some (.int .u32 (y 1))
  c2 : w.cell? ⟨g, 2, none⟩ = some (.int .u32 (y 2))
  c3 : w.cell? ⟨g, 3, none⟩ = some (.int .u32 (y 3))
  c4 : w.cell? ⟨g, 4, none⟩ = some (.int .u32 (y 4))
  c5 : w.cell? ⟨g, 5, none⟩ = some (.int .u32 (y 5))
  c6 : w.cell? ⟨g, 6, none⟩ = some (.int .u32 (y 6))
  c7 : w.cell? ⟨g, 7, none⟩ = some (.int .u32 (y 7))
  free : ∀ j, w.frozen? ⟨g, j, none⟩ = false
theorem Words.cells8 {w : World} {g : Nat} {y : Nat → Int} (h : Words w g 8 294 y) : Cells8 w g y := ⟨h.cell 0 (by omega), h.cell 1 (by omega), h.cell 2 (by omega), h.cell 3 (by omega), h.cell 4 (by omega), h.cell 5 (by omega), h.cell 6 (by omega), h.cell 7 (by omega), h.free⟩
theorem put8 {w : World} {g : Nat} {x y : Nat → Int} (h : Words w g 8 294 x) : Words ((((((((w.setCell ⟨g, 0, none⟩ (.int .u32 (y 0))).setCell ⟨g, 1, none⟩ (.int .u32 (y 1))).setCell ⟨g, 2, none⟩ (.int .u32 (y 2))).setCell ⟨g, 3, none⟩ (.int .u32 (y 3))).setCell ⟨g, 4, none⟩ (.int .u32 (y 4))).setCell ⟨g, 5, none⟩ (.int .u32 (y 5))).setCell ⟨g, 6, none⟩ (.int .u32 (y 6))).setCell ⟨g, 7, none⟩ (.int .u32 (y 7))) g 8 294 y := by
  have h8 := (((((((h.put 0 (y 0)).put 1 (y 1)).put 2 (y 2)).put 3 (y 3)).put 4 (y 4)).put 5 (y 5)).put 6 (y 6)).put 7 (y 7)
  unfold Words at h8 ⊢
  rw [h8]
  congr 2
theorem put8_other {w : World} {g k n : Nat} {t : TypeId} {f y : Nat → Int} (h : Words w k n t f) (hk : k ≠ g) : Words ((((((((w.setCell ⟨g, 0, none⟩ (.int .u32 (y 0))).setCell ⟨g, 1, none⟩ (.int .u32 (y 1))).setCell ⟨g, 2, none⟩ (.int .u32 (y 2))).setCell ⟨g, 3, none⟩ (.int .u32 (y 3))).setCell ⟨g, 4, none⟩ (.int .u32 (y 4))).setCell ⟨g, 5, none⟩ (.int .u32 (y 5))).setCell ⟨g, 6, none⟩ (.int .u32 (y 6))).setCell ⟨g, 7, none⟩ (.int .u32 (y 7))) k n t f :=
  (((((((h.other _ _ hk).other _ _ hk).other _ _ hk).other _ _ hk).other _ _ hk).other _ _ hk).other _ _ hk).other _ _ hk
theorem put8_below {W w : World} {g : Nat} {y : Nat → Int} (h : Below g W w) : Below g W ((((((((w.setCell ⟨g, 0, none⟩ (.int .u32 (y 0))).setCell ⟨g, 1, none⟩ (.int .u32 (y 1))).setCell ⟨g, 2, none⟩ (.int .u32 (y 2))).setCell ⟨g, 3, none⟩ (.int .u32 (y 3))).setCell ⟨g, 4, none⟩ (.int .u32 (y 4))).setCell ⟨g, 5, none⟩ (.int .u32 (y 5))).setCell ⟨g, 6, none⟩ (.int .u32 (y 6))).setCell ⟨g, 7, none⟩ (.int .u32 (y 7))) :=
  (((((((h.setCell (Nat.le_refl _) _).setCell (Nat.le_refl _) _).setCell (Nat.le_refl _) _).setCell (Nat.le_refl _) _).setCell (Nat.le_refl _) _).setCell (Nat.le_refl _) _).setCell (Nat.le_refl _) _).setCell (Nat.le_refl _) _
end Go.Proofs.YtadinjaocnlglaaGreatDoor
