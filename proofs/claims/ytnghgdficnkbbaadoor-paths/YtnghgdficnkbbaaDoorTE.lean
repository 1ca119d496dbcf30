/-
  What the two compressions share.
-/
import Derived.Test.YtnghgdficnkbbaaDoorTB
namespace Go.Proofs.YtnghgdficnkbbaaDoor
open Go.RowKit
theorem info25 : (Tryd.prog.info? 37).map (·.size) = some 1 := by kernel_rfl
theorem index_row (n t : Nat) (f : Nat → Int) (i : Nat) (h : i < n) (W : World) (hu : Tryd.prog.underlying t = some (.array n 37)) : (Instr.index t (.agg (row n f)) (.int .i64 i)).run Tryd.prog W = .ok (.int .u32 (f i)) W := by
  have hi := info25
  have hg := row_get n f i h
  cases hq : Tryd.prog.info? 37 with
  | none => simp [hq] at hi
  | some d =>
    have hs : d.size = 1 := by simpa [hq] using hi
    simp [Instr.index, asIntOf, run_underlying hu, sizeOf, typeInfo, hq, hs, part, hg]
    intro; omega
/-- what a compression has in memory: the state it was given, its result's place, the words -/
structure Mem (w : World) (g : Nat) (st x W : Nat → Int) (w2 : World) : Prop where
  own : Words w2 w.heap.size 8 38 st
  res : Words w2 (w.heap.size + 1) 8 38 x
  wrd : Words w2 g 64 69 W
  below : Below w.heap.size w w2
  lo : w.heap.size + 2 ≤ g
  size : w2.heap.size = g + 1
theorem Mem.drewN {w : World} {g : Nat} {st x W : Nat → Int} {w2 : World} (h : Mem w g st x W w2) (n : Nat) : Mem w g st x W (w2.drewN n) := ⟨h.own, h.res, h.wrd, below_drewN h.below n, h.lo, h.size⟩

def bs1 (x : Int) : Int := bits .xor .u32 (bits .xor .u32 (rotr x 6) (rotr x 11)) (rotr x 25)
def bs0 (x : Int) : Int := bits .xor .u32 (bits .xor .u32 (rotr x 2) (rotr x 13)) (rotr x 22)
def cho (e f g : Int) : Int := bits .xor .u32 (bits .and .u32 e f) (bits .and .u32 (bits .xor .u32 e 4294967295) g)
def maj (a b c : Int) : Int := bits .xor .u32 (bits .xor .u32 (bits .and .u32 a b) (bits .and .u32 a c)) (bits .and .u32 b c)
/-- one round -/
def rnd (x : Nat → Int) (k w : Int) : Nat → Int
  | 0 => (x 7 + bs1 (x 4) + cho (x 4) (x 5) (x 6) + k + w + bs0 (x 0) + maj (x 0) (x 1) (x 2)) % 4294967296
  | 1 => x 0
  | 2 => x 1
  | 3 => x 2
  | 4 => (x 3 + x 7 + bs1 (x 4) + cho (x 4) (x 5) (x 6) + k + w) % 4294967296
  | 5 => x 4
  | 6 => x 5
  | _ => x 6
/-- so many rounds -/
def rounds (kt W st : Nat → Int) : Nat → Nat → Int
  | 0 => st
  | k + 1 => rnd (rounds kt W st k) (kt k) (W k)
/-- a state behind a piece -/
def press (kt W st : Nat → Int) (j : Nat) : Int := (rounds kt W st 64 j + st j) % 4294967296
theorem xor_comm32 (a b : Int) : bits .xor .u32 a b = bits .xor .u32 b a := by
  unfold bits
  simp only [BitVec.xor_comm]
theorem not_form (e : Int) : bits .xor .u32 (if IntKind.u32.signed = true then -1 else IntKind.u32.max) e = bits .xor .u32 e 4294967295 := by
  rw [xor_comm32]; rfl
theorem rnd_a (x : Nat → Int) (k w : Int) : ((x 7 + bits BinOp.xor IntKind.u32 (bits BinOp.xor IntKind.u32 (rotr (x 4) 6) (rotr (x 4) 11)) (rotr (x 4) 25) +
    bits BinOp.xor IntKind.u32 (bits BinOp.and IntKind.u32 (x 4) (x 5)) (bits BinOp.and IntKind.u32 (bits BinOp.xor IntKind.u32 (if IntKind.u32.signed = true then -1 else IntKind.u32.max) (x 4)) (x 6)) + k + w +
    bits BinOp.xor IntKind.u32 (bits BinOp.xor IntKind.u32 (rotr (x 0) 2) (rotr (x 0) 13)) (rotr (x 0) 22)) % 4294967296 +
    bits BinOp.xor IntKind.u32 (bits BinOp.xor IntKind.u32 (bits BinOp.and IntKind.u32 (x 0) (x 1)) (bits BinOp.and IntKind.u32 (x 0) (x 2))) (bits BinOp.and IntKind.u32 (x 1) (x 2))) % 4294967296 = rnd x k w 0 := by
  rw [not_form]
  show ((x 7 + bs1 (x 4) + cho (x 4) (x 5) (x 6) + k + w + bs0 (x 0)) % 4294967296 + maj (x 0) (x 1) (x 2)) % 4294967296 = (x 7 + bs1 (x 4) + cho (x 4) (x 5) (x 6) + k + w + bs0 (x 0) + maj (x 0) (x 1) (x 2)) % 4294967296
  omega
theorem rnd_e (x : Nat → Int) (k w : Int) : (x 3 + (x 7 + bits BinOp.xor IntKind.u32 (bits BinOp.xor IntKind.u32 (rotr (x 4) 6) (rotr (x 4) 11)) (rotr (x 4) 25) +
    bits BinOp.xor IntKind.u32 (bits BinOp.and IntKind.u32 (x 4) (x 5)) (bits BinOp.and IntKind.u32 (bits BinOp.xor IntKind.u32 (if IntKind.u32.signed = true then -1 else IntKind.u32.max) (x 4)) (x 6)) + k + w) % 4294967296) % 4294967296 = rnd x k w 4 := by
  rw [not_form]
  show (x 3 + (x 7 + bs1 (x 4) + cho (x 4) (x 5) (x 6) + k + w) % 4294967296) % 4294967296 = (x 3 + x 7 + bs1 (x 4) + cho (x 4) (x 5) (x 6) + k + w) % 4294967296
  omega
/-- the last loop: k sums are made -/
structure SumMem (w : World) (g : Nat) (st x : Nat → Int) (k : Nat) (wr : World) : Prop where
  below : Below w.heap.size w wr
  own : Words wr w.heap.size 8 38 st
  res : Words wr (w.heap.size + 1) 8 38 (fun _ => 0)
  sum : ∃ f, Words wr g 8 38 f ∧ (∀ j, j < k → f j = (x j + st j) % 4294967296) ∧ ∀ j, k ≤ j → f j = x j
theorem SumMem.drew {w : World} {g : Nat} {st x : Nat → Int} {k : Nat} {wr : World} (h : SumMem w g st x k wr) : SumMem w g st x k wr.drew := ⟨h.below.drew, h.own, h.res, h.sum⟩
theorem SumMem.drewN {w : World} {g : Nat} {st x : Nat → Int} {k : Nat} {wr : World} (h : SumMem w g st x k wr) (n : Nat) : SumMem w g st x k (wr.drewN n) := ⟨below_drewN h.below n, h.own, h.res, h.sum⟩
theorem SumMem.step {w : World} {g : Nat} {st x : Nat → Int} {k : Nat} {wr : World} (h : SumMem w g st x k wr) (hg : w.heap.size + 2 ≤ g) : SumMem w g st x (k + 1) (wr.setCell ⟨g, k, none⟩ (.int .u32 ((x k + st k) % 4294967296))) := by
  obtain ⟨f, hf, h1, h2⟩ := h.sum
  refine ⟨h.below.setCell (by simp; omega) _, h.own.other _ _ (by simp; omega), h.res.other _ _ (by simp; omega), upd f k ((x k + st k) % 4294967296), hf.put k _, fun j hj => ?_, fun j hj => ?_⟩
  · unfold upd
    by_cases e : j = k
    · rw [if_pos e, e]
    · rw [if_neg e]; exact h1 j (by omega)
  · unfold upd
    rw [if_neg (by omega)]; exact h2 j (by omega)
/-- what vaultref.pressed has in memory at the head of a round -/
structure PMem (w : World) (g gx : Nat) (st x W : Nat → Int) (wr : World) : Prop where
  own : Words wr w.heap.size 8 38 st
  res : Words wr (w.heap.size + 1) 8 38 (fun _ => 0)
  wrd : Words wr g 64 69 W
  cur : Words wr gx 8 38 x
  below : Below w.heap.size w wr
theorem PMem.drewN {w : World} {g gx : Nat} {st x W : Nat → Int} {wr : World} (h : PMem w g gx st x W wr) (n : Nat) : PMem w g gx st x W (wr.drewN n) := ⟨h.own, h.res, h.wrd, h.cur, below_drewN h.below n⟩
theorem PMem.setRow {w : World} {g gx : Nat} {st x W : Nat → Int} {wr : World} (h : PMem w g gx st x W wr) (hg : w.heap.size + 2 ≤ g) (hgx : g < gx) (y : Nat → Int) : PMem w g gx st y W (wr.setRow gx (row 8 y)) :=
  ⟨h.own.setRow_other _ _ (by omega), h.res.setRow_other _ _ (by omega), h.wrd.setRow_other _ _ (by omega), words_setRow y h.cur, below_setRow h.below _ (by omega) _⟩
theorem lit8 (f : Nat → Int) : #[Value.int .u32 (f 0), .int .u32 (f 1), .int .u32 (f 2), .int .u32 (f 3), .int .u32 (f 4), .int .u32 (f 5), .int .u32 (f 6), .int .u32 (f 7)] = row 8 f := rfl
theorem ones8 (a b c d e f g h : Int) : #[Value.int .u32 a, .int .u32 b, .int .u32 c, .int .u32 d, .int .u32 e, .int .u32 f, .int .u32 g, .int .u32 h].all (·.oneCell') = true := by simp [Value.oneCell']
theorem rowR (x : Nat → Int) (k w : Int) : #[Value.int .u32 ((x 7 + bits BinOp.xor IntKind.u32 (bits BinOp.xor IntKind.u32 (rotr (x 4) 6) (rotr (x 4) 11)) (rotr (x 4) 25) +
      bits BinOp.xor IntKind.u32 (bits BinOp.and IntKind.u32 (x 4) (x 5)) (bits BinOp.and IntKind.u32 (bits BinOp.xor IntKind.u32 (x 4) 4294967295) (x 6)) + k + w +
      (bits BinOp.xor IntKind.u32 (bits BinOp.xor IntKind.u32 (rotr (x 0) 2) (rotr (x 0) 13)) (rotr (x 0) 22) +
      bits BinOp.xor IntKind.u32 (bits BinOp.xor IntKind.u32 (bits BinOp.and IntKind.u32 (x 0) (x 1)) (bits BinOp.and IntKind.u32 (x 0) (x 2))) (bits BinOp.and IntKind.u32 (x 1) (x 2)))) % 4294967296),
    Value.int .u32 (x 0), Value.int .u32 (x 1), Value.int .u32 (x 2),
    Value.int .u32 ((x 3 + (x 7 + bits BinOp.xor IntKind.u32 (bits BinOp.xor IntKind.u32 (rotr (x 4) 6) (rotr (x 4) 11)) (rotr (x 4) 25) +
      bits BinOp.xor IntKind.u32 (bits BinOp.and IntKind.u32 (x 4) (x 5)) (bits BinOp.and IntKind.u32 (bits BinOp.xor IntKind.u32 (x 4) 4294967295) (x 6)) + k + w)) % 4294967296),
    Value.int .u32 (x 4), Value.int .u32 (x 5), Value.int .u32 (x 6)] = row 8 (rnd x k w) := by
  have ea : (x 7 + bs1 (x 4) + cho (x 4) (x 5) (x 6) + k + w + (bs0 (x 0) + maj (x 0) (x 1) (x 2))) % 4294967296 = rnd x k w 0 := by
    show _ = (x 7 + bs1 (x 4) + cho (x 4) (x 5) (x 6) + k + w + bs0 (x 0) + maj (x 0) (x 1) (x 2)) % 4294967296
    omega
  have ee : (x 3 + (x 7 + bs1 (x 4) + cho (x 4) (x 5) (x 6) + k + w)) % 4294967296 = rnd x k w 4 := by
    show _ = (x 3 + x 7 + bs1 (x 4) + cho (x 4) (x 5) (x 6) + k + w) % 4294967296
    omega
  rw [← lit8 (rnd x k w), ← ea, ← ee]
  rfl
/-- the last loop of vaultref.pressed: k sums are made, in the state's own place -/
structure SumR (w : World) (g : Nat) (st x : Nat → Int) (k : Nat) (wr : World) : Prop where
  below : Below w.heap.size w wr
  cur : Words wr g 8 38 x
  res : Words wr (w.heap.size + 1) 8 38 (fun _ => 0)
  sum : ∃ f, Words wr w.heap.size 8 38 f ∧ (∀ j, j < k → f j = (x j + st j) % 4294967296) ∧ ∀ j, k ≤ j → f j = st j
theorem SumR.drew {w : World} {g : Nat} {st x : Nat → Int} {k : Nat} {wr : World} (h : SumR w g st x k wr) : SumR w g st x k wr.drew := ⟨h.below.drew, h.cur, h.res, h.sum⟩
theorem SumR.step {w : World} {g : Nat} {st x : Nat → Int} {k : Nat} {wr : World} (h : SumR w g st x k wr) (hg : w.heap.size + 2 ≤ g) : SumR w g st x (k + 1) (wr.setCell ⟨w.heap.size, k, none⟩ (.int .u32 ((st k + x k) % 4294967296))) := by
  obtain ⟨f, hf, h1, h2⟩ := h.sum
  refine ⟨h.below.setCell (by simp) _, h.cur.other _ _ (by simp; omega), h.res.other _ _ (by simp), upd f k ((st k + x k) % 4294967296), hf.put k _, fun j hj => ?_, fun j hj => ?_⟩
  · unfold upd
    by_cases e : j = k
    · rw [if_pos e, e, Int.add_comm]
    · rw [if_neg e]; exact h1 j (by omega)
  · unfold upd
    rw [if_neg (by omega)]; exact h2 j (by omega)
end Go.Proofs.YtnghgdficnkbbaaDoor
