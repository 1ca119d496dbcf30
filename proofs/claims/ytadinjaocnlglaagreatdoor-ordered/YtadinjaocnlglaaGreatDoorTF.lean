/-
  What the two compressions share.
  The walk of digest.mix.
-/
import Derived.Test.YtadinjaocnlglaaGreatDoorTB
import Derived.Test.YtadinjaocnlglaaGreatDoorTC
import Derived.WalkKit
import Derived.WalkSpells
import Derived.WalkLawsBesides
import Derived.BigRegion
import Derived.BigQuiet
import Derived.Deep.QuietTactic
namespace Go.Proofs.YtadinjaocnlglaaGreatDoor
open Go.RowKit
theorem info25 : (Tryz.prog.info? 152).map (·.size) = some 1 := by kernel_rfl
theorem index_row (n t : Nat) (f : Nat → Int) (i : Nat) (h : i < n) (W : World) (hu : Tryz.prog.underlying t = some (.array n 152)) : (Instr.index t (.agg (row n f)) (.int .i64 i)).run Tryz.prog W = .ok (.int .u32 (f i)) W := by
  have hi := info25
  have hg := row_get n f i h
  cases hq : Tryz.prog.info? 152 with
  | none => simp [hq] at hi
  | some d =>
    have hs : d.size = 1 := by simpa [hq] using hi
    simp [Instr.index, asIntOf, run_underlying hu, sizeOf, typeInfo, hq, hs, part, hg]
    intro; omega
/-- what a compression has in memory: the state it was given, its result's place, the words -/
structure Mem (w : World) (g : Nat) (st x W : Nat → Int) (w2 : World) : Prop where
  own : Words w2 w.heap.size 8 294 st
  res : Words w2 (w.heap.size + 1) 8 294 x
  wrd : Words w2 g 64 372 W
  below : Below w.heap.size w w2
  lo : w.heap.size + 2 ≤ g
  size : w2.heap.size = g + 1
theorem Mem.drewN {w : World} {g : Nat} {st x W : Nat → Int} {w2 : World} (h : Mem w g st x W w2) (n : Nat) : Mem w g st x W (w2.drewN n) := ⟨h.own, h.res, h.wrd, below_drewN h.below n, h.lo, h.size⟩

def bs1 (x : Int) : Int := bits .xor .u32 (bits .xor .u32 (rotr x 6) (rotr x 11)) (rotr x 25)
def bs0 (x : Int) : Int := bits .xor .u32 (bits .xor .u32 (rotr x 2) (rotr x 13)) (rotr x 22)
def cho (e f g : Int) : Int := bits .xor .u32 (bits .and .u32 e f) (bits .and .u32 (bits .xor .u32 e 4294967295) g)
def maj (a b c : Int) : Int := bits .xor .u32 (bits .xor .u32 (bits .and .u32 a b) (bits .and .u32 a c)) (bits .and .u32 b c)
/-- one round -/
def rnd (x : Nat → Int) (k w : Int) : Nat → Int
  | 0 => (x 7 + bs1 (x 4) + cho (x 4) (x 5) (x 6) + k + w + bs0 (x 0) + maj (x 0) (x 1) (x 2)) % 4294967296
  | 1 => x 0
  | 2 => x 1
  | 3 => x 2
  | 4 => (x 3 + x 7 + bs1 (x 4) + cho (x 4) (x 5) (x 6) + k + w) % 4294967296
  | 5 => x 4
  | 6 => x 5
  | _ => x 6
/-- so many rounds -/
def rounds (kt W st : Nat → Int) : Nat → Nat → Int
  | 0 => st
  | k + 1 => rnd (rounds kt W st k) (kt k) (W k)
/-- a state behind a piece -/
def press (kt W st : Nat → Int) (j : Nat) : Int := (rounds kt W st 64 j + st j) % 4294967296
theorem xor_comm32 (a b : Int) : bits .xor .u32 a b = bits .xor .u32 b a := by
  unfold bits
  simp only [BitVec.xor_comm]
theorem not_form (e : Int) : bits .xor .u32 (if IntKind.u32.signed = true then -1 else IntKind.u32.max) e = bits .xor .u32 e 4294967295 := by
  rw [xor_comm32]; rfl
theorem rnd_a (x : Nat → Int) (k w : Int) : ((x 7 + bits BinOp.xor IntKind.u32 (bits BinOp.xor IntKind.u32 (rotr (x 4) 6) (rotr (x 4) 11)) (rotr (x 4) 25) +
    bits BinOp.xor IntKind.u32 (bits BinOp.and IntKind.u32 (x 4) (x 5)) (bits BinOp.and IntKind.u32 (bits BinOp.xor IntKind.u32 (if IntKind.u32.signed = true then -1 else IntKind.u32.max) (x 4)) (x 6)) + k + w +
    bits BinOp.xor IntKind.u32 (bits BinOp.xor IntKind.u32 (rotr (x 0) 2) (rotr (x 0) 13)) (rotr (x 0) 22)) % 4294967296 +
    bits BinOp.xor IntKind.u32 (bits BinOp.xor IntKind.u32 (bits BinOp.and IntKind.u32 (x 0) (x 1)) (bits BinOp.and IntKind.u32 (x 0) (x 2))) (bits BinOp.and IntKind.u32 (x 1) (x 2))) % 4294967296 = rnd x k w 0 := by
  rw [not_form]
  show ((x 7 + bs1 (x 4) + cho (x 4) (x 5) (x 6) + k + w + bs0 (x 0)) % 4294967296 + maj (x 0) (x 1) (x 2)) % 4294967296 = (x 7 + bs1 (x 4) + cho (x 4) (x 5) (x 6) + k + w + bs0 (x 0) + maj (x 0) (x 1) (x 2)) % 4294967296
  omega
theorem rnd_e (x : Nat → Int) (k w : Int) : (x 3 + (x 7 + bits BinOp.xor IntKind.u32 (bits BinOp.xor IntKind.u32 (rotr (x 4) 6) (rotr (x 4) 11)) (rotr (x 4) 25) +
    bits BinOp.xor IntKind.u32 (bits BinOp.and IntKind.u32 (x 4) (x 5)) (bits BinOp.and IntKind.u32 (bits BinOp.xor IntKind.u32 (if IntKind.u32.signed = true then -1 else IntKind.u32.max) (x 4)) (x 6)) + k + w) % 4294967296) % 4294967296 = rnd x k w 4 := by
  rw [not_form]
  show (x 3 + (x 7 + bs1 (x 4) + cho (x 4) (x 5) (x 6) + k + w) % 4294967296) % 4294967296 = (x 3 + x 7 + bs1 (x 4) + cho (x 4) (x 5) (x 6) + k + w) % 4294967296
  omega
/-- the last loop: k sums are made -/
structure SumMem (w : World) (g : Nat) (st x : Nat → Int) (k : Nat) (wr : World) : Prop where
  below : Below w.heap.size w wr
  own : Words wr w.heap.size 8 294 st
  res : Words wr (w.heap.size + 1) 8 294 (fun _ => 0)
  sum : ∃ f, Words wr g 8 294 f ∧ (∀ j, j < k → f j = (x j + st j) % 4294967296) ∧ ∀ j, k ≤ j → f j = x j
theorem SumMem.drew {w : World} {g : Nat} {st x : Nat → Int} {k : Nat} {wr : World} (h : SumMem w g st x k wr) : SumMem w g st x k wr.drew := ⟨h.below.drew, h.own, h.res, h.sum⟩
theorem SumMem.drewN {w : World} {g : Nat} {st x : Nat → Int} {k : Nat} {wr : World} (h : SumMem w g st x k wr) (n : Nat) : SumMem w g st x k (wr.drewN n) := ⟨below_drewN h.below n, h.own, h.res, h.sum⟩
theorem SumMem.step {w : World} {g : Nat} {st x : Nat → Int} {k : Nat} {wr : World} (h : SumMem w g st x k wr) (hg : w.heap.size + 2 ≤ g) : SumMem w g st x (k + 1) (wr.setCell ⟨g, k, none⟩ (.int .u32 ((x k + st k) % 4294967296))) := by
  obtain ⟨f, hf, h1, h2⟩ := h.sum
  refine ⟨h.below.setCell (by simp; omega) _, h.own.other _ _ (by simp; omega), h.res.other _ _ (by simp; omega), upd f k ((x k + st k) % 4294967296), hf.put k _, fun j hj => ?_, fun j hj => ?_⟩
  · unfold upd
    by_cases e : j = k
    · rw [if_pos e, e]
    · rw [if_neg e]; exact h1 j (by omega)
  · unfold upd
    rw [if_neg (by omega)]; exact h2 j (by omega)
/-- what vaultref.pressed has in memory at the head of a round -/
structure PMem (w : World) (g gx : Nat) (st x W : Nat → Int) (wr : World) : Prop where
  own : Words wr w.heap.size 8 294 st
  res : Words wr (w.heap.size + 1) 8 294 (fun _ => 0)
  wrd : Words wr g 64 372 W
  cur : Words wr gx 8 294 x
  below : Below w.heap.size w wr
theorem PMem.drewN {w : World} {g gx : Nat} {st x W : Nat → Int} {wr : World} (h : PMem w g gx st x W wr) (n : Nat) : PMem w g gx st x W (wr.drewN n) := ⟨h.own, h.res, h.wrd, h.cur, below_drewN h.below n⟩
theorem PMem.setRow {w : World} {g gx : Nat} {st x W : Nat → Int} {wr : World} (h : PMem w g gx st x W wr) (hg : w.heap.size + 2 ≤ g) (hgx : g < gx) (y : Nat → Int) : PMem w g gx st y W (wr.setRow gx (row 8 y)) :=
  ⟨h.own.setRow_other _ _ (by omega), h.res.setRow_other _ _ (by omega), h.wrd.setRow_other _ _ (by omega), words_setRow y h.cur, below_setRow h.below _ (by omega) _⟩
theorem lit8 (f : Nat → Int) : #[Value.int .u32 (f 0), .int .u32 (f 1), .int .u32 (f 2), .int .u32 (f 3), .int .u32 (f 4), .int .u32 (f 5), .int .u32 (f 6), .int .u32 (f 7)] = row 8 f := rfl
theorem ones8 (a b c d e f g h : Int) : #[Value.int .u32 a, .int .u32 b, .int .u32 c, .int .u32 d, .int .u32 e, .int .u32 f, .int .u32 g, .int .u32 h].all (·.oneCell') = true := by simp [Value.oneCell']
theorem rowR (x : Nat → Int) (k w : Int) : #[Value.int .u32 ((x 7 + bits BinOp.xor IntKind.u32 (bits BinOp.xor IntKind.u32 (rotr (x 4) 6) (rotr (x 4) 11)) (rotr (x 4) 25) +
      bits BinOp.xor IntKind.u32 (bits BinOp.and IntKind.u32 (x 4) (x 5)) (bits BinOp.and IntKind.u32 (bits BinOp.xor IntKind.u32 (x 4) 4294967295) (x 6)) + k + w +
      (bits BinOp.xor IntKind.u32 (bits BinOp.xor IntKind.u32 (rotr (x 0) 2) (rotr (x 0) 13)) (rotr (x 0) 22) +
      bits BinOp.xor IntKind.u32 (bits BinOp.xor IntKind.u32 (bits BinOp.and IntKind.u32 (x 0) (x 1)) (bits BinOp.and IntKind.u32 (x 0) (x 2))) (bits BinOp.and IntKind.u32 (x 1) (x 2)))) % 4294967296),
    Value.int .u32 (x 0), Value.int .u32 (x 1), Value.int .u32 (x 2),
    Value.int .u32 ((x 3 + (x 7 + bits BinOp.xor IntKind.u32 (bits BinOp.xor IntKind.u32 (rotr (x 4) 6) (rotr (x 4) 11)) (rotr (x 4) 25) +
      bits BinOp.xor IntKind.u32 (bits BinOp.and IntKind.u32 (x 4) (x 5)) (bits BinOp.and IntKind.u32 (bits BinOp.xor IntKind.u32 (x 4) 4294967295) (x 6)) + k + w)) % 4294967296),
    Value.int .u32 (x 4), Value.int .u32 (x 5), Value.int .u32 (x 6)] = row 8 (rnd x k w) := by
  have ea : (x 7 + bs1 (x 4) + cho (x 4) (x 5) (x 6) + k + w + (bs0 (x 0) + maj (x 0) (x 1) (x 2))) % 4294967296 = rnd x k w 0 := by
    show _ = (x 7 + bs1 (x 4) + cho (x 4) (x 5) (x 6) + k + w + bs0 (x 0) + maj (x 0) (x 1) (x 2)) % 4294967296
    omega
  have ee : (x 3 + (x 7 + bs1 (x 4) + cho (x 4) (x 5) (x 6) + k + w)) % 4294967296 = rnd x k w 4 := by
    show _ = (x 3 + x 7 + bs1 (x 4) + cho (x 4) (x 5) (x 6) + k + w) % 4294967296
    omega
  rw [← lit8 (rnd x k w), ← ea, ← ee]
  rfl
/-- the last loop of vaultref.pressed: k sums are made, in the state's own place -/
structure SumR (w : World) (g : Nat) (st x : Nat → Int) (k : Nat) (wr : World) : Prop where
  below : Below w.heap.size w wr
  cur : Words wr g 8 294 x
  res : Words wr (w.heap.size + 1) 8 294 (fun _ => 0)
  sum : ∃ f, Words wr w.heap.size 8 294 f ∧ (∀ j, j < k → f j = (x j + st j) % 4294967296) ∧ ∀ j, k ≤ j → f j = st j
theorem SumR.drew {w : World} {g : Nat} {st x : Nat → Int} {k : Nat} {wr : World} (h : SumR w g st x k wr) : SumR w g st x k wr.drew := ⟨h.below.drew, h.cur, h.res, h.sum⟩
theorem SumR.step {w : World} {g : Nat} {st x : Nat → Int} {k : Nat} {wr : World} (h : SumR w g st x k wr) (hg : w.heap.size + 2 ≤ g) : SumR w g st x (k + 1) (wr.setCell ⟨w.heap.size, k, none⟩ (.int .u32 ((st k + x k) % 4294967296))) := by
  obtain ⟨f, hf, h1, h2⟩ := h.sum
  refine ⟨h.below.setCell (by simp) _, h.cur.other _ _ (by simp; omega), h.res.other _ _ (by simp), upd f k ((st k + x k) % 4294967296), hf.put k _, fun j hj => ?_, fun j hj => ?_⟩
  · unfold upd
    by_cases e : j = k
    · rw [if_pos e, e, Int.add_comm]
    · rw [if_neg e]; exact h1 j (by omega)
  · unfold upd
    rw [if_neg (by omega)]; exact h2 j (by omega)
end Go.Proofs.YtadinjaocnlglaaGreatDoor
namespace Go.Proofs.YtadinjaocnlglaaGreatDoor
open Go.RowKit
set_option maxHeartbeats 1000000 in
set_option maxRecDepth 100000 in
theorem mix_any (kt : Nat → Int) (st : Nat → Int) (s : ByteArray) (w : World) (h0 : s.size = 64) (hT : Tab w 2 kt) (h3 : 4 ≤ w.heap.size) :
    Calls Tryz.prog 226 #[.agg (row 8 st), .string s] w fun e w' => e = .returned (.agg (row 8 (press kt (wrd (iniP s)) st))) ∧ Below w.heap.size w w' := by
  have HT : Hid _ := hT
  clear hT
  go_enter Tryz.func226, Tryz.ntmps226
  go_wp2_with fail
  refine (sched_any s _ h0).mono ?_
  rintro e w1 ⟨rfl, hb1⟩
  have hsz1 : w.heap.size + 2 ≤ w1.heap.size := by have := hb1.size; simpa using this
  have hA1 : Words w1 w.heap.size 8 294 st := Words.below (heap_alloc2_old _ _ _) hb1 (by simp; omega)
  have hR1 : Words w1 (w.heap.size + 1) 8 294 (fun _ => 0) := Words.below (heap_alloc2_new _ _ _) hb1 (by simp)
  have hB1 : Below w.heap.size w w1 := (((Below.refl _ _).alloc (Nat.le_refl _) _).alloc (by simp) _).trans (hb1.mono (by simp; omega))
  have hld : (Tryz.prog.info? 372).map (·.size) = some (row 64 (wrd (iniP s))).size := by rw [row_size]; exact info32
  clear hb1
  generalize hW : wrd (iniP s) = W at *
  have HW : Hid (wrd (iniP s) = W) := hW
  clear hW
  go_wp2_with (refine wpList_store_row_at rfl rfl 372 (.tmp 5) (.tmp 23) rfl w1.heap.size (row 64 W) rfl rfl 372 _ (heap_alloc_new w1 _) hld (by rw [row_size]; rfl) (row_ones _ _) ?_; intro w2 hw2)
  have M2 : Mem w w1.heap.size st (fun _ => 0) W w2 := by
    refine ⟨?_, ?_, ?_, ?_, hsz1, ?_⟩
    · rw [hw2.out]; exact (hA1.alloc _).setRow_other _ _ (by omega)
    · rw [hw2.out]; exact (hR1.alloc _).setRow_other _ _ (by omega)
    · rw [hw2.out]; exact words_setRow W (heap_alloc_new w1 _)
    · rw [hw2.out]; exact below_setRow (hB1.alloc (by omega) _) _ (by omega) _
    · rw [hw2.out]; simp
  clear hw2 hA1 hR1 hB1 hsz1
  have c0 := M2.own.cell 0 (by omega)
  have c1 := M2.own.cell 1 (by omega)
  have c2 := M2.own.cell 2 (by omega)
  have c3 := M2.own.cell 3 (by omega)
  go_quiet (fail)
  go_wp2
  obtain ⟨w3, hw3⟩ : ∃ wq, wq = w2.drewN nq := ⟨_, rfl⟩
  rw [← hw3]
  have M3 : Mem w w1.heap.size st (fun _ => 0) W w3 := by rw [hw3]; exact M2.drewN _
  clear hw3 c0 c1 c2 c3 M2
  have c4 := M3.own.cell 4 (by omega)
  have c5 := M3.own.cell 5 (by omega)
  have c6 := M3.own.cell 6 (by omega)
  have c7 := M3.own.cell 7 (by omega)
  go_quiet (fail)
  obtain ⟨w4, hw4⟩ : ∃ wq, wq = w3.drewN nq := ⟨_, rfl⟩
  rw [← hw4]
  have M4 : Mem w w1.heap.size st (fun _ => 0) W w4 := by rw [hw4]; exact M3.drewN _
  clear hw4 c4 c5 c6 c7 M3
  have hw4 : Words w4 w1.heap.size 64 372 W := M4.wrd
  go_wp2_with (refine wpList_load_row rfl 372 (.tmp 5) rfl w1.heap.size rfl 372 (row 64 W) (0, 0) _ hw4 Tryz.underlying372 rfl hld ?_)
  go_loop [41, 6, 7, 8, 9, 10, 11, 12, 13] (fun i a b c d e f g h => ∃ k : Nat, k ≤ 64 ∧ i = .int .i64 k ∧ a = .int .u32 (rounds kt W st k 0) ∧ b = .int .u32 (rounds kt W st k 1) ∧ c = .int .u32 (rounds kt W st k 2) ∧ d = .int .u32 (rounds kt W st k 3) ∧ e = .int .u32 (rounds kt W st k 4) ∧ f = .int .u32 (rounds kt W st k 5) ∧ g = .int .u32 (rounds kt W st k 6) ∧ h = .int .u32 (rounds kt W st k 7)) (fun i _ _ _ _ _ _ _ _ => 64 - (intOf i).toNat)
  case atStart => exact ⟨0, by omega, rfl, rfl, rfl, rfl, rfl, rfl, rfl, rfl, rfl⟩
  case round =>
    obtain ⟨k, hk, rfl, rfl, rfl, rfl, rfl, rfl, rfl, rfl, rfl⟩ := hrel
    by_cases hlt : k < 64
    · have hKc : w4.cell? ⟨2, k, none⟩ = some (.int .u32 (kt k)) := Tab.below HT.out M4.below (by omega) k hlt
      have hix := fun Wx => index_row 64 372 W k hlt Wx Tryz.underlying372
      obtain ⟨x, hx⟩ : ∃ x, rounds kt W st k = x := ⟨_, rfl⟩
      have HS : Hid (rounds kt W st (k + 1) = rnd x (kt k) (W k)) := by rw [← hx]; rfl
      rw [hx]
      clear hx
      go_wp2_with (go_at_call 266; refine (rot_at _ _ _ (by decide) (by decide)).mono ?_; rintro e w' ⟨rfl, rfl⟩)
      go_round
      case rel =>
        refine ⟨k + 1, by omega, by go_num, ?_⟩
        rw [HS.out]
        exact ⟨congrArg (Value.int .u32) (rnd_a x _ _), rfl, rfl, rfl, congrArg (Value.int .u32) (rnd_e x _ _), rfl, rfl, rfl⟩
      case measure => simp [intOf]; omega
    · have hk64 : k = 64 := by omega
      subst hk64
      have hlo : w.heap.size + 2 ≤ w4.heap.size := by have := M4.lo; have := M4.size; omega
      obtain ⟨x, hx⟩ : ∃ x, rounds kt W st 64 = x := ⟨_, rfl⟩
      have HX : Hid (rounds kt W st 64 = x) := hx
      rw [hx]
      clear hx
      go_wp2
      go_loopw [115] (fun i wr => ∃ k : Nat, k ≤ 8 ∧ i = .int .i64 k ∧ SumMem w w4.heap.size st x k wr) (fun i _ => 8 - (intOf i).toNat)
      case atStart => exact ⟨0, by omega, rfl, M4.below.alloc (by omega) _, M4.own.alloc _, M4.res.alloc _, x, heap_alloc_new w4 _, fun j hj => by omega, fun j _ => rfl⟩
      case round =>
        clear M4
        obtain ⟨k, hk, rfl, S⟩ := hrel
        by_cases hlt : k < 8
        · obtain ⟨f, hf, hf1, hf2⟩ := S.sum
          have c1 := hf.cell k hlt
          rw [hf2 k (Nat.le_refl _)] at c1
          have c2 := hf.free k
          have c3 := S.own.cell k hlt
          clear hf1 hf2 hf
          go_wp2
          go_region
          go_wp2
          go_roundw
          case rel => exact ⟨k + 1, by omega, by go_num, S.drew.step (by omega)⟩
          case measure => simp [intOf]; omega
        · have hk8 : k = 8 := by omega
          subst hk8
          obtain ⟨f, hf, hf1, hf2⟩ := S.sum
          have HF : Hid _ := hf1
          clear hf1 hf2
          have hR := S.res
          have hld8 : (Tryz.prog.info? 294).map (·.size) = some (row 8 f).size := by rw [row_size]; exact info26
          have hold8 : (row 8 (fun _ => 0)).size = (row 8 f).size := by simp [row_size]
          go_wp2_with (first | (refine wpList_load_row rfl 294 (.tmp 20) rfl w4.heap.size rfl 294 (row 8 f) (0, 0) _ hf Tryz.underlying294 rfl hld8 ?_) | (refine wpList_store_row rfl 294 (.tmp 4) (.tmp 127) rfl (w.heap.size + 1) (row 8 f) rfl rfl 294 (row 8 fun _ => 0) hR hld8 hold8 (row_ones _ _) ?_))
          have e : row 8 f = row 8 (press kt W st) := row_congr 8 _ _ (by
            intro j hj; rw [HF.out j hj]; unfold press; rw [HX.out])
          refine bodyPost_ret (v := .agg (row 8 f)) ?_ rfl ?_
          · exact results_cell_row Tryz.results226 _ _ (w.heap.size + 1) 294 (row 8 f) (0, 0) _ rfl (setRow_heap wr (w.heap.size + 1) _ _ 294 (0, 0) hR) Tryz.underlying294 rfl hld8
          · rw [e, ← HW.out]
            exact ⟨rfl, below_setRow S.below _ (by omega) _⟩
end Go.Proofs.YtadinjaocnlglaaGreatDoor
