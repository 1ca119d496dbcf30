/-
  The walks of package field.
  Rows of whatever values in a block; the walks of stripe.points, row, numbers, text.
-/
import Derived.Test.YtadinjaocnlglaaGreatDoorProg
import Derived.Test.YtadinjaocnlglaaGreatDoorZ02
import Derived.WalkKit
import Derived.WalkSpells
import Derived.WalkLawsBesides
import Derived.Deep.OwnRows
import Derived.Deep.Draws
import Derived.Laws.BytesArg
namespace Go.Proofs.YtadinjaocnlglaaGreatDoor
open Go.RowKit
set_option maxRecDepth 100000
theorem stepAB : allB 256 (fun A => bits BinOp.xor IntKind.u8 ((A : Int) * 2 % 256) (bits BinOp.and IntKind.u8 29 (-((A : Int) / 128) % 256)) == ((xt A : Nat) : Int)) = true := by decide +kernel
theorem stepA (A : Nat) (h : A < 256) : bits BinOp.xor IntKind.u8 ((A : Int) * 2 % 256) (bits BinOp.and IntKind.u8 29 (-((A : Int) / 128) % 256)) = ((xt A : Nat) : Int) := by
  have := allB_at _ 256 stepAB A h
  simpa using this
theorem maskB : allB 256 (fun A => bits BinOp.and IntKind.u8 (A : Int) 1 == ((A % 2 : Nat) : Int) && bits BinOp.and IntKind.u8 (A : Int) 255 == (A : Int) && bits BinOp.and IntKind.u8 (A : Int) 0 == 0) = true := by decide +kernel
theorem masks (A : Nat) (h : A < 256) : bits BinOp.and IntKind.u8 (A : Int) 1 = ((A % 2 : Nat) : Int) ∧ bits BinOp.and IntKind.u8 (A : Int) 255 = (A : Int) ∧ bits BinOp.and IntKind.u8 (A : Int) 0 = 0 := by
  have := allB_at _ 256 maskB A h
  simp only [Bool.and_eq_true, beq_iff_eq] at this
  exact ⟨this.1.1, this.1.2, this.2⟩
theorem stepP (P A B : Nat) (hP : P < 256) (hA : A < 256) (hB : B < 256) : bits BinOp.xor IntKind.u8 (P : Int) (bits BinOp.and IntKind.u8 (A : Int) (-bits BinOp.and IntKind.u8 (B : Int) 1 % 256)) = ((if B % 2 = 1 then P ^^^ A else P : Nat) : Int) := by
  rw [(masks B hB).1]
  by_cases h : B % 2 = 1
  · rw [if_pos h, h, show (-((1 : Nat) : Int) % 256) = 255 by decide, (masks A hA).2.1, u8_xor_nat P A hP hA]
  · have h0 : B % 2 = 0 := by omega
    rw [if_neg h, h0, show (-((0 : Nat) : Int) % 256) = 0 by decide, (masks A hA).2.2]
    have := u8_xor_nat P 0 hP (by omega)
    rw [Nat.xor_zero] at this
    exact this
set_option maxHeartbeats 400000 in
theorem times_any (a b : Nat) (w : World) (ha : a < 256) (hb : b < 256) :
    Calls Tryz.prog 385 #[.int .u8 a, .int .u8 b] w fun e w' => e = .returned (.int .u8 ((gm a b : Nat) : Int)) ∧ w' = w := by
  go_enter Tryz.func385, Tryz.ntmps385
  go_wp2
  go_loop [6, 0, 1, 5] (fun i x y p => ∃ k A B P : Nat, k ≤ 8 ∧ i = .int .i64 k ∧ x = .int .u8 A ∧ y = .int .u8 B ∧ p = .int .u8 P ∧ A < 256 ∧ B < 256 ∧ P < 256 ∧ gmS (8 - k) A B P = gm a b) (fun i _ _ _ => 8 - (intOf i).toNat)
  case atStart => exact ⟨0, a, b, 0, by omega, rfl, rfl, rfl, rfl, ha, hb, by omega, rfl⟩
  case round =>
    obtain ⟨k, A, B, P, hk, rfl, rfl, rfl, rfl, hA, hB, hP, hg⟩ := hrel
    have HG : Hid _ := hg
    clear hg
    by_cases hlt : k < 8
    · go_wp2
      go_round
      case rel =>
        refine ⟨k + 1, xt A, B / 2, (if B % 2 = 1 then P ^^^ A else P), by omega, by go_num, ?_, ?_, ?_, xt_lt A hA, by omega, ?_, ?_⟩
        · rw [stepA A hA]
        · go_num
        · rw [stepP P A B hP hA hB]
        · split
          · exact Nat.xor_lt_two_pow (n := 8) hP hA
          · exact hP
        · rw [← HG.out, show 8 - k = (8 - (k + 1)) + 1 by omega, gmS]
      case measure => simp [intOf]; omega
    · go_wp2
      go_ret
      have e : k = 8 := by omega
      subst e
      exact ⟨by rw [← HG.out]; rfl, rfl⟩
set_option maxHeartbeats 400000 in
theorem plus_any (a b : Nat) (w : World) (ha : a < 256) (hb : b < 256) :
    Calls Tryz.prog 384 #[.int .u8 a, .int .u8 b] w fun e w' => e = .returned (.int .u8 ((a ^^^ b : Nat) : Int)) ∧ w' = w := by
  have e := u8_xor_nat a b ha hb
  have E : Hid _ := e
  clear e
  go_enter Tryz.func384, Tryz.ntmps384
  go_wp2
  go_ret
  rw [E.out]
  exact ⟨rfl, rfl⟩
set_option maxHeartbeats 400000 in
theorem minus_any (a b : Nat) (w : World) (ha : a < 256) (hb : b < 256) :
    Calls Tryz.prog 381 #[.int .u8 a, .int .u8 b] w fun e w' => e = .returned (.int .u8 ((a ^^^ b : Nat) : Int)) ∧ w' = w := by
  have e := u8_xor_nat a b ha hb
  have E : Hid _ := e
  clear e
  go_enter Tryz.func381, Tryz.ntmps381
  go_wp2
  go_ret
  rw [E.out]
  exact ⟨rfl, rfl⟩
theorem one_any (a : Int) (w : World) : Calls Tryz.prog 382 #[.int .u8 a] w fun e w' => e = .returned (.int .u8 1) ∧ w' = w := by
  go_enter Tryz.func382, Tryz.ntmps382
  go_wp2
  go_ret
  exact ⟨rfl, rfl⟩
theorem giS_lt : ∀ n p r, p < 256 → r < 256 → giS n p r < 256
  | 0, _, _, _, hr => hr
  | n + 1, p, r, hp, hr => by rw [giS]; exact giS_lt n _ _ (gm_lt p p hp) (gm_lt r _ hr)
set_option maxHeartbeats 400000 in
theorem inverse_any (a : Nat) (w : World) (ha : a < 256) :
    Calls Tryz.prog 386 #[.int .u8 a] w fun e w' => e = .returned (.int .u8 ((gi a : Nat) : Int)) ∧ w' = w := by
  go_enter Tryz.func386, Tryz.ntmps386
  go_wp2
  go_loop [6, 3, 4] (fun i x y => ∃ k A R : Nat, k ≤ 7 ∧ i = .int .i64 k ∧ x = .int .u8 A ∧ y = .int .u8 R ∧ A < 256 ∧ R < 256 ∧ giS (7 - k) A R = gi a) (fun i _ _ => 7 - (intOf i).toNat)
  case atStart => exact ⟨0, a, 1, by omega, rfl, rfl, rfl, ha, by omega, rfl⟩
  case round =>
    obtain ⟨k, A, R, hk, rfl, rfl, rfl, hA, hR, hg⟩ := hrel
    have HG : Hid _ := hg
    have hAA := gm_lt A A hA
    clear hg
    by_cases hlt : k < 7
    · go_wp2_with fail
      refine (times_any A A _ hA hA).mono ?_
      rintro e w' ⟨rfl, rfl⟩
      go_wp2_with fail
      refine (times_any R (gm A A) _ hR hAA).mono ?_
      rintro e w' ⟨rfl, rfl⟩
      go_wp2
      go_round
      case rel => exact ⟨k + 1, gm A A, gm R (gm A A), by omega, by go_num, rfl, rfl, hAA, gm_lt R _ hR, by rw [← HG.out, show 7 - k = (7 - (k + 1)) + 1 by omega, giS]⟩
      case measure => simp [intOf]; omega
    · go_wp2
      go_ret
      have e : k = 7 := by omega
      subst e
      exact ⟨by rw [← HG.out]; rfl, rfl⟩
set_option maxHeartbeats 400000 in
theorem over_any (a b : Nat) (w : World) (ha : a < 256) (hb : b < 256) :
    Calls Tryz.prog 383 #[.int .u8 a, .int .u8 b] w fun e w' => e = .returned (.int .u8 ((gm a (gi b) : Nat) : Int)) ∧ w' = w := by
  have hgb := gi_lt b hb
  go_enter Tryz.func383, Tryz.ntmps383
  go_wp2_with fail
  refine (inverse_any b _ hb).mono ?_
  rintro e w' ⟨rfl, rfl⟩
  go_wp2_with fail
  refine (times_any a (gi b) _ ha hgb).mono ?_
  rintro e w' ⟨rfl, rfl⟩
  go_wp2
  go_ret
  exact ⟨rfl, rfl⟩
end Go.Proofs.YtadinjaocnlglaaGreatDoor
namespace Go.Proofs.YtadinjaocnlglaaGreatDoor
open Go.RowKit

/-- n values in a row -/
def rowV (n : Nat) (f : Nat → Value) : Array Value := Array.ofFn (n := n) fun i => f i.val
def updV (f : Nat → Value) (k : Nat) (v : Value) : Nat → Value := fun j => if j = k then v else f j
theorem rowV_size (n : Nat) (f : Nat → Value) : (rowV n f).size = n := by simp [rowV]
theorem rowV_get (n : Nat) (f : Nat → Value) (k : Nat) (h : k < n) : (rowV n f)[k]? = some (f k) := by simp [rowV, h]
theorem rowV_none (n : Nat) (f : Nat → Value) (k : Nat) (h : ¬ k < n) : (rowV n f)[k]? = none := by simp [rowV, h]
theorem rowV_set (n : Nat) (f : Nat → Value) (k : Nat) (v : Value) : (rowV n f).setIfInBounds k v = rowV n (updV f k v) := by
  apply Array.ext_getElem?
  intro i
  rw [Array.getElem?_setIfInBounds, rowV_size]
  by_cases hi : i < n
  · rw [rowV_get n f i hi, rowV_get n _ i hi]
    by_cases h : k = i
    · subst h; simp [hi, updV]
    · simp [h, updV, Ne.symm h]
  · rw [rowV_none n f i hi, rowV_none n _ i hi]
    by_cases h : k = i
    · subst h; simp [hi]
    · simp [h]
theorem rowV_congr (n : Nat) (f g : Nat → Value) (h : ∀ j, j < n → f j = g j) : rowV n f = rowV n g := by
  apply Array.ext_getElem?
  intro i
  by_cases hi : i < n
  · rw [rowV_get n f i hi, rowV_get n g i hi, h i hi]
  · rw [rowV_none n f i hi, rowV_none n g i hi]
theorem made_row (z : Value) (n : Nat) : madeCells #[z] n = rowV n (fun _ => z) := by
  apply Array.ext_getElem?
  intro i
  by_cases hi : i < n
  · rw [rowV_get n _ i hi]; simp [madeCells, hi, Nat.mod_one]
  · rw [rowV_none n _ i hi]; simp [madeCells, hi]
/-- the block g holds n values -/
def Rw (w : World) (g n : Nat) (t : TypeId) (f : Nat → Value) : Prop := w.heap[g]? = some (.cells (rowV n f) t (0, 0))
theorem Rw.cell {w : World} {g n : Nat} {t : TypeId} {f : Nat → Value} (h : Rw w g n t f) (k : Nat) (hk : k < n) : w.cell? ⟨g, k, none⟩ = some (f k) := by
  rw [cell_of_row w g k _ t _ h, rowV_get n f k hk]
theorem Rw.free {w : World} {g n : Nat} {t : TypeId} {f : Nat → Value} (h : Rw w g n t f) (k : Nat) : w.frozen? ⟨g, k, none⟩ = false := frozen_of_row w g k _ t h
theorem Rw.put {w : World} {g n : Nat} {t : TypeId} {f : Nat → Value} (h : Rw w g n t f) (k : Nat) (v : Value) : Rw (w.setCell ⟨g, k, none⟩ v) g n t (updV f k v) := by
  have := heap_setCell_same w g k _ t v h
  rwa [rowV_set] at this
theorem Rw.drew {w : World} {g n : Nat} {t : TypeId} {f : Nat → Value} (h : Rw w g n t f) : Rw w.drew g n t f := h
theorem Rw.drewN {w : World} {g n : Nat} {t : TypeId} {f : Nat → Value} (h : Rw w g n t f) (m : Nat) : Rw (w.drewN m) g n t f := h
theorem Rw.other {w : World} {g n : Nat} {t : TypeId} {f : Nat → Value} (h : Rw w g n t f) (a : Addr) (v : Value) (ha : g ≠ a.block) : Rw (w.setCell a v) g n t f := by
  unfold Rw; rw [heap_setCell_other w a g v ha]; exact h
theorem Rw.lt {w : World} {g n : Nat} {t : TypeId} {f : Nat → Value} (h : Rw w g n t f) : g < w.heap.size := (Array.getElem?_eq_some_iff.1 h).1
theorem Rw.alloc {w : World} {g n : Nat} {t : TypeId} {f : Nat → Value} (h : Rw w g n t f) (o : Obj) : Rw (w.alloc o) g n t f := by
  unfold Rw; rw [Below.heap_alloc w o g h.lt]; exact h
theorem Rw.below {w w' : World} {g n : Nat} {t : TypeId} {f : Nat → Value} (h : Rw w g n t f) {B : Nat} (hb : Below B w w') (hg : g < B) : Rw w' g n t f := by
  unfold Rw; rw [hb.block g hg]; exact h
theorem Rw.to {w : World} {g n : Nat} {t : TypeId} {f h : Nat → Value} (b : Rw w g n t f) (e : ∀ j, j < n → f j = h j) : Rw w g n t h := by
  unfold Rw; rw [← rowV_congr n f h e]; exact b
theorem Rw.made (w : World) (n : Nat) (t : TypeId) (z : Value) : Rw (w.alloc (.cells (madeCells #[z] n) t)) w.heap.size n t (fun _ => z) := by
  unfold Rw; rw [← made_row]; exact heap_alloc_new _ _
/-- k of the row's values are in place -/
def part' (k : Nat) (v : Nat → Value) (z : Value) : Nat → Value := fun j => if j < k then v j else z
theorem part_0 (v : Nat → Value) (z : Value) (j : Nat) : part' 0 v z j = z := by simp [part']
theorem part_step (k : Nat) (v : Nat → Value) (z : Value) (j : Nat) : updV (part' k v z) k (v k) j = part' (k + 1) v z j := by
  unfold updV part'
  by_cases h : j = k
  · rw [if_pos h, if_pos (by omega), h]
  · rw [if_neg h]
    by_cases h2 : j < k
    · rw [if_pos h2, if_pos (by omega)]
    · rw [if_neg h2, if_neg (by omega)]

theorem info3 : (Tryz.prog.info? 3).map (fun i => (i.zero, i.size, i.bytes)) = some (some (.int .i64 0), 1, 8) := by kernel_rfl
theorem info56 : (Tryz.prog.info? 393).map (fun i => (i.zero, i.size, i.bytes)) = some (some (.int .u8 0), 1, 1) := by kernel_rfl
theorem info5 : (Tryz.prog.info? 5).map (fun i => (i.zero, i.size, i.bytes)) = some (some (.int .u8 0), 1, 1) := by kernel_rfl
theorem info9 : (Tryz.prog.info? 9).map (fun i => (i.zero, i.size, i.bytes)) = some (some (.string ⟨#[]⟩), 1, 16) := by kernel_rfl
theorem info53 : (Tryz.prog.info? 390).map (fun i => (i.zero, i.size, i.bytes)) = some (some (.slice none 0 0), 1, 24) := by kernel_rfl

/-- the numbers from a on -/
def from' (a : Nat) : Nat → Value := fun i => .int .i64 ((a + i : Nat) : Int)
set_option maxHeartbeats 400000 in
theorem points_any (a b : Nat) (w : World) (hab : a ≤ b) (hb : b ≤ 1000) :
    Calls Tryz.prog 232 #[.int .i64 a, .int .i64 b] w fun e w' => e = .returned (.slice (some ⟨w.heap.size, 0, none⟩) (b - a) (b - a)) ∧ Rw w' w.heap.size (b - a) 3 (from' a) ∧ Below w.heap.size w w' := by
  obtain ⟨n, hn⟩ : ∃ n, n = b - a := ⟨_, rfl⟩
  rw [← hn]
  have hd : ((b : Int) - (a : Int)) = ((n : Nat) : Int) := by omega
  have hn1 : n ≤ 1000 := by omega
  have HN : Hid (n = b - a) := hn
  clear hn
  have hmk := run_make_row' (P := Tryz.prog) 39 3 (.int .i64 0) 8 Tryz.underlying39 info3 rfl .i64 .i64 n (by omega) (by omega)
  go_enter Tryz.func232, Tryz.ntmps232
  go_wp2
  go_loopw [13] (fun i wr => ∃ k : Nat, k ≤ n ∧ i = .int .i64 k ∧ Below w.heap.size w wr ∧ Rw wr w.heap.size n 3 (part' k (from' a) (.int .i64 0))) (fun i _ => n - (intOf i).toNat)
  case atStart => exact ⟨0, by omega, rfl, (Below.refl _ _).alloc (Nat.le_refl _) _, (Rw.made w n 3 (.int .i64 0)).to (fun j _ => (part_0 _ _ j).symm)⟩
  case round =>
    obtain ⟨k, hk, rfl, hb, hR⟩ := hrel
    by_cases hlt : k < n
    · have c1 := hR.cell k hlt
      have c2 := hR.free k
      go_wp2
      go_roundw
      case rel => exact ⟨k + 1, by omega, by go_num, hb.setCell (Nat.le_refl _) _, (hR.put k _).to (fun j _ => by rw [← part_step]; rfl)⟩
      case measure => simp [intOf]; omega
    · have e : k = n := by omega
      subst e
      go_wp2
      go_ret
      exact ⟨rfl, hR.to (fun j hj => by simp [part', hj]), hb⟩
end Go.Proofs.YtadinjaocnlglaaGreatDoor
