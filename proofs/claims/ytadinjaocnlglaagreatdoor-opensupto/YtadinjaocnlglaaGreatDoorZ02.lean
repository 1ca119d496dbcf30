/-
  Plain mathematics, of no program: the field of 256 numbers (x to the 8 is 29).
  The walks of package field.
  Rows of whatever values in a block; the walks of stripe.points, row, numbers, text.
  The walks of stripe.row, numbers, text; matrix.differences, width.
  The walks of matrix.differences, productsOfOthers.
-/
import Derived.Test.YtadinjaocnlglaaGreatDoorZ01
import Derived.Test.YtadinjaocnlglaaGreatDoorProg
import Derived.WalkKit
import Derived.WalkSpells
import Derived.WalkLawsBesides
import Derived.Deep.OwnRows
import Derived.Deep.Draws
import Derived.Laws.BytesArg
import Derived.BigRegion
import Derived.BigQuiet
import Derived.Deep.QuietTactic
import Derived.Deep.RegionWith
import Derived.Deep.RegionHeld3
namespace Go.Proofs.YtadinjaocnlglaaGreatDoor
def xt (a : Nat) : Nat := (2 * a % 256) ^^^ (if 128 ≤ a then 29 else 0)
def gmS : Nat → Nat → Nat → Nat → Nat
 | 0, _, _, p => p
 | n + 1, a, b, p => gmS n (xt a) (b / 2) (if b % 2 = 1 then p ^^^ a else p)
def gm (a b : Nat) : Nat := gmS 8 a b 0
def allB (n : Nat) (f : Nat → Bool) : Bool := Nat.rec true (fun k r => f k && r) n
theorem allB_at (f : Nat → Bool) : ∀ n, allB n f = true → ∀ k, k < n → f k = true
 | 0, _, k, h => by omega
 | n + 1, h, k, hk => by
  have h' : (f n && allB n f) = true := h
  rw [Bool.and_eq_true] at h'
  by_cases e : k = n
  ·rw [e]; exact h'.1
  ·exact allB_at f n h'.2 k (by omega)
set_option maxRecDepth 100000
theorem xt_lt : ∀ a, a < 256 → xt a < 256 := by
 intro a h
 unfold xt
 refine Nat.xor_lt_two_pow (n := 8) (by omega) ?_
 split <;> decide
theorem xt_xorB : allB 256 (fun a => allB 256 fun b => xt (a ^^^ b) == (xt a ^^^ xt b)) = true := by decide +kernel
theorem xt_xor (a b : Nat) (ha : a < 256) (hb : b < 256) : xt (a ^^^ b) = xt a ^^^ xt b := by
 have := allB_at _ 256 (allB_at _ 256 xt_xorB a ha) b hb
 simpa using this
theorem gmS_lt : ∀ n a b p, a < 256 → p < 256 → gmS n a b p < 256
 | 0, _, _, _, _, hp => hp
 | n + 1, a, b, p, ha, hp => by
  rw [gmS]
  refine gmS_lt n _ _ _ (xt_lt a ha) ?_
  split
  ·exact Nat.xor_lt_two_pow (n := 8) hp ha
  ·exact hp
theorem gm_lt (a b : Nat) (ha : a < 256) : gm a b < 256 := gmS_lt 8 a b 0 ha (by omega)
theorem gmS_xor : ∀ n a1 a2 b p1 p2, a1 < 256 → a2 < 256 → gmS n (a1 ^^^ a2) b (p1 ^^^ p2) = gmS n a1 b p1 ^^^ gmS n a2 b p2
 | 0, _, _, _, _, _, _, _ => rfl
 | n + 1, a1, a2, b, p1, p2, h1, h2 => by
  rw [gmS, gmS, gmS, xt_xor a1 a2 h1 h2]
  have e : (if b % 2 = 1 then p1 ^^^ p2 ^^^ (a1 ^^^ a2) else p1 ^^^ p2) = (if b % 2 = 1 then p1 ^^^ a1 else p1) ^^^ (if b % 2 = 1 then p2 ^^^ a2 else p2) := by
   by_cases hb : b % 2 = 1
   ·rw [if_pos hb, if_pos hb, if_pos hb]
    rw [Nat.xor_assoc, Nat.xor_assoc, ← Nat.xor_assoc p2 a1 a2, Nat.xor_comm p2 a1, Nat.xor_assoc a1 p2 a2]
   ·rw [if_neg hb, if_neg hb, if_neg hb]
  rw [e]
  exact gmS_xor n _ _ _ _ _ (xt_lt a1 h1) (xt_lt a2 h2)
theorem gm_xor (a1 a2 b : Nat) (h1 : a1 < 256) (h2 : a2 < 256) : gm (a1 ^^^ a2) b = gm a1 b ^^^ gm a2 b := gmS_xor 8 a1 a2 b 0 0 h1 h2
theorem gm_xtB : allB 256 (fun a => allB 256 fun b => gm a (xt b) == xt (gm a b)) = true := by decide +kernel
theorem gm_xt (a b : Nat) (ha : a < 256) (hb : b < 256) : gm a (xt b) = xt (gm a b) := by
 have := allB_at _ 256 (allB_at _ 256 gm_xtB a ha) b hb
 simpa using this
theorem gm_oneB : allB 256 (fun a => gm a 1 == a && gm 1 a == a && gm a 0 == 0 && gm 0 a == 0) = true := by decide +kernel
theorem gm_ones (a : Nat) (ha : a < 256) : gm a 1 = a ∧ gm 1 a = a ∧ gm a 0 = 0 ∧ gm 0 a = 0 := by
 have := allB_at _ 256 gm_oneB a ha
 simp only [Bool.and_eq_true, beq_iff_eq] at this
 exact ⟨this.1.1.1, this.1.1.2, this.1.2, this.2⟩
def pw : Nat → Nat
 | 0 => 1
 | n + 1 => xt (pw n)
theorem pw_lt : ∀ n, pw n < 256
 | 0 => by decide
 | n + 1 => xt_lt _ (pw_lt n)
theorem gm_pw (a n : Nat) (ha : a < 256) : ∀ m, a = pw n → gm a (pw m) = pw (n + m)
 | 0, h => by rw [pw, (gm_ones a ha).1, h, Nat.add_zero]
 | m + 1, h => by rw [pw, gm_xt a (pw m) ha (pw_lt m), gm_pw a n ha m h]; rfl
theorem gm_pws (n m : Nat) : gm (pw n) (pw m) = pw (n + m) := gm_pw (pw n) n (pw_lt n) m rfl
def pws : Nat → Nat → List Nat
 | 0, _ => []
 | n + 1, a => a :: pws n (xt a)
theorem pws_mem : ∀ n k a, a ∈ pws n (pw k) → ∃ i, a = pw i
 | 0, _, _, h => by simp [pws] at h
 | n + 1, k, a, h => by
  rcases List.mem_cons.1 h with rfl | h
  ·exact ⟨k, rfl⟩
  ·exact pws_mem n (k + 1) a h
theorem logB : allB 256 (fun a => a == 0 || (pws 255 1).contains a) = true := by decide +kernel
theorem logs (a : Nat) (ha : a < 256) (h0 : a ≠ 0) : ∃ i, a = pw i := by
 have := allB_at _ 256 logB a ha
 simp only [Bool.or_eq_true, beq_iff_eq, h0, false_or] at this
 have hm : a ∈ pws 255 1 := by simpa using this
 exact pws_mem 255 0 a hm
theorem gm_comm (a b : Nat) (ha : a < 256) (hb : b < 256) : gm a b = gm b a := by
 by_cases h1 : a = 0
 ·rw [h1, (gm_ones b hb).2.2.2, (gm_ones b hb).2.2.1]
 by_cases h2 : b = 0
 ·rw [h2, (gm_ones a ha).2.2.2, (gm_ones a ha).2.2.1]
 obtain ⟨i, rfl⟩ := logs a ha h1
 obtain ⟨j, rfl⟩ := logs b hb h2
 rw [gm_pws, gm_pws, Nat.add_comm]
theorem gm_assoc (a b c : Nat) (ha : a < 256) (hb : b < 256) (hc : c < 256) : gm (gm a b) c = gm a (gm b c) := by
 by_cases h1 : a = 0
 ·rw [h1, (gm_ones b hb).2.2.2, (gm_ones c hc).2.2.2, (gm_ones _ (gm_lt b c hb)).2.2.2]
 by_cases h2 : b = 0
 ·rw [h2, (gm_ones a ha).2.2.1, (gm_ones c hc).2.2.2, (gm_ones a ha).2.2.1]
 by_cases h3 : c = 0
 ·rw [h3, (gm_ones _ (gm_lt a b ha)).2.2.1, (gm_ones b hb).2.2.1, (gm_ones a ha).2.2.1]
 obtain ⟨i, rfl⟩ := logs a ha h1
 obtain ⟨j, rfl⟩ := logs b hb h2
 obtain ⟨k, rfl⟩ := logs c hc h3
 rw [gm_pws, gm_pws, gm_pws, gm_pws, Nat.add_assoc]
def giS : Nat → Nat → Nat → Nat
 | 0, _, r => r
 | n + 1, p, r => giS n (gm p p) (gm r (gm p p))
def gi (a : Nat) : Nat := giS 7 a 1
theorem gi_B : allB 256 (fun a => decide (gi a < 256) && (a == 0 || gm a (gi a) == 1)) = true := by decide +kernel
theorem gi_lt (a : Nat) (ha : a < 256) : gi a < 256 := by
 have := allB_at _ 256 gi_B a ha
 simp only [Bool.and_eq_true, decide_eq_true_eq] at this
 exact this.1
theorem gm_gi (a : Nat) (ha : a < 256) (h0 : a ≠ 0) : gm a (gi a) = 1 := by
 have := allB_at _ 256 gi_B a ha
 simp only [Bool.and_eq_true, Bool.or_eq_true, beq_iff_eq, h0, false_or] at this
 exact this.2
def N8 : Type := { n : Nat // n < 256 }
def GF : Fld N8 where
 add a b := ⟨a.1 ^^^ b.1, Nat.xor_lt_two_pow (n := 8) a.2 b.2⟩
 mul a b := ⟨gm a.1 b.1, gm_lt a.1 b.1 a.2⟩
 zero := ⟨0, by omega⟩
 one := ⟨1, by omega⟩
 inv a := ⟨gi a.1, gi_lt a.1 a.2⟩
 add_comm a b := Subtype.ext (Nat.xor_comm a.1 b.1)
 add_assoc a b c := Subtype.ext (Nat.xor_assoc a.1 b.1 c.1)
 zero_add a := Subtype.ext (Nat.zero_xor a.1)
 add_self a := Subtype.ext (Nat.xor_self a.1)
 mul_comm a b := Subtype.ext (gm_comm a.1 b.1 a.2 b.2)
 mul_assoc a b c := Subtype.ext (gm_assoc a.1 b.1 c.1 a.2 b.2 c.2)
 one_mul a := Subtype.ext (gm_ones a.1 a.2).2.1
 add_mul a b c := Subtype.ext (gm_xor a.1 b.1 c.1 a.2 b.2)
 mul_inv a h := Subtype.ext (gm_gi a.1 a.2 (fun e => h (Subtype.ext e)))
 one_ne h := by have := congrArg Subtype.val h; exact absurd this (by decide)
end Go.Proofs.YtadinjaocnlglaaGreatDoor
namespace Go.Proofs.YtadinjaocnlglaaGreatDoor
open Go.RowKit
set_option maxRecDepth 100000
theorem stepAB : allB 256 (fun A => bits BinOp.xor IntKind.u8 ((A : Int) * 2 % 256) (bits BinOp.and IntKind.u8 29 (-((A : Int) / 128) % 256)) == ((xt A : Nat) : Int)) = true := by decide +kernel
theorem stepA (A : Nat) (h : A < 256) : bits BinOp.xor IntKind.u8 ((A : Int) * 2 % 256) (bits BinOp.and IntKind.u8 29 (-((A : Int) / 128) % 256)) = ((xt A : Nat) : Int) := by
 have := allB_at _ 256 stepAB A h
 simpa using this
theorem maskB : allB 256 (fun A => bits BinOp.and IntKind.u8 (A : Int) 1 == ((A % 2 : Nat) : Int) && bits BinOp.and IntKind.u8 (A : Int) 255 == (A : Int) && bits BinOp.and IntKind.u8 (A : Int) 0 == 0) = true := by decide +kernel
theorem masks (A : Nat) (h : A < 256) : bits BinOp.and IntKind.u8 (A : Int) 1 = ((A % 2 : Nat) : Int) ∧ bits BinOp.and IntKind.u8 (A : Int) 255 = (A : Int) ∧ bits BinOp.and IntKind.u8 (A : Int) 0 = 0 := by
 have := allB_at _ 256 maskB A h
 simp only [Bool.and_eq_true, beq_iff_eq] at this
 exact ⟨this.1.1, this.1.2, this.2⟩
theorem stepP (P A B : Nat) (hP : P < 256) (hA : A < 256) (hB : B < 256) : bits BinOp.xor IntKind.u8 (P : Int) (bits BinOp.and IntKind.u8 (A : Int) (-bits BinOp.and IntKind.u8 (B : Int) 1 % 256)) = ((if B % 2 = 1 then P ^^^ A else P : Nat) : Int) := by
 rw [(masks B hB).1]
 by_cases h : B % 2 = 1
 ·rw [if_pos h, h, show (-((1 : Nat) : Int) % 256) = 255 by decide, (masks A hA).2.1, u8_xor_nat P A hP hA]
 ·have h0 : B % 2 = 0 := by omega
  rw [if_neg h, h0, show (-((0 : Nat) : Int) % 256) = 0 by decide, (masks A hA).2.2]
  have := u8_xor_nat P 0 hP (by omega)
  rw [Nat.xor_zero] at this
  exact this
set_option maxHeartbeats 400000 in
theorem times_any (a b : Nat) (w : World) (ha : a < 256) (hb : b < 256) :
  Calls Tryz.prog 385 #[.int .u8 a, .int .u8 b] w fun e w' => e = .returned (.int .u8 ((gm a b : Nat) : Int)) ∧ w' = w := by
 go_enter Tryz.func385, Tryz.ntmps385
 go_wp2
 go_loop [6, 0, 1, 5] (fun i x y p => ∃ k A B P : Nat, k ≤ 8 ∧ i = .int .i64 k ∧ x = .int .u8 A ∧ y = .int .u8 B ∧ p = .int .u8 P ∧ A < 256 ∧ B < 256 ∧ P < 256 ∧ gmS (8 - k) A B P = gm a b) (fun i _ _ _ => 8 - (intOf i).toNat)
 case atStart => exact ⟨0, a, b, 0, by omega, rfl, rfl, rfl, rfl, ha, hb, by omega, rfl⟩
 case round =>
  obtain ⟨k, A, B, P, hk, rfl, rfl, rfl, rfl, hA, hB, hP, hg⟩ := hrel
  have HG : Hid _ := hg
  clear hg
  by_cases hlt : k < 8
  ·go_wp2
   go_round
   case rel =>
    refine ⟨k + 1, xt A, B / 2, (if B % 2 = 1 then P ^^^ A else P), by omega, by go_num, ?_, ?_, ?_, xt_lt A hA, by omega, ?_, ?_⟩
    ·rw [stepA A hA]
    ·go_num
    ·rw [stepP P A B hP hA hB]
    ·split
     ·exact Nat.xor_lt_two_pow (n := 8) hP hA
     ·exact hP
    ·rw [← HG.out, show 8 - k = (8 - (k + 1)) + 1 by omega, gmS]
   case measure => simp [intOf]; omega
  ·go_wp2
   go_ret
   have e : k = 8 := by omega
   subst e
   exact ⟨by rw [← HG.out]; rfl, rfl⟩
set_option maxHeartbeats 400000 in
theorem plus_any (a b : Nat) (w : World) (ha : a < 256) (hb : b < 256) :
  Calls Tryz.prog 384 #[.int .u8 a, .int .u8 b] w fun e w' => e = .returned (.int .u8 ((a ^^^ b : Nat) : Int)) ∧ w' = w := by
 have e := u8_xor_nat a b ha hb
 have E : Hid _ := e
 clear e
 go_enter Tryz.func384, Tryz.ntmps384
 go_wp2
 go_ret
 rw [E.out]
 exact ⟨rfl, rfl⟩
set_option maxHeartbeats 400000 in
theorem minus_any (a b : Nat) (w : World) (ha : a < 256) (hb : b < 256) :
  Calls Tryz.prog 381 #[.int .u8 a, .int .u8 b] w fun e w' => e = .returned (.int .u8 ((a ^^^ b : Nat) : Int)) ∧ w' = w := by
 have e := u8_xor_nat a b ha hb
 have E : Hid _ := e
 clear e
 go_enter Tryz.func381, Tryz.ntmps381
 go_wp2
 go_ret
 rw [E.out]
 exact ⟨rfl, rfl⟩
theorem one_any (a : Int) (w : World) : Calls Tryz.prog 382 #[.int .u8 a] w fun e w' => e = .returned (.int .u8 1) ∧ w' = w := by
 go_enter Tryz.func382, Tryz.ntmps382
 go_wp2
 go_ret
 exact ⟨rfl, rfl⟩
set_option maxHeartbeats 400000 in
theorem inverse_any (a : Nat) (w : World) (ha : a < 256) :
  Calls Tryz.prog 386 #[.int .u8 a] w fun e w' => e = .returned (.int .u8 ((gi a : Nat) : Int)) ∧ w' = w := by
 go_enter Tryz.func386, Tryz.ntmps386
 go_wp2
 go_loop [6, 3, 4] (fun i x y => ∃ k A R : Nat, k ≤ 7 ∧ i = .int .i64 k ∧ x = .int .u8 A ∧ y = .int .u8 R ∧ A < 256 ∧ R < 256 ∧ giS (7 - k) A R = gi a) (fun i _ _ => 7 - (intOf i).toNat)
 case atStart => exact ⟨0, a, 1, by omega, rfl, rfl, rfl, ha, by omega, rfl⟩
 case round =>
  obtain ⟨k, A, R, hk, rfl, rfl, rfl, hA, hR, hg⟩ := hrel
  have HG : Hid _ := hg
  have hAA := gm_lt A A hA
  clear hg
  by_cases hlt : k < 7
  ·go_wp2_with fail
   refine (times_any A A _ hA hA).mono ?_
   rintro e w' ⟨rfl, rfl⟩
   go_wp2_with fail
   refine (times_any R (gm A A) _ hR hAA).mono ?_
   rintro e w' ⟨rfl, rfl⟩
   go_wp2
   go_round
   case rel => exact ⟨k + 1, gm A A, gm R (gm A A), by omega, by go_num, rfl, rfl, hAA, gm_lt R _ hR, by rw [← HG.out, show 7 - k = (7 - (k + 1)) + 1 by omega, giS]⟩
   case measure => simp [intOf]; omega
  ·go_wp2
   go_ret
   have e : k = 7 := by omega
   subst e
   exact ⟨by rw [← HG.out]; rfl, rfl⟩
set_option maxHeartbeats 400000 in
theorem over_any (a b : Nat) (w : World) (ha : a < 256) (hb : b < 256) :
  Calls Tryz.prog 383 #[.int .u8 a, .int .u8 b] w fun e w' => e = .returned (.int .u8 ((gm a (gi b) : Nat) : Int)) ∧ w' = w := by
 have hgb := gi_lt b hb
 go_enter Tryz.func383, Tryz.ntmps383
 go_wp2_with fail
 refine (inverse_any b _ hb).mono ?_
 rintro e w' ⟨rfl, rfl⟩
 go_wp2_with fail
 refine (times_any a (gi b) _ ha hgb).mono ?_
 rintro e w' ⟨rfl, rfl⟩
 go_wp2
 go_ret
 exact ⟨rfl, rfl⟩
def rowV (n : Nat) (f : Nat → Value) : Array Value := Array.ofFn (n := n) fun i => f i.val
def updV (f : Nat → Value) (k : Nat) (v : Value) : Nat → Value := fun j => if j = k then v else f j
theorem rowV_size (n : Nat) (f : Nat → Value) : (rowV n f).size = n := by simp [rowV]
theorem rowV_get (n : Nat) (f : Nat → Value) (k : Nat) (h : k < n) : (rowV n f)[k]? = some (f k) := by simp [rowV, h]
theorem rowV_none (n : Nat) (f : Nat → Value) (k : Nat) (h : ¬ k < n) : (rowV n f)[k]? = none := by simp [rowV, h]
theorem rowV_set (n : Nat) (f : Nat → Value) (k : Nat) (v : Value) : (rowV n f).setIfInBounds k v = rowV n (updV f k v) := by
 apply Array.ext_getElem?
 intro i
 rw [Array.getElem?_setIfInBounds, rowV_size]
 by_cases hi : i < n
 ·rw [rowV_get n f i hi, rowV_get n _ i hi]
  by_cases h : k = i
  ·subst h; simp [hi, updV]
  ·simp [h, updV, Ne.symm h]
 ·rw [rowV_none n f i hi, rowV_none n _ i hi]
  by_cases h : k = i
  ·subst h; simp [hi]
  ·simp [h]
theorem rowV_congr (n : Nat) (f g : Nat → Value) (h : ∀ j, j < n → f j = g j) : rowV n f = rowV n g := by
 apply Array.ext_getElem?
 intro i
 by_cases hi : i < n
 ·rw [rowV_get n f i hi, rowV_get n g i hi, h i hi]
 ·rw [rowV_none n f i hi, rowV_none n g i hi]
theorem made_row (z : Value) (n : Nat) : madeCells #[z] n = rowV n (fun _ => z) := by
 apply Array.ext_getElem?
 intro i
 by_cases hi : i < n
 ·rw [rowV_get n _ i hi]; simp [madeCells, hi, Nat.mod_one]
 ·rw [rowV_none n _ i hi]; simp [madeCells, hi]
def Rw (w : World) (g n : Nat) (t : TypeId) (f : Nat → Value) : Prop := w.heap[g]? = some (.cells (rowV n f) t (0, 0))
theorem Rw.cell {w : World} {g n : Nat} {t : TypeId} {f : Nat → Value} (h : Rw w g n t f) (k : Nat) (hk : k < n) : w.cell? ⟨g, k, none⟩ = some (f k) := by
 rw [cell_of_row w g k _ t _ h, rowV_get n f k hk]
theorem Rw.free {w : World} {g n : Nat} {t : TypeId} {f : Nat → Value} (h : Rw w g n t f) (k : Nat) : w.frozen? ⟨g, k, none⟩ = false := frozen_of_row w g k _ t h
theorem Rw.put {w : World} {g n : Nat} {t : TypeId} {f : Nat → Value} (h : Rw w g n t f) (k : Nat) (v : Value) : Rw (w.setCell ⟨g, k, none⟩ v) g n t (updV f k v) := by
 have := heap_setCell_same w g k _ t v h
 rwa [rowV_set] at this
theorem Rw.drew {w : World} {g n : Nat} {t : TypeId} {f : Nat → Value} (h : Rw w g n t f) : Rw w.drew g n t f := h
theorem Rw.drewN {w : World} {g n : Nat} {t : TypeId} {f : Nat → Value} (h : Rw w g n t f) (m : Nat) : Rw (w.drewN m) g n t f := h
theorem Rw.other {w : World} {g n : Nat} {t : TypeId} {f : Nat → Value} (h : Rw w g n t f) (a : Addr) (v : Value) (ha : g ≠ a.block) : Rw (w.setCell a v) g n t f := by
 unfold Rw; rw [heap_setCell_other w a g v ha]; exact h
theorem Rw.lt {w : World} {g n : Nat} {t : TypeId} {f : Nat → Value} (h : Rw w g n t f) : g < w.heap.size := (Array.getElem?_eq_some_iff.1 h).1
theorem Rw.alloc {w : World} {g n : Nat} {t : TypeId} {f : Nat → Value} (h : Rw w g n t f) (o : Obj) : Rw (w.alloc o) g n t f := by
 unfold Rw; rw [Below.heap_alloc w o g h.lt]; exact h
theorem Rw.below {w w' : World} {g n : Nat} {t : TypeId} {f : Nat → Value} (h : Rw w g n t f) {B : Nat} (hb : Below B w w') (hg : g < B) : Rw w' g n t f := by
 unfold Rw; rw [hb.block g hg]; exact h
theorem Rw.to {w : World} {g n : Nat} {t : TypeId} {f h : Nat → Value} (b : Rw w g n t f) (e : ∀ j, j < n → f j = h j) : Rw w g n t h := by
 unfold Rw; rw [← rowV_congr n f h e]; exact b
theorem Rw.made (w : World) (n : Nat) (t : TypeId) (z : Value) : Rw (w.alloc (.cells (madeCells #[z] n) t)) w.heap.size n t (fun _ => z) := by
 unfold Rw; rw [← made_row]; exact heap_alloc_new _ _
def part' (k : Nat) (v : Nat → Value) (z : Value) : Nat → Value := fun j => if j < k then v j else z
theorem part_0 (v : Nat → Value) (z : Value) (j : Nat) : part' 0 v z j = z := by simp [part']
theorem part_step (k : Nat) (v : Nat → Value) (z : Value) (j : Nat) : updV (part' k v z) k (v k) j = part' (k + 1) v z j := by
 unfold updV part'
 by_cases h : j = k
 ·rw [if_pos h, if_pos (by omega), h]
 ·rw [if_neg h]
  by_cases h2 : j < k
  ·rw [if_pos h2, if_pos (by omega)]
  ·rw [if_neg h2, if_neg (by omega)]
theorem info3 : (Tryz.prog.info? 3).map (fun i => (i.zero, i.size, i.bytes)) = some (some (.int .i64 0), 1, 8) := by kernel_rfl
theorem info56 : (Tryz.prog.info? 393).map (fun i => (i.zero, i.size, i.bytes)) = some (some (.int .u8 0), 1, 1) := by kernel_rfl
theorem info5 : (Tryz.prog.info? 5).map (fun i => (i.zero, i.size, i.bytes)) = some (some (.int .u8 0), 1, 1) := by kernel_rfl
theorem info9 : (Tryz.prog.info? 9).map (fun i => (i.zero, i.size, i.bytes)) = some (some (.string ⟨#[]⟩), 1, 16) := by kernel_rfl
theorem info53 : (Tryz.prog.info? 390).map (fun i => (i.zero, i.size, i.bytes)) = some (some (.slice none 0 0), 1, 24) := by kernel_rfl
def Cl (w : World) (b n : Nat) (v : Nat → Value) : Prop := ∀ i, i < n → w.cell? ⟨b, i, none⟩ = some (v i)
theorem Rw.cl {w : World} {g n : Nat} {t : TypeId} {f : Nat → Value} (h : Rw w g n t f) : Cl w g n f := fun i hi => h.cell i hi
theorem Cl.below {w w' : World} {b n : Nat} {v : Nat → Value} (h : Cl w b n v) {B : Nat} (hb : Below B w w') (hB : b < B) : Cl w' b n v := fun i hi => (hb.cell (p := ⟨b, i, none⟩) hB).trans (h i hi)
def nb (f : Nat → Nat) : Nat → Value := fun i => .int .u8 ((f i : Nat) : Int)
def bN (s : ByteArray) (i : Nat) : Nat := (s.data.toList.getD i 0).toNat
theorem bN_lt (s : ByteArray) (i : Nat) : bN s i < 256 := (s.data.toList.getD i 0).toNat_lt
theorem index_bN (s : ByteArray) (i : Nat) (h : i < s.size) (W : World) : (Instr.index 9 (.string s) (.int .i64 (i : Int))).run Tryz.prog W = .ok (.int .u8 ((bN s i : Nat) : Int)) W := by
 rw [run_index_string W 9 s .i64 i Tryz.underlying9, dif_pos ⟨by omega, by omega⟩]
 have hs : i < s.data.toList.length := h
 have e : bN s i = (s[i]'h).toNat := by
  unfold bN
  rw [List.getD_eq_getElem?_getD, List.getElem?_eq_getElem hs]
  rfl
 rw [e]
 rfl
set_option maxHeartbeats 400000 in
theorem row_any (s : ByteArray) (w : World) (hs : s.size ≤ 140737488351232) :
  Calls Tryz.prog 270 #[.string s] w fun e w' => e = .returned (.slice (some ⟨w.heap.size, 0, none⟩) s.size s.size) ∧ Rw w' w.heap.size s.size 393 (nb (bN s)) ∧ Below w.heap.size w w' := by
 have hmk := run_make_row' (P := Tryz.prog) 390 393 (.int .u8 0) 1 Tryz.underlying390 info56 rfl .i64 .i64 s.size (by omega) (by omega)
 go_enter Tryz.func270, Tryz.ntmps270
 go_wp2
 go_loopw [10] (fun i wr => ∃ k : Nat, k ≤ s.size ∧ i = .int .i64 k ∧ Below w.heap.size w wr ∧ Rw wr w.heap.size s.size 393 (part' k (nb (bN s)) (.int .u8 0))) (fun i _ => s.size - (intOf i).toNat)
 case atStart => exact ⟨0, by omega, rfl, (Below.refl _ _).alloc (Nat.le_refl _) _, (Rw.made w s.size 393 (.int .u8 0)).to (fun j _ => (part_0 _ _ j).symm)⟩
 case round =>
  obtain ⟨k, hk, rfl, hb, hR⟩ := hrel
  by_cases hlt : k < s.size
  ·have c1 := hR.cell k hlt
   have c2 := hR.free k
   have hix := index_bN s k hlt
   go_wp2
   go_roundw
   case rel => exact ⟨k + 1, by omega, by go_num, hb.setCell (Nat.le_refl _) _, (hR.put k _).to (fun j _ => by rw [← part_step]; rfl)⟩
   case measure => simp [intOf]; omega
  ·have e : k = s.size := by omega
   subst e
   go_wp2
   go_ret
   exact ⟨rfl, hR.to (fun j hj => by simp [part', hj]), hb⟩
def pI (p : Nat → Nat) : Nat → Value := fun i => .int .i64 ((p i : Nat) : Int)
set_option maxHeartbeats 400000 in
theorem numbers_any (p : Nat → Nat) (b n cap : Nat) (w : World) (hn : n ≤ 1000) (hp : ∀ i, i < n → p i < 256) (hb0 : b < w.heap.size) (hc : Cl w b n (pI p)) :
  Calls Tryz.prog 272 #[.slice (some ⟨b, 0, none⟩) n cap] w fun e w' => e = .returned (.slice (some ⟨w.heap.size, 0, none⟩) n n) ∧ Rw w' w.heap.size n 393 (nb p) ∧ Below w.heap.size w w' := by
 have HC : Hid _ := hc
 have HP : Hid _ := hp
 clear hc hp
 have hmk := run_make_row' (P := Tryz.prog) 390 393 (.int .u8 0) 1 Tryz.underlying390 info56 rfl .i64 .i64 n (by omega) (by omega)
 go_enter Tryz.func272, Tryz.ntmps272
 go_wp2
 go_loopw [11] (fun i wr => ∃ k : Nat, k ≤ n ∧ i = .int .i64 k ∧ Below w.heap.size w wr ∧ Rw wr w.heap.size n 393 (part' k (nb p) (.int .u8 0))) (fun i _ => n - (intOf i).toNat)
 case atStart => exact ⟨0, by omega, rfl, (Below.refl _ _).alloc (Nat.le_refl _) _, (Rw.made w n 393 (.int .u8 0)).to (fun j _ => (part_0 _ _ j).symm)⟩
 case round =>
  obtain ⟨k, hk, rfl, hb, hR⟩ := hrel
  by_cases hlt : k < n
  ·have c1 := hR.cell k hlt
   have c2 := hR.free k
   have c3 : wr.cell? ⟨b, k, none⟩ = some (.int .i64 ((p k : Nat) : Int)) := Cl.below HC.out hb hb0 k hlt
   have hpk : (p k : Int) < 256 := by have := HP.out k hlt; omega
   have hmod : ((p k : Int) % 256) = (p k : Int) := by omega
   go_wp2
   go_roundw
   case rel => exact ⟨k + 1, by omega, by go_num, hb.setCell (Nat.le_refl _) _, (hR.put k _).to (fun j _ => by rw [← part_step]; rfl)⟩
   case measure => simp [intOf]; omega
  ·have e : k = n := by omega
   subst e
   go_wp2
   go_ret
   exact ⟨rfl, hR.to (fun j hj => by simp [part', hj]), hb⟩
set_option maxHeartbeats 400000 in
theorem numbers_nil (w : World) :
  Calls Tryz.prog 272 #[.slice none 0 0] w fun e w' => e = .returned (.slice (some ⟨w.heap.size, 0, none⟩) 0 0) ∧ Rw w' w.heap.size 0 393 (nb fun _ => 0) ∧ Below w.heap.size w w' := by
 have hmk : ∀ w : World, (Instr.makeSlice 390 (.int .i64 0) (.int .i64 0)).run Tryz.prog w = .ok (.slice (some ⟨w.heap.size, 0, none⟩) 0 0) (w.alloc (.cells (madeCells #[.int .u8 0] 0) 393)) := run_make_row' (P := Tryz.prog) 390 393 (.int .u8 0) 1 Tryz.underlying390 info56 rfl .i64 .i64 0 (by omega) (by omega)
 go_enter Tryz.func272, Tryz.ntmps272
 go_wp2
 refine wp_loop_rounds 1 ?_
 rw [rounds_succ]
 go_wp2
 go_ret
 exact ⟨rfl, Rw.made w 0 393 (.int .u8 0), (Below.refl _ _).alloc (Nat.le_refl _) _⟩
def txtN (n : Nat) (f : Nat → Nat) : ByteArray := strOfNums ((List.range n).map fun i => ((f i : Nat) : Int))
set_option maxHeartbeats 400000 in
theorem text_any (f : Nat → Nat) (b n cap : Nat) (w : World) (hn : n ≤ 140737488351232) (hb0 : b < w.heap.size) (hc : Cl w b n (nb f)) :
  Calls Tryz.prog 274 #[.slice (some ⟨b, 0, none⟩) n cap] w fun e w' => e = .returned (.string (txtN n f)) ∧ Below w.heap.size w w' := by
 have HC : Hid _ := hc
 clear hc
 have hmk := run_make_row' (P := Tryz.prog) 165 5 (.int .u8 0) 1 Tryz.underlying165 info5 rfl .i64 .i64 n (by omega) (by omega)
 go_enter Tryz.func274, Tryz.ntmps274
 go_wp2
 go_loopw [11] (fun i wr => ∃ k : Nat, k ≤ n ∧ i = .int .i64 k ∧ Below w.heap.size w wr ∧ Rw wr w.heap.size n 5 (part' k (nb f) (.int .u8 0))) (fun i _ => n - (intOf i).toNat)
 case atStart => exact ⟨0, by omega, rfl, (Below.refl _ _).alloc (Nat.le_refl _) _, (Rw.made w n 5 (.int .u8 0)).to (fun j _ => (part_0 _ _ j).symm)⟩
 case round =>
  obtain ⟨k, hk, rfl, hb, hR⟩ := hrel
  by_cases hlt : k < n
  ·have c1 := hR.cell k hlt
   have c2 := hR.free k
   have c3 : wr.cell? ⟨b, k, none⟩ = some (.int .u8 ((f k : Nat) : Int)) := Cl.below HC.out hb hb0 k hlt
   go_wp2
   go_roundw
   case rel => exact ⟨k + 1, by omega, by go_num, hb.setCell (Nat.le_refl _) _, (hR.put k _).to (fun j _ => by rw [← part_step]; rfl)⟩
   case measure => simp [intOf]; omega
  ·have e : k = n := by omega
   subst e
   have hcv := run_convert_bytes_arg (P := Tryz.prog) wr 165 5 Tryz.underlying165 Tryz.underlying5 w.heap.size 0 k k ((List.range k).map fun i => ((f i : Nat) : Int)) (by simp) (fun i hi => by
    rw [Nat.zero_add, hR.cell i hi]
    simp [part', hi, nb]) 9 Tryz.underlying9
   go_wp2
   go_ret
   exact ⟨rfl, hb⟩
theorem m_minus (v : Value) (w : World) : (method 587 393 v "Minus").run Tryz.prog w = .ok (381, v) w := by kernel_rfl
theorem m_times (v : Value) (w : World) : (method 587 393 v "Times").run Tryz.prog w = .ok (385, v) w := by kernel_rfl
theorem m_plus (v : Value) (w : World) : (method 587 393 v "Plus").run Tryz.prog w = .ok (384, v) w := by kernel_rfl
theorem m_one (v : Value) (w : World) : (method 587 393 v "One").run Tryz.prog w = .ok (382, v) w := by kernel_rfl
theorem m_over (v : Value) (w : World) : (method 587 393 v "Over").run Tryz.prog w = .ok (383, v) w := by kernel_rfl
set_option maxHeartbeats 400000 in
theorem differences_any (x : Nat) (p : Nat → Nat) (b n cap : Nat) (w : World) (hx : x < 256) (hn : n ≤ 1000) (hp : ∀ i, i < n → p i < 256) (hb0 : b < w.heap.size) (hc : Cl w b n (nb p)) :
  Calls Tryz.prog 305 #[.int .u8 x, .slice (some ⟨b, 0, none⟩) n cap] w fun e w' => e = .returned (.slice (some ⟨w.heap.size, 0, none⟩) n n) ∧ Rw w' w.heap.size n 393 (nb fun i => x ^^^ p i) ∧ Below w.heap.size w w' := by
 have HC : Hid _ := hc
 have HP : Hid _ := hp
 clear hc hp
 have hmk := run_make_row' (P := Tryz.prog) 390 393 (.int .u8 0) 1 Tryz.underlying390 info56 rfl .i64 .i64 n (by omega) (by omega)
 go_enter Tryz.func305, Tryz.ntmps305
 go_wp2
 go_loopw [13] (fun i wr => ∃ k : Nat, k ≤ n ∧ i = .int .i64 k ∧ Below w.heap.size w wr ∧ Rw wr w.heap.size n 393 (part' k (nb fun i => x ^^^ p i) (.int .u8 0))) (fun i _ => n - (intOf i).toNat)
 case atStart => exact ⟨0, by omega, rfl, (Below.refl _ _).alloc (Nat.le_refl _) _, (Rw.made w n 393 (.int .u8 0)).to (fun j _ => (part_0 _ _ j).symm)⟩
 case round =>
  obtain ⟨k, hk, rfl, hb, hR⟩ := hrel
  by_cases hlt : k < n
  ·have c1 := hR.cell k hlt
   have c2 := hR.free k
   have c3 : wr.cell? ⟨b, k, none⟩ = some (.int .u8 ((p k : Nat) : Int)) := Cl.below HC.out hb hb0 k hlt
   have hpk := HP.out k hlt
   have hm := m_minus
   go_wp2_with (go_at_call 381; refine (minus_any x (p k) _ hx hpk).mono ?_; rintro e w' ⟨rfl, rfl⟩)
   go_roundw
   case rel => exact ⟨k + 1, by omega, by go_num, hb.setCell (Nat.le_refl _) _, (hR.put k _).to (fun j _ => by rw [← part_step]; rfl)⟩
   case measure => simp [intOf]; omega
  ·have e : k = n := by omega
   subst e
   go_wp2
   go_ret
   exact ⟨rfl, hR.to (fun j hj => by simp [part', hj]), hb⟩
def ahd (f : Nat → Nat) : Nat → Nat
 | 0 => 1
 | k + 1 => gm (ahd f k) (f k)
def bhd (f : Nat → Nat) (n : Nat) : Nat → Nat
 | 0 => 1
 | c + 1 => gm (bhd f n c) (f (n - 1 - c))
def oth (f : Nat → Nat) (n j : Nat) : Nat := gm (ahd f j) (bhd f n (n - 1 - j))
theorem ahd_lt (f : Nat → Nat) : ∀ k, ahd f k < 256
 | 0 => by show 1 < 256; omega
 | k + 1 => gm_lt _ _ (ahd_lt f k)
theorem bhd_lt (f : Nat → Nat) (n : Nat) : ∀ k, bhd f n k < 256
 | 0 => by show 1 < 256; omega
 | k + 1 => gm_lt _ _ (bhd_lt f n k)
def mid (f : Nat → Nat) (n c : Nat) : Nat → Value := fun j => .int .u8 (((if n - c ≤ j then oth f n j else ahd f j) : Nat) : Int)
theorem mid_step (f : Nat → Nat) (n c : Nat) (hc : c < n) (j : Nat) (hj : j < n) : updV (mid f n c) (n - 1 - c) (.int .u8 ((gm (ahd f (n - 1 - c)) (bhd f n c) : Nat) : Int)) j = mid f n (c + 1) j := by
 simp only [updV, mid]
 by_cases h : j = n - 1 - c
 ·rw [if_pos h, if_pos (by omega)]
  unfold oth
  rw [h, show n - 1 - (n - 1 - c) = c by omega]
 ·rw [if_neg h]
  by_cases h2 : n - c ≤ j
  ·rw [if_pos h2, if_pos (by omega)]
  ·rw [if_neg h2, if_neg (by omega)]
set_option maxHeartbeats 1000000 in
theorem others_any (f : Nat → Nat) (b n cap : Nat) (w : World) (hn : n ≤ 1000) (hf : ∀ i, i < n → f i < 256) (hb0 : b < w.heap.size) (hc : Cl w b n (nb f)) :
  Calls Tryz.prog 304 #[.slice (some ⟨b, 0, none⟩) n cap] w fun e w' => e = .returned (.slice (some ⟨w.heap.size, 0, none⟩) n n) ∧ Rw w' w.heap.size n 393 (nb (oth f n)) ∧ Below w.heap.size w w' := by
 have HC : Hid _ := hc
 have HP : Hid _ := hf
 clear hc hf
 have hmk := run_make_row' (P := Tryz.prog) 390 393 (.int .u8 0) 1 Tryz.underlying390 info56 rfl .i64 .i64 n (by omega) (by omega)
 have hm1 := m_one
 have hm2 := m_times
 go_enter Tryz.func304, Tryz.ntmps304
 go_wp2_with (go_at_call 382; refine (one_any _ _).mono ?_; rintro e w' ⟨rfl, rfl⟩)
 go_loopw [18, 5] (fun i v wr => ∃ k : Nat, k ≤ n ∧ i = .int .i64 k ∧ v = .int .u8 ((ahd f k : Nat) : Int) ∧ Below w.heap.size w wr ∧ Rw wr w.heap.size n 393 (part' k (nb (ahd f)) (.int .u8 0))) (fun i _ _ => n - (intOf i).toNat)
 case atStart => exact ⟨0, by omega, rfl, rfl, (Below.refl _ _).alloc (Nat.le_refl _) _, (Rw.made w n 393 (.int .u8 0)).to (fun j _ => (part_0 _ _ j).symm)⟩
 case round =>
  obtain ⟨k, hk, rfl, rfl, hb, hR⟩ := hrel
  by_cases hlt : k < n
  ·have c1 := hR.cell k hlt
   have c2 := hR.free k
   have c3 : wr.cell? ⟨b, k, none⟩ = some (.int .u8 ((f k : Nat) : Int)) := Cl.below HC.out hb hb0 k hlt
   have hpk := HP.out k hlt
   have hak := ahd_lt f k
   go_wp2_with (go_at_call 385; refine (times_any (ahd f k) (f k) _ hak hpk).mono ?_; rintro e w' ⟨rfl, rfl⟩)
   go_roundw
   case rel => exact ⟨k + 1, by omega, by go_num, rfl, hb.setCell (Nat.le_refl _) _, (hR.put k _).to (fun j _ => by rw [← part_step]; rfl)⟩
   case measure => simp [intOf]; omega
  ·have e : k = n := by omega
   subst e
   have hR' : Rw wr w.heap.size k 393 (mid f k 0) := hR.to (fun j hj => by simp only [part', mid, nb]; rw [if_pos hj, if_neg (by omega)])
   clear hR
   go_wp2_with (go_at_call 382; refine (one_any _ _).mono ?_; rintro e w' ⟨rfl, rfl⟩)
   go_loopw [9, 8] (fun i v wr => ∃ c : Nat, c ≤ k ∧ i = .int .i64 ((k : Int) - 1 - c) ∧ v = .int .u8 ((bhd f k c : Nat) : Int) ∧ Below w.heap.size w wr ∧ Rw wr w.heap.size k 393 (mid f k c)) (fun i _ _ => (intOf i + 1).toNat)
   case atStart => exact ⟨0, by omega, by go_num, rfl, hb, hR'⟩
   case round =>
    clear hb hR'
    obtain ⟨c, hc, rfl, rfl, hb, hR⟩ := hrel
    by_cases hlt : c < k
    ·obtain ⟨i, hi⟩ : ∃ i : Nat, i = k - 1 - c := ⟨_, rfl⟩
     have hii : ((k : Int) - 1 - c) = (i : Int) := by omega
     rw [hii]
     have hik : i < k := by omega
     have HI : Hid (i = k - 1 - c) := hi
     have HII : Hid (((k : Int) - 1 - c) = (i : Int)) := hii
     clear hi hii
     have c1 : wr.cell? ⟨w.heap.size, i, none⟩ = some (.int .u8 ((ahd f i : Nat) : Int)) := by
      rw [hR.cell i hik]
      simp only [mid]
      rw [if_neg (by have := HI.out; omega)]
     have c2 := hR.free i
     have c3 : wr.cell? ⟨b, i, none⟩ = some (.int .u8 ((f i : Nat) : Int)) := Cl.below HC.out hb hb0 i hik
     have hpk := HP.out i hik
     have hai := ahd_lt f i
     have hbc := bhd_lt f k c
     go_wp2_with fail
     refine (times_any (ahd f i) (bhd f k c) _ hai hbc).mono ?_
     rintro e w' ⟨rfl, rfl⟩
     have c4 : (w'.setCell ⟨w.heap.size, i, none⟩ (.int .u8 ((gm (ahd f i) (bhd f k c) : Nat) : Int))).cell? ⟨b, i, none⟩ = some (.int .u8 ((f i : Nat) : Int)) := Cl.below HC.out (hb.setCell (Nat.le_refl _) _) hb0 i hik
     go_wp2_with fail
     refine (times_any (bhd f k c) (f i) _ hbc hpk).mono ?_
     rintro e w'' ⟨rfl, rfl⟩
     go_wp2
     go_roundw
     case rel => exact ⟨c + 1, by omega, by have := HII.out; go_num, by show Value.int .u8 _ = Value.int .u8 ((gm (bhd f k c) (f (k - 1 - c)) : Nat) : Int); rw [← HI.out], hb.setCell (Nat.le_refl _) _, (hR.put i _).to (fun j hj => by rw [← mid_step f k c hlt j hj, ← HI.out])⟩
     case measure => have := HII.out; simp [intOf]
    ·have e : c = k := by omega
     subst e
     go_wp2
     go_ret
     exact ⟨rfl, hR.to (fun j hj => by simp only [mid, nb]; rw [if_pos (by omega)]), hb⟩
end Go.Proofs.YtadinjaocnlglaaGreatDoor
