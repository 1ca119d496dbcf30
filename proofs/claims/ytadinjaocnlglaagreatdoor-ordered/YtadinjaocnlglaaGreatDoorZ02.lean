/-
  Plain mathematics, of no program: the field of 256 numbers (x to the 8 is 29).
-/
import Derived.Test.YtadinjaocnlglaaGreatDoorZ01
namespace Go.Proofs.YtadinjaocnlglaaGreatDoor

/-- times x -/
def xt (a : Nat) : Nat := (2 * a % 256) ^^^ (if 128 ≤ a then 29 else 0)
/-- n more bits of b -/
def gmS : Nat → Nat → Nat → Nat → Nat
  | 0, _, _, p => p
  | n + 1, a, b, p => gmS n (xt a) (b / 2) (if b % 2 = 1 then p ^^^ a else p)
/-- the product -/
def gm (a b : Nat) : Nat := gmS 8 a b 0
def allB (n : Nat) (f : Nat → Bool) : Bool := Nat.rec true (fun k r => f k && r) n
theorem allB_at (f : Nat → Bool) : ∀ n, allB n f = true → ∀ k, k < n → f k = true
  | 0, _, k, h => by omega
  | n + 1, h, k, hk => by
    have h' : (f n && allB n f) = true := h
    rw [Bool.and_eq_true] at h'
    by_cases e : k = n
    · rw [e]; exact h'.1
    · exact allB_at f n h'.2 k (by omega)
set_option maxRecDepth 100000
theorem xt_lt : ∀ a, a < 256 → xt a < 256 := by
  intro a h
  unfold xt
  refine Nat.xor_lt_two_pow (n := 8) (by omega) ?_
  split <;> decide
theorem xt_xorB : allB 256 (fun a => allB 256 fun b => xt (a ^^^ b) == (xt a ^^^ xt b)) = true := by decide +kernel
theorem xt_xor (a b : Nat) (ha : a < 256) (hb : b < 256) : xt (a ^^^ b) = xt a ^^^ xt b := by
  have := allB_at _ 256 (allB_at _ 256 xt_xorB a ha) b hb
  simpa using this
theorem gmS_lt : ∀ n a b p, a < 256 → p < 256 → gmS n a b p < 256
  | 0, _, _, _, _, hp => hp
  | n + 1, a, b, p, ha, hp => by
    rw [gmS]
    refine gmS_lt n _ _ _ (xt_lt a ha) ?_
    split
    · exact Nat.xor_lt_two_pow (n := 8) hp ha
    · exact hp
theorem gm_lt (a b : Nat) (ha : a < 256) : gm a b < 256 := gmS_lt 8 a b 0 ha (by omega)
theorem gmS_xor : ∀ n a1 a2 b p1 p2, a1 < 256 → a2 < 256 → gmS n (a1 ^^^ a2) b (p1 ^^^ p2) = gmS n a1 b p1 ^^^ gmS n a2 b p2
  | 0, _, _, _, _, _, _, _ => rfl
  | n + 1, a1, a2, b, p1, p2, h1, h2 => by
    rw [gmS, gmS, gmS, xt_xor a1 a2 h1 h2]
    have e : (if b % 2 = 1 then p1 ^^^ p2 ^^^ (a1 ^^^ a2) else p1 ^^^ p2) = (if b % 2 = 1 then p1 ^^^ a1 else p1) ^^^ (if b % 2 = 1 then p2 ^^^ a2 else p2) := by
      by_cases hb : b % 2 = 1
      · rw [if_pos hb, if_pos hb, if_pos hb]
        rw [Nat.xor_assoc, Nat.xor_assoc, ← Nat.xor_assoc p2 a1 a2, Nat.xor_comm p2 a1, Nat.xor_assoc a1 p2 a2]
      · rw [if_neg hb, if_neg hb, if_neg hb]
    rw [e]
    exact gmS_xor n _ _ _ _ _ (xt_lt a1 h1) (xt_lt a2 h2)
theorem gm_xor (a1 a2 b : Nat) (h1 : a1 < 256) (h2 : a2 < 256) : gm (a1 ^^^ a2) b = gm a1 b ^^^ gm a2 b := gmS_xor 8 a1 a2 b 0 0 h1 h2
theorem gm_xtB : allB 256 (fun a => allB 256 fun b => gm a (xt b) == xt (gm a b)) = true := by decide +kernel
theorem gm_xt (a b : Nat) (ha : a < 256) (hb : b < 256) : gm a (xt b) = xt (gm a b) := by
  have := allB_at _ 256 (allB_at _ 256 gm_xtB a ha) b hb
  simpa using this
theorem gm_oneB : allB 256 (fun a => gm a 1 == a && gm 1 a == a && gm a 0 == 0 && gm 0 a == 0) = true := by decide +kernel
theorem gm_ones (a : Nat) (ha : a < 256) : gm a 1 = a ∧ gm 1 a = a ∧ gm a 0 = 0 ∧ gm 0 a = 0 := by
  have := allB_at _ 256 gm_oneB a ha
  simp only [Bool.and_eq_true, beq_iff_eq] at this
  exact ⟨this.1.1.1, this.1.1.2, this.1.2, this.2⟩
/-- the powers of x -/
def pw : Nat → Nat
  | 0 => 1
  | n + 1 => xt (pw n)
theorem pw_lt : ∀ n, pw n < 256
  | 0 => by decide
  | n + 1 => xt_lt _ (pw_lt n)
theorem gm_pw (a n : Nat) (ha : a < 256) : ∀ m, a = pw n → gm a (pw m) = pw (n + m)
  | 0, h => by rw [pw, (gm_ones a ha).1, h, Nat.add_zero]
  | m + 1, h => by rw [pw, gm_xt a (pw m) ha (pw_lt m), gm_pw a n ha m h]; rfl
theorem gm_pws (n m : Nat) : gm (pw n) (pw m) = pw (n + m) := gm_pw (pw n) n (pw_lt n) m rfl
/-- the first n powers -/
def pws : Nat → Nat → List Nat
  | 0, _ => []
  | n + 1, a => a :: pws n (xt a)
theorem pws_mem : ∀ n k a, a ∈ pws n (pw k) → ∃ i, a = pw i
  | 0, _, _, h => by simp [pws] at h
  | n + 1, k, a, h => by
    rcases List.mem_cons.1 h with rfl | h
    · exact ⟨k, rfl⟩
    · exact pws_mem n (k + 1) a h
theorem logB : allB 256 (fun a => a == 0 || (pws 255 1).contains a) = true := by decide +kernel
theorem logs (a : Nat) (ha : a < 256) (h0 : a ≠ 0) : ∃ i, a = pw i := by
  have := allB_at _ 256 logB a ha
  simp only [Bool.or_eq_true, beq_iff_eq, h0, false_or] at this
  have hm : a ∈ pws 255 1 := by simpa using this
  exact pws_mem 255 0 a hm
theorem pw_ne : ∀ n, pw n ≠ 0 := by
  intro n
  induction n with
  | zero => decide
  | succ n ih =>
    rw [pw]
    have h : allB 256 (fun a => a == 0 || xt a != 0) = true := by decide +kernel
    have := allB_at _ 256 h (pw n) (pw_lt n)
    simp only [Bool.or_eq_true, beq_iff_eq, ih, false_or, bne_iff_ne] at this
    exact this
theorem gm_comm (a b : Nat) (ha : a < 256) (hb : b < 256) : gm a b = gm b a := by
  by_cases h1 : a = 0
  · rw [h1, (gm_ones b hb).2.2.2, (gm_ones b hb).2.2.1]
  by_cases h2 : b = 0
  · rw [h2, (gm_ones a ha).2.2.2, (gm_ones a ha).2.2.1]
  obtain ⟨i, rfl⟩ := logs a ha h1
  obtain ⟨j, rfl⟩ := logs b hb h2
  rw [gm_pws, gm_pws, Nat.add_comm]
theorem gm_assoc (a b c : Nat) (ha : a < 256) (hb : b < 256) (hc : c < 256) : gm (gm a b) c = gm a (gm b c) := by
  by_cases h1 : a = 0
  · rw [h1, (gm_ones b hb).2.2.2, (gm_ones c hc).2.2.2, (gm_ones _ (gm_lt b c hb)).2.2.2]
  by_cases h2 : b = 0
  · rw [h2, (gm_ones a ha).2.2.1, (gm_ones c hc).2.2.2, (gm_ones a ha).2.2.1]
  by_cases h3 : c = 0
  · rw [h3, (gm_ones _ (gm_lt a b ha)).2.2.1, (gm_ones b hb).2.2.1, (gm_ones a ha).2.2.1]
  obtain ⟨i, rfl⟩ := logs a ha h1
  obtain ⟨j, rfl⟩ := logs b hb h2
  obtain ⟨k, rfl⟩ := logs c hc h3
  rw [gm_pws, gm_pws, gm_pws, gm_pws, Nat.add_assoc]
/-- n squarings: the power 2 + 4 + .. -/
def giS : Nat → Nat → Nat → Nat
  | 0, _, r => r
  | n + 1, p, r => giS n (gm p p) (gm r (gm p p))
/-- the power 254 -/
def gi (a : Nat) : Nat := giS 7 a 1
theorem gi_B : allB 256 (fun a => decide (gi a < 256) && (a == 0 || gm a (gi a) == 1)) = true := by decide +kernel
theorem gi_lt (a : Nat) (ha : a < 256) : gi a < 256 := by
  have := allB_at _ 256 gi_B a ha
  simp only [Bool.and_eq_true, decide_eq_true_eq] at this
  exact this.1
theorem gm_gi (a : Nat) (ha : a < 256) (h0 : a ≠ 0) : gm a (gi a) = 1 := by
  have := allB_at _ 256 gi_B a ha
  simp only [Bool.and_eq_true, Bool.or_eq_true, beq_iff_eq, h0, false_or] at this
  exact this.2

/-- the numbers -/
def N8 : Type := { n : Nat // n < 256 }
def n8 (n : Nat) (h : n < 256) : N8 := ⟨n, h⟩
/-- the field -/
def GF : Fld N8 where
  add a b := ⟨a.1 ^^^ b.1, Nat.xor_lt_two_pow (n := 8) a.2 b.2⟩
  mul a b := ⟨gm a.1 b.1, gm_lt a.1 b.1 a.2⟩
  zero := ⟨0, by omega⟩
  one := ⟨1, by omega⟩
  inv a := ⟨gi a.1, gi_lt a.1 a.2⟩
  add_comm a b := Subtype.ext (Nat.xor_comm a.1 b.1)
  add_assoc a b c := Subtype.ext (Nat.xor_assoc a.1 b.1 c.1)
  zero_add a := Subtype.ext (Nat.zero_xor a.1)
  add_self a := Subtype.ext (Nat.xor_self a.1)
  mul_comm a b := Subtype.ext (gm_comm a.1 b.1 a.2 b.2)
  mul_assoc a b c := Subtype.ext (gm_assoc a.1 b.1 c.1 a.2 b.2 c.2)
  one_mul a := Subtype.ext (gm_ones a.1 a.2).2.1
  add_mul a b c := Subtype.ext (gm_xor a.1 b.1 c.1 a.2 b.2)
  mul_inv a h := Subtype.ext (gm_gi a.1 a.2 (fun e => h (Subtype.ext e)))
  one_ne h := by have := congrArg Subtype.val h; exact absurd this (by decide)
end Go.Proofs.YtadinjaocnlglaaGreatDoor
