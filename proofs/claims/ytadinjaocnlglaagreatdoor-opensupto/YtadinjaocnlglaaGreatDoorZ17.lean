/-
  Plain mathematics, of no program: Lagrange's sum, by the products that the program makes.
-/
import Derived.Test.YtadinjaocnlglaaGreatDoorZ01
namespace Go.Proofs.YtadinjaocnlglaaGreatDoor
namespace Fld
variable {F : Type} (K : Fld F)

def ahd (f : Nat → F) : Nat → F
  | 0 => K.one
  | k + 1 => K.mul (ahd f k) (f k)
def bhd (f : Nat → F) (n : Nat) : Nat → F
  | 0 => K.one
  | c + 1 => K.mul (bhd f n c) (f (n - 1 - c))
def oth (f : Nat → F) (n j : Nat) : F := K.mul (K.ahd f j) (K.bhd f n (n - 1 - j))
def hgt (p : Nat → F) (i : Nat) : Nat → F
  | 0 => K.one
  | k + 1 => if k = i then hgt p i k else K.mul (hgt p i k) (K.add (p i) (p k))
def scl (p : Nat → F) (n i : Nat) : F := K.mul K.one (K.inv (K.hgt p i n))
def wt (p : Nat → F) (n : Nat) (x : F) (j : Nat) : F := K.mul (K.oth (fun l => K.add x (p l)) n j) (K.scl p n j)
def sm (u y : Nat → F) : Nat → F
  | 0 => K.zero
  | k + 1 => K.add (sm u y k) (K.mul (u k) (y k))

theorem ahd_poly (p : Nat → F) : ∀ j, K.Poly (j + 1) (fun x => K.ahd (fun l => K.add x (p l)) j)
  | 0 => Poly.const K K.one
  | j + 1 => Poly.lin K (p j) (ahd_poly p j)
theorem oth_poly' (p : Nat → F) (n j : Nat) : ∀ c, K.Poly (j + 1 + c) (fun x => K.mul (K.ahd (fun l => K.add x (p l)) j) (K.bhd (fun l => K.add x (p l)) n c))
  | 0 => Poly.congr K (ahd_poly K p j) (fun x => by show K.mul _ K.one = _; rw [K.mul_one])
  | c + 1 => Poly.congr K (Poly.lin K (p (n - 1 - c)) (oth_poly' p n j c)) (fun x => by show K.mul _ (K.mul _ _) = _; rw [← K.mul_assoc])
theorem oth_poly (p : Nat → F) (n j : Nat) (hj : j < n) : K.Poly n (fun x => K.oth (fun l => K.add x (p l)) n j) := by
  have := oth_poly' K p n j (n - 1 - j)
  rwa [show j + 1 + (n - 1 - j) = n by omega] at this
theorem wt_poly (p : Nat → F) (n j : Nat) (hj : j < n) : K.Poly n (fun x => K.wt p n x j) :=
  Poly.congr K (Poly.smul K (K.scl p n j) (oth_poly K p n j hj)) (fun x => by show K.mul _ _ = _; rw [K.mul_comm])
theorem sm_poly (p y : Nat → F) (n : Nat) : ∀ k, k ≤ n → K.Poly n (fun x => K.sm (K.wt p n x) y k)
  | 0, _ => Poly.zero K n
  | k + 1, h => Poly.add K (sm_poly p y n k (by omega)) (Poly.congr K (Poly.smul K (y k) (wt_poly K p n k (by omega))) (fun x => by show K.mul _ _ = _; rw [K.mul_comm]))
theorem ahd_zero (f : Nat → F) (m : Nat) (hm : f m = K.zero) : ∀ j, m < j → K.ahd f j = K.zero
  | j + 1, h => by
    rw [ahd]
    by_cases e : m = j
    · rw [← e, hm, K.mul_zero]
    · rw [ahd_zero f m hm j (by omega), K.zero_mul]
theorem bhd_zero (f : Nat → F) (n m : Nat) (hmn : m < n) (hm : f m = K.zero) : ∀ c, n - 1 - m < c → K.bhd f n c = K.zero
  | c + 1, h => by
    rw [bhd]
    by_cases e : m = n - 1 - c
    · rw [← e, hm, K.mul_zero]
    · rw [bhd_zero f n m hmn hm c (by omega), K.zero_mul]
theorem oth_zero (f : Nat → F) (n j m : Nat) (hj : j < n) (hmn : m < n) (hne : m ≠ j) (hm : f m = K.zero) : K.oth f n j = K.zero := by
  unfold oth
  by_cases h : m < j
  · rw [ahd_zero K f m hm j h, K.zero_mul]
  · rw [bhd_zero K f n m hmn hm (n - 1 - j) (by omega), K.mul_zero]
theorem bhd_front (d : Nat → F) (n : Nat) : ∀ c, c ≤ n → K.bhd d (n + 1) (c + 1) = K.mul (d n) (K.bhd d n c)
  | 0, _ => by show K.mul K.one (d (n + 1 - 1 - 0)) = K.mul (d n) K.one; rw [K.one_mul, K.mul_one]; rfl
  | c + 1, h => by
    have ih := bhd_front d n c (by omega)
    show K.mul (K.bhd d (n + 1) (c + 1)) (d (n + 1 - 1 - (c + 1))) = K.mul (d n) (K.mul (K.bhd d n c) (d (n - 1 - c)))
    rw [ih, K.mul_assoc, show n + 1 - 1 - (c + 1) = n - 1 - c by omega]
theorem hgt_lo (p : Nat → F) (i : Nat) : ∀ k, k ≤ i → K.hgt p i k = K.ahd (fun l => K.add (p i) (p l)) k
  | 0, _ => rfl
  | k + 1, h => by rw [hgt, if_neg (by omega), hgt_lo p i k (by omega)]; rfl
theorem hgt_hi (p : Nat → F) (i : Nat) : ∀ t, K.hgt p i (i + 1 + t) = K.mul (K.ahd (fun l => K.add (p i) (p l)) i) (K.bhd (fun l => K.add (p i) (p l)) (i + 1 + t) t)
  | 0 => by
    show K.hgt p i (i + 1) = K.mul _ K.one
    rw [hgt, if_pos rfl, hgt_lo K p i i (by omega), K.mul_one]
  | t + 1 => by
    rw [show i + 1 + (t + 1) = (i + 1 + t) + 1 by omega, hgt, if_neg (by omega), hgt_hi p i t, bhd_front K _ (i + 1 + t) t (by omega)]
    rw [K.mul_assoc, K.mul_comm (K.bhd _ _ t)]
theorem hgt_oth (p : Nat → F) (n i : Nat) (hi : i < n) : K.hgt p i n = K.oth (fun l => K.add (p i) (p l)) n i := by
  have := hgt_hi K p i (n - 1 - i)
  rwa [show i + 1 + (n - 1 - i) = n by omega] at this
theorem hgt_ne (p : Nat → F) (i : Nat) : ∀ n, (∀ k, k < n → k ≠ i → p i ≠ p k) → K.hgt p i n ≠ K.zero
  | 0, _ => K.one_ne
  | n + 1, h => by
    rw [hgt]
    by_cases e : n = i
    · rw [if_pos e]; exact hgt_ne p i n (fun k hk => h k (by omega))
    · rw [if_neg e]
      exact K.mul_ne _ _ (hgt_ne p i n (fun k hk => h k (by omega))) (fun z => h n (by omega) e (K.eq_of_add _ _ z))
theorem wt_at (p : Nat → F) (n : Nat) (hd : ∀ i j, i < n → j < n → i ≠ j → p i ≠ p j) (m j : Nat) (hm : m < n) (hj : j < n) : K.wt p n (p m) j = if m = j then K.one else K.zero := by
  unfold wt
  by_cases e : m = j
  · subst e
    rw [if_pos rfl, ← hgt_oth K p n m hm]
    unfold scl
    rw [K.one_mul]
    exact K.mul_inv _ (hgt_ne K p m n (fun k hk hne => hd m k hm hk (fun e => hne e.symm)))
  · rw [if_neg e, oth_zero K _ n j m hj hm e (K.add_self (p m)), K.zero_mul]
theorem sm_at (p y : Nat → F) (n : Nat) (hd : ∀ i j, i < n → j < n → i ≠ j → p i ≠ p j) (m : Nat) (hm : m < n) : ∀ k, k ≤ n → K.sm (K.wt p n (p m)) y k = if m < k then y m else K.zero
  | 0, _ => rfl
  | k + 1, h => by
    rw [sm, sm_at p y n hd m hm k (by omega), wt_at K p n hd m k hm (by omega)]
    by_cases e : m = k
    · subst e
      rw [if_neg (by omega), if_pos rfl, if_pos (by omega), K.one_mul, K.zero_add]
    · rw [if_neg e, K.zero_mul, K.add_zero]
      by_cases h2 : m < k
      · rw [if_pos h2, if_pos (by omega)]
      · rw [if_neg h2, if_neg (by omega)]
end Fld
end Go.Proofs.YtadinjaocnlglaaGreatDoor
