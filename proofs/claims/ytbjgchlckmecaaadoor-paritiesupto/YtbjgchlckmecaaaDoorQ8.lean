/-
  Plain: what Restore gives is Lagrange's sum at every place; the places that has.
-/
import Derived.Test.YtbjgchlckmecaaaDoorS16
namespace Go.Proofs.YtbjgchlckmecaaaDoor
open Go.RowKit
set_option maxRecDepth 100000
/-- all places that has, among the first i -/
def hsL (h : Nat → Bool) : Nat → List Nat
  | 0 => []
  | i + 1 => if h i = true then hsL h i ++ [i] else hsL h i
theorem hsL_len (h : Nat → Bool) : ∀ i, (hsL h i).length ≤ i
  | 0 => by simp [hsL]
  | i + 1 => by
    rw [hsL]
    have := hsL_len h i
    split
    · simp; omega
    · omega
theorem hsL_mem (h : Nat → Bool) : ∀ n x, x ∈ hsL h n → x < n ∧ h x = true
  | 0, x, hx => by simp [hsL] at hx
  | n + 1, x, hx => by
    rw [hsL] at hx
    split at hx
    · rename_i e
      rcases List.mem_append.1 hx with hx | hx
      · have := hsL_mem h n x hx; exact ⟨by omega, this.2⟩
      · simp at hx; subst hx; exact ⟨by omega, e⟩
    · have := hsL_mem h n x hx; exact ⟨by omega, this.2⟩
theorem hsL_in (h : Nat → Bool) : ∀ n x, x < n → h x = true → x ∈ hsL h n
  | 0, x, hx, _ => by omega
  | n + 1, x, hx, e => by
    rw [hsL]
    by_cases hxn : x = n
    · subst hxn; rw [if_pos e]; simp
    · have := hsL_in h n x (by omega) e
      split
      · exact List.mem_append.2 (.inl this)
      · exact this
theorem knL_take (h : Nat → Bool) (k : Nat) : ∀ n, knL h k n = (hsL h n).take k
  | 0 => by simp [knL, hsL]
  | n + 1 => by
    have ih := knL_take h k n
    rw [knL, hsL]
    by_cases e : h n = true
    · rw [if_pos e]
      by_cases l : (hsL h n).length < k
      · rw [if_pos ⟨e, by rw [ih, List.length_take]; omega⟩, ih, List.take_of_length_le (by omega), List.take_of_length_le (by simp; omega)]
      · rw [if_neg (fun hc => by have := hc.2; rw [ih, List.length_take] at this; omega), ih, List.take_append_of_le_length (by omega)]
    · rw [if_neg e, if_neg (fun hc => e hc.1), ih]
theorem gt_take (l : List Nat) (k i : Nat) (hi : i < k) : gt (l.take k) i = gt l i := by
  unfold gt
  rw [List.getD_eq_getElem?_getD, List.getD_eq_getElem?_getD, List.getElem?_take, if_pos hi]
/-- the text at the point x -/
def resT (B : Nat → ByteArray) (p : Nat → Nat) (k c x : Nat) : ByteArray := txtN c fun l => sm (wt p k x) (fun i l => bN (B (p i)) l) l k
theorem resT_at (B : Nat → ByteArray) (p : Nat → Nat) (k c j : Nat) (hj : j < k) (hB : ∀ i, i < k → (B (p i)).size = c) (hp : ∀ i, i < k → p i < 256) (hd : ∀ i j, i < k → j < k → i ≠ j → p i ≠ p j) : B (p j) = resT B p k c (p j) := by
  apply bN_ext
  · rw [hB j hj]; exact (txtN_size c _).symm
  · intro l hl
    rw [hB j hj] at hl
    refine Eq.trans ?_ (bN_txtN c (fun l => sm (wt p k (p j)) (fun i l => bN (B (p i)) l) l k) l hl (sm_wt_lt _ _ _ _ _ _)).symm
    show bN (B (p j)) l = sm (wt p k (p j)) (fun i l => bN (B (p i)) l) l k
    rw [sm_gf (wt p k (p j)) (fun i l => bN (B (p i)) l) l (GF.wt (fun i => m8 (p i)) k (m8 (p j))) (fun i => m8 (bN (B (p i)) l)) k (fun i hi => (wt_gf p (fun i => m8 (p i)) k (fun a ha => m8_val _ (hp a ha)) (p j) (m8 (p j)) (m8_val _ (hp j hj)) i hi).symm) (fun i _ => m8_val _ (bN_lt _ _)) k (Nat.le_refl _),
      Fld.sm_at GF (fun i => m8 (p i)) (fun i => m8 (bN (B (p i)) l)) k (fun i j hi hj hne e => hd i j hi hj hne (m8_inj _ _ (hp i hi) (hp j hj) e)) j hj k (Nat.le_refl _), if_pos hj, m8_val _ (bN_lt _ _)]
/-- WHAT RESTORE GIVES IS LAGRANGE'S SUM AT EVERY PLACE -/
theorem filled_ref (B : Nat → ByteArray) (h : Nat → Bool) (k n c : Nat) (hn : n ≤ 255) (hK : (knL h k n).length = k) (hB : ∀ i, i < n → h i = true → (B i).size = c) (x : Nat) (hx : x < n) :
    filled B (gt (knL h k n)) (gt (wnL h k n)) k (wnL h k n).length c x = .string (resT B (gt (knL h k n)) k c x) := by
  have hin : ∀ i, i < k → gt (knL h k n) i < n ∧ h (gt (knL h k n) i) = true := fun i hi => knL_mem h k n _ (gt_mem (knL h k n) i (by rw [hK]; exact hi))
  have hlt : ∀ i, i < k → gt (knL h k n) i < 256 := fun i hi => by have := hin i hi; omega
  have hne : ∀ i j, i < k → j < k → i ≠ j → gt (knL h k n) i ≠ gt (knL h k n) j := fun i j hi hj e => by
    rcases Nat.lt_or_gt_of_ne e with e | e
    · have := gt_lt _ (knL_lt h k n) i j e (by rw [hK]; exact hj); omega
    · have := gt_lt _ (knL_lt h k n) j i e (by rw [hK]; exact hi); omega
  have hkn : ∀ j, j < k → B (gt (knL h k n) j) = resT B (gt (knL h k n)) k c (gt (knL h k n) j) := fun j hj => resT_at B _ k c j hj (fun i hi => hB _ (hin i hi).1 (hin i hi).2) hlt hne
  unfold filled
  refine puts_hit _ _ _ (fun x => .string (resT B (gt (knL h k n)) k c x)) x _ (fun j hj => rfl) ?_
  rcases cover h k x n hx with h1 | h1
  · right
    refine puts_hit _ _ _ (fun x => .string (resT B (gt (knL h k n)) k c x)) x _ (fun j hj => congrArg Value.string (hkn j hj)) (.inl ?_)
    obtain ⟨j, hj, e⟩ := gt_of_mem _ _ h1
    exact ⟨j, by rw [hK] at hj; exact hj, e⟩
  · left; exact gt_of_mem _ _ h1
end Go.Proofs.YtbjgchlckmecaaaDoor
