/-
  Plain: what Restore puts together is the whole stripe, wherever k places are told as known.
-/
import Derived.Test.YtbjgchlckmecaaaDoorS15
namespace Go.Proofs.YtbjgchlckmecaaaDoor
open Go.RowKit
set_option maxRecDepth 100000
theorem puts_hit (z : Nat → Value) (idx : Nat → Nat) (val T : Nat → Value) (x : Nat) : ∀ m, (∀ j, j < m → val j = T (idx j)) → ((∃ j, j < m ∧ idx j = x) ∨ z x = T x) → puts z idx val m x = T x
  | 0, _, h => by
    rcases h with ⟨j, hj, _⟩ | h
    · omega
    · exact h
  | m + 1, hv, h => by
    rw [puts, updV]
    by_cases e : x = idx m
    · rw [if_pos e, hv m (by omega), e]
    · rw [if_neg e]
      refine puts_hit z idx val T x m (fun j hj => hv j (by omega)) ?_
      rcases h with ⟨j, hj, hx⟩ | h
      · refine .inl ⟨j, ?_, hx⟩
        by_cases e2 : j = m
        · subst e2; exact absurd hx.symm e
        · omega
      · exact .inr h
theorem knL_lt (h : Nat → Bool) (k : Nat) : ∀ n, (knL h k n).Pairwise (· < ·)
  | 0 => by simp [knL]
  | n + 1 => by
    rw [knL]
    split
    · refine List.pairwise_append.2 ⟨knL_lt h k n, by simp, fun a ha b hb => ?_⟩
      simp at hb; rw [hb]; exact (knL_mem h k n a ha).1
    · exact knL_lt h k n
theorem gt_lt (l : List Nat) (hl : l.Pairwise (· < ·)) (i j : Nat) (hij : i < j) (hj : j < l.length) : gt l i < gt l j := by
  unfold gt
  rw [List.getD_eq_getElem?_getD, List.getD_eq_getElem?_getD, List.getElem?_eq_getElem hj, List.getElem?_eq_getElem (by omega : i < l.length)]
  exact List.pairwise_iff_getElem.1 hl i j (by omega) hj hij
theorem gt_of_mem (l : List Nat) (x : Nat) (h : x ∈ l) : ∃ j, j < l.length ∧ gt l j = x := by
  obtain ⟨j, hj, e⟩ := List.mem_iff_getElem.1 h
  refine ⟨j, hj, ?_⟩
  unfold gt
  rw [List.getD_eq_getElem?_getD, List.getElem?_eq_getElem hj]
  exact e
theorem cover (h : Nat → Bool) (k x : Nat) : ∀ n, x < n → x ∈ knL h k n ∨ x ∈ wnL h k n
  | 0, hx => by omega
  | n + 1, hx => by
    rw [knL, wnL]
    by_cases e : x = n
    · subst e
      by_cases hc : h x = true ∧ (knL h k x).length < k
      · rw [if_pos hc]; left; simp
      · rw [if_neg hc, if_neg hc]; right; simp
    · have := cover h k x n (by omega)
      by_cases hc : h n = true ∧ (knL h k n).length < k
      · rw [if_pos hc, if_pos hc]
        rcases this with h1 | h1
        · left; exact List.mem_append.2 (.inl h1)
        · right; exact h1
      · rw [if_neg hc, if_neg hc]
        rcases this with h1 | h1
        · left; exact h1
        · right; exact List.mem_append.2 (.inl h1)
/-- how many places below n are told -/
def cnt (h : Nat → Bool) : Nat → Nat
  | 0 => 0
  | n + 1 => cnt h n + (if h n = true then 1 else 0)
theorem knL_cnt (h : Nat → Bool) (k : Nat) : ∀ n, (knL h k n).length = min k (cnt h n)
  | 0 => by simp [knL, cnt]
  | n + 1 => by
    rw [knL, cnt]
    have := knL_cnt h k n
    by_cases h1 : h n = true
    · rw [if_pos h1]
      by_cases h2 : (knL h k n).length < k
      · rw [if_pos ⟨h1, h2⟩, List.length_append, this]; simp; omega
      · rw [if_neg (fun x => h2 x.2), this]; omega
    · rw [if_neg h1, if_neg (fun x => h1 x.1), this]; omega
def updB (h : Nat → Bool) (x : Nat) (b : Bool) : Nat → Bool := fun j => if j = x then b else h j
theorem cnt_all (n : Nat) : cnt (fun _ => true) n = n := by
  induction n with
  | zero => rfl
  | succ n ih => rw [cnt, ih]; rfl
theorem cnt_same (h g : Nat → Bool) : ∀ n, (∀ j, j < n → h j = g j) → cnt h n = cnt g n
  | 0, _ => rfl
  | n + 1, e => by rw [cnt, cnt, cnt_same h g n (fun j hj => e j (by omega)), e n (by omega)]
theorem cnt_upd (h : Nat → Bool) (x : Nat) : ∀ n, cnt h n ≤ cnt (updB h x false) n + 1
  | 0 => by simp [cnt]
  | n + 1 => by
    rw [cnt, cnt]
    by_cases e : n = x
    · have : cnt (updB h x false) n = cnt h n := cnt_same _ _ n (fun j hj => if_neg (by omega))
      rw [this]; split <;> omega
    · have := cnt_upd h x n
      rw [show updB h x false n = h n from if_neg e]
      omega
theorem cnt_first (h : Nat → Bool) : ∀ n, 0 < cnt h n → ∃ i, i < n ∧ h i = true ∧ ∀ j, j < i → h j = false
  | 0, p => by simp [cnt] at p
  | n + 1, p => by
    rw [cnt] at p
    by_cases q : 0 < cnt h n
    · obtain ⟨i, hi, h1, h2⟩ := cnt_first h n q; exact ⟨i, by omega, h1, h2⟩
    · have hz : cnt h n = 0 := by omega
      have h1 : h n = true := by
        by_cases e : h n = true
        · exact e
        · rw [if_neg e] at p; omega
      refine ⟨n, by omega, h1, fun j hj => ?_⟩
      have aux : ∀ m, j < m → m ≤ n → cnt h m = 0 → h j = false := by
        intro m
        induction m with
        | zero => intro hm; omega
        | succ m ih =>
          intro hm hle hc
          rw [cnt] at hc
          by_cases e : j = m
          · subst e
            by_cases e2 : h j = true
            · rw [if_pos e2] at hc; omega
            · simpa using e2
          · exact ih (by omega) (by omega) (by omega)
      exact aux n hj (Nat.le_refl _) hz
/-- ALL BLOCKS COME BACK -/
theorem filled_all (S B : Nat → ByteArray) (h : Nat → Bool) (k m c : Nat) (hkm : k + m ≤ 255) (hS : ∀ i, i < k → (S i).size = c) (hB : ∀ i, i < k + m → h i = true → B i = allS S k c i) (hK : (knL h k (k + m)).length = k) (x : Nat) (hx : x < k + m) :
    filled B (gt (knL h k (k + m))) (gt (wnL h k (k + m))) k (wnL h k (k + m)).length c x = .string (allS S k c x) := by
  have hkn : ∀ i, i < k → B (gt (knL h k (k + m)) i) = allS S k c (gt (knL h k (k + m)) i) := fun i hi => by
    have := knL_mem h k (k + m) _ (gt_mem (knL h k (k + m)) i (by rw [hK]; exact hi)); exact hB _ this.1 this.2
  have hlt : ∀ i, i < k → gt (knL h k (k + m)) i < 256 := fun i hi => by
    have := knL_mem h k (k + m) _ (gt_mem (knL h k (k + m)) i (by rw [hK]; exact hi)); omega
  have hne : ∀ i j, i < k → j < k → i ≠ j → gt (knL h k (k + m)) i ≠ gt (knL h k (k + m)) j := fun i j hi hj e => by
    rcases Nat.lt_or_gt_of_ne e with e | e
    · have := gt_lt _ (knL_lt h k (k + m)) i j e (by rw [hK]; exact hj); omega
    · have := gt_lt _ (knL_lt h k (k + m)) j i e (by rw [hK]; exact hi); omega
  unfold filled
  refine puts_hit _ _ _ (fun x => .string (allS S k c x)) x _ (fun j hj => ?_) ?_
  · have hq : gt (wnL h k (k + m)) j < 256 := by have := wnL_mem h k (k + m) _ (gt_mem (wnL h k (k + m)) j hj); omega
    exact congrArg Value.string (vl_back S k c (gt (knL h k (k + m))) (gt (wnL h k (k + m))) j _ (by omega) hS hq hlt hne hkn)
  · rcases cover h k x (k + m) hx with h1 | h1
    · right
      refine puts_hit _ _ _ (fun x => .string (allS S k c x)) x _ (fun j hj => congrArg Value.string (hkn j hj)) (.inl ?_)
      obtain ⟨j, hj, e⟩ := gt_of_mem _ _ h1
      exact ⟨j, by rw [hK] at hj; exact hj, e⟩
    · left; exact gt_of_mem _ _ h1
end Go.Proofs.YtbjgchlckmecaaaDoor
