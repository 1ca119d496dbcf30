/-
  Plain: trees over texts: the greatest power of two below n, the top, the path, the climb.
-/
namespace Go.Proofs.YtnghgdficnkbbaaDoor
/-- the greatest power of two below n (n above 1) -/
def hf (n : Nat) : Nat := 2 ^ Nat.log2 (n - 1)
theorem hf_pos (n : Nat) : 0 < hf n := Nat.two_pow_pos _
theorem hf_lt (n : Nat) (h : 2 ≤ n) : hf n < n := by
  have := Nat.log2_self_le (n := n - 1) (by omega)
  unfold hf; omega
theorem hf_le (n : Nat) (h : 2 ≤ n) : n ≤ 2 * hf n := by
  have := Nat.lt_log2_self (n := n - 1)
  unfold hf; rw [Nat.pow_succ] at this; omega
theorem hf_one (k n : Nat) (h1 : 2 ^ k < n) (h2 : n ≤ 2 * 2 ^ k) : 2 ^ k = hf n := by
  unfold hf
  have h0 : n - 1 ≠ 0 := by have := Nat.two_pow_pos k; omega
  rw [(Nat.log2_eq_iff (k := k) h0).2 ⟨by omega, by rw [Nat.pow_succ]; omega⟩]
def jn (D : ByteArray → ByteArray) (a b : ByteArray) : ByteArray := D (⟨#[1]⟩ ++ a ++ b)
def topT (D : ByteArray → ByteArray) (n : Nat) (L : Nat → ByteArray) : ByteArray :=
  if _h : n < 2 then (if n = 0 then D ⟨#[]⟩ else L 0)
  else
    have _h1 : hf n < n := hf_lt n (by omega)
    have _h2 : 0 < hf n := hf_pos n
    jn D (topT D (hf n) L) (topT D (n - hf n) (fun j => L (hf n + j)))
theorem topT_0 (D : ByteArray → ByteArray) (L : Nat → ByteArray) : topT D 0 L = D ⟨#[]⟩ := by rw [topT]; rfl
theorem topT_1 (D : ByteArray → ByteArray) (L : Nat → ByteArray) : topT D 1 L = L 0 := by rw [topT]; rfl
theorem topT_n (D : ByteArray → ByteArray) (n : Nat) (L : Nat → ByteArray) (h : 2 ≤ n) : topT D n L = jn D (topT D (hf n) L) (topT D (n - hf n) (fun j => L (hf n + j))) := by
  rw [topT, dif_neg (by omega)]
def pathT (D : ByteArray → ByteArray) (n : Nat) (L : Nat → ByteArray) (i : Nat) : List ByteArray :=
  if _h : n < 2 then []
  else
    have _h1 : hf n < n := hf_lt n (by omega)
    have _h2 : 0 < hf n := hf_pos n
    if i < hf n then pathT D (hf n) L i ++ [topT D (n - hf n) (fun j => L (hf n + j))]
    else pathT D (n - hf n) (fun j => L (hf n + j)) (i - hf n) ++ [topT D (hf n) L]
theorem pathT_1 (D : ByteArray → ByteArray) (n : Nat) (L : Nat → ByteArray) (i : Nat) (h : n < 2) : pathT D n L i = [] := by rw [pathT, dif_pos h]
theorem pathT_lo (D : ByteArray → ByteArray) (n : Nat) (L : Nat → ByteArray) (i : Nat) (h : 2 ≤ n) (hi : i < hf n) : pathT D n L i = pathT D (hf n) L i ++ [topT D (n - hf n) (fun j => L (hf n + j))] := by
  rw [pathT, dif_neg (by omega), if_pos hi]
theorem pathT_hi (D : ByteArray → ByteArray) (n : Nat) (L : Nat → ByteArray) (i : Nat) (h : 2 ≤ n) (hi : ¬ i < hf n) : pathT D n L i = pathT D (n - hf n) (fun j => L (hf n + j)) (i - hf n) ++ [topT D (hf n) L] := by
  rw [pathT, dif_neg (by omega), if_neg hi]
def sidesT (n i : Nat) : List Bool :=
  if _h : n < 2 then []
  else
    have _h1 : hf n < n := hf_lt n (by omega)
    have _h2 : 0 < hf n := hf_pos n
    if i < hf n then sidesT (hf n) i ++ [false]
    else sidesT (n - hf n) (i - hf n) ++ [true]
theorem sidesT_1 (n i : Nat) (h : n < 2) : sidesT n i = [] := by rw [sidesT, dif_pos h]
theorem sidesT_lo (n i : Nat) (h : 2 ≤ n) (hi : i < hf n) : sidesT n i = sidesT (hf n) i ++ [false] := by
  rw [sidesT, dif_neg (by omega), if_pos hi]
theorem sidesT_hi (n i : Nat) (h : 2 ≤ n) (hi : ¬ i < hf n) : sidesT n i = sidesT (n - hf n) (i - hf n) ++ [true] := by
  rw [sidesT, dif_neg (by omega), if_neg hi]
theorem path_len (D : ByteArray → ByteArray) : ∀ (m n : Nat) (L : Nat → ByteArray) (i : Nat), n ≤ m → (pathT D n L i).length = (sidesT n i).length
  | 0, n, L, i, h => by rw [pathT_1 D n L i (by omega), sidesT_1 n i (by omega)]; rfl
  | m + 1, n, L, i, h => by
    by_cases h2 : n < 2
    · rw [pathT_1 D n L i h2, sidesT_1 n i h2]; rfl
    · have h3 := hf_lt n (by omega)
      have h4 := hf_pos n
      by_cases hi : i < hf n
      · rw [pathT_lo D n L i (by omega) hi, sidesT_lo n i (by omega) hi, List.length_append, List.length_append, path_len D m (hf n) L i (by omega)]; rfl
      · rw [pathT_hi D n L i (by omega) hi, sidesT_hi n i (by omega) hi, List.length_append, List.length_append, path_len D m (n - hf n) _ _ (by omega)]; rfl
def jnS (D : ByteArray → ByteArray) (a : ByteArray) (x : Bool × ByteArray) : ByteArray := if x.1 then jn D x.2 a else jn D a x.2
def climbT (D : ByteArray → ByteArray) (leaf : ByteArray) (s : List Bool) (p : List ByteArray) : ByteArray := (s.zip p).foldl (jnS D) leaf
theorem climb_nil (D : ByteArray → ByteArray) (leaf : ByteArray) (p : List ByteArray) : climbT D leaf [] p = leaf := rfl
theorem climb_snoc (D : ByteArray → ByteArray) (leaf : ByteArray) (s : List Bool) (p : List ByteArray) (b : Bool) (x : ByteArray) (h : s.length = p.length) : climbT D leaf (s ++ [b]) (p ++ [x]) = jnS D (climbT D leaf s p) (b, x) := by
  unfold climbT
  rw [List.zip_append h, List.foldl_append]; rfl
theorem climb_top (D : ByteArray → ByteArray) : ∀ (m n : Nat) (L : Nat → ByteArray) (i : Nat), n ≤ m → i < n → climbT D (L i) (sidesT n i) (pathT D n L i) = topT D n L
  | 0, n, L, i, h, hi => by omega
  | m + 1, n, L, i, h, hi => by
    by_cases h2 : n < 2
    · obtain rfl : n = 1 := by omega
      obtain rfl : i = 0 := by omega
      rw [sidesT_1 1 0 (by omega), climb_nil, topT_1]
    · have h3 := hf_lt n (by omega)
      have h4 := hf_pos n
      rw [topT_n D n L (by omega)]
      by_cases hh : i < hf n
      · rw [pathT_lo D n L i (by omega) hh, sidesT_lo n i (by omega) hh, climb_snoc _ _ _ _ _ _ (path_len D m _ _ _ (by omega)).symm, climb_top D m (hf n) L i (by omega) hh]; rfl
      · have e := climb_top D m (n - hf n) (fun j => L (hf n + j)) (i - hf n) (by omega) (by omega)
        simp only [show hf n + (i - hf n) = i by omega] at e
        rw [pathT_hi D n L i (by omega) hh, sidesT_hi n i (by omega) hh, climb_snoc _ _ _ _ _ _ (path_len D m _ _ _ (by omega)).symm, e]; rfl
/-- two leaves that one path leads to one top: on the way there are two texts with one digest -/
theorem climb_two (D : ByteArray → ByteArray) (a b : ByteArray) (s : List Bool) (p : List ByteArray) (x : Bool) (l : ByteArray) (h : s.length = p.length) (e : climbT D a (s ++ [x]) (p ++ [l]) = climbT D b (s ++ [x]) (p ++ [l])) :
    climbT D a s p = climbT D b s p ∨ (climbT D a s p ≠ climbT D b s p ∧ jnS D (climbT D a s p) (x, l) = jnS D (climbT D b s p) (x, l)) := by
  rw [climb_snoc _ _ _ _ _ _ h, climb_snoc _ _ _ _ _ _ h] at e
  by_cases q : climbT D a s p = climbT D b s p
  · exact Or.inl q
  · exact Or.inr ⟨q, e⟩
theorem topT_size (D : ByteArray → ByteArray) (k : Nat) (hD : ∀ s, (D s).size = k) : ∀ (n : Nat) (L : Nat → ByteArray), (∀ i, i < n → (L i).size = k) → (topT D n L).size = k := by
  intro n L h
  by_cases h0 : n = 0
  · rw [h0, topT_0]; exact hD _
  · by_cases h1 : n = 1
    · rw [h1, topT_1]; exact h 0 (by omega)
    · rw [topT_n D n L (by omega)]; exact hD _
theorem topT_le (D : ByteArray → ByteArray) (k : Nat) (hD : ∀ s, (D s).size ≤ k) (n : Nat) (L : Nat → ByteArray) (h : ∀ i, i < n → (L i).size ≤ k) : (topT D n L).size ≤ k := by
  by_cases h0 : n = 0
  · rw [h0, topT_0]; exact hD _
  · by_cases h1 : n = 1
    · rw [h1, topT_1]; exact h 0 (by omega)
    · rw [topT_n D n L (by omega)]; exact hD _
theorem pathT_le (D : ByteArray → ByteArray) (k : Nat) (hD : ∀ s, (D s).size ≤ k) : ∀ (m n : Nat) (L : Nat → ByteArray) (i : Nat), n ≤ m → (∀ i, i < n → (L i).size ≤ k) → ∀ x ∈ pathT D n L i, x.size ≤ k
  | 0, n, L, i, h, hL => by rw [pathT_1 D n L i (by omega)]; intro x hx; cases hx
  | m + 1, n, L, i, h, hL => by
    by_cases h2 : n < 2
    · rw [pathT_1 D n L i h2]; intro x hx; cases hx
    · have h3 := hf_lt n (by omega)
      have h4 := hf_pos n
      intro x hx
      by_cases hi : i < hf n
      · rw [pathT_lo D n L i (by omega) hi, List.mem_append, List.mem_singleton] at hx
        rcases hx with hx | rfl
        · exact pathT_le D k hD m (hf n) L i (by omega) (fun j hj => hL j (by omega)) x hx
        · exact topT_le D k hD _ _ (fun j hj => hL _ (by omega))
      · rw [pathT_hi D n L i (by omega) hi, List.mem_append, List.mem_singleton] at hx
        rcases hx with hx | rfl
        · exact pathT_le D k hD m (n - hf n) _ _ (by omega) (fun j hj => hL _ (by omega)) x hx
        · exact topT_le D k hD _ _ (fun j hj => hL _ (by omega))
theorem topT_congr (D : ByteArray → ByteArray) : ∀ (m n : Nat) (L M : Nat → ByteArray), n ≤ m → (∀ i, i < n → L i = M i) → topT D n L = topT D n M
  | 0, n, L, M, h, e => by obtain rfl : n = 0 := by omega
                           rw [topT_0, topT_0]
  | m + 1, n, L, M, h, e => by
    by_cases h0 : n = 0
    · rw [h0, topT_0, topT_0]
    · by_cases h1 : n = 1
      · rw [h1, topT_1, topT_1]; exact e 0 (by omega)
      · have h3 := hf_lt n (by omega)
        have h4 := hf_pos n
        rw [topT_n D n L (by omega), topT_n D n M (by omega), topT_congr D m (hf n) L M (by omega) (fun i hi => e i (by omega)), topT_congr D m (n - hf n) (fun j => L (hf n + j)) (fun j => M (hf n + j)) (by omega) (fun i hi => e _ (by omega))]
theorem sides_lt (k : Nat) : ∀ (n i : Nat), n ≤ 2 ^ k → (sidesT n i).length ≤ k := by
  induction k with
  | zero => intro n i h; rw [sidesT_1 n i (by simpa using Nat.lt_of_le_of_lt h (by decide))]; exact Nat.le_refl _
  | succ k ih =>
    intro n i h
    by_cases h2 : n < 2
    · rw [sidesT_1 n i h2]; exact Nat.zero_le _
    · have h3 := hf_lt n (by omega)
      have h5 : hf n ≤ 2 ^ k := by
        unfold hf
        refine Nat.pow_le_pow_right (by omega) ?_
        have := (Nat.log2_lt (n := n - 1) (k := k + 1) (by omega)).2 (by omega)
        omega
      have h4 := hf_le n (by omega)
      by_cases hi : i < hf n
      · rw [sidesT_lo n i (by omega) hi, List.length_append]; have := ih (hf n) i h5; simp; omega
      · rw [sidesT_hi n i (by omega) hi, List.length_append]; have := ih (n - hf n) (i - hf n) (by omega); simp; omega
end Go.Proofs.YtnghgdficnkbbaaDoor
