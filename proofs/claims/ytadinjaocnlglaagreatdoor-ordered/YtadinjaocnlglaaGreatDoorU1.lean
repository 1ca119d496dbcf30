/-
  Plain: trees over texts: the greatest power of two below n, the top, the path, the climb.
  The walks of bits.Len64, bits.Len, tree.leftSize.
-/
import Derived.Test.YtadinjaocnlglaaGreatDoorProg
import Derived.Lib.BitFns
import Derived.WalkKit
import Derived.WalkSpells
import Derived.WalkLawsBesides
namespace Go.Proofs.YtadinjaocnlglaaGreatDoor
/-- the greatest power of two below n (n above 1) -/
def hf (n : Nat) : Nat := 2 ^ Nat.log2 (n - 1)
theorem hf_pos (n : Nat) : 0 < hf n := Nat.two_pow_pos _
theorem hf_lt (n : Nat) (h : 2 ≤ n) : hf n < n := by
  have := Nat.log2_self_le (n := n - 1) (by omega)
  unfold hf; omega
theorem hf_le (n : Nat) (h : 2 ≤ n) : n ≤ 2 * hf n := by
  have := Nat.lt_log2_self (n := n - 1)
  unfold hf; rw [Nat.pow_succ] at this; omega
theorem hf_one (k n : Nat) (h1 : 2 ^ k < n) (h2 : n ≤ 2 * 2 ^ k) : 2 ^ k = hf n := by
  unfold hf
  have h0 : n - 1 ≠ 0 := by have := Nat.two_pow_pos k; omega
  rw [(Nat.log2_eq_iff (k := k) h0).2 ⟨by omega, by rw [Nat.pow_succ]; omega⟩]
def jn (D : ByteArray → ByteArray) (a b : ByteArray) : ByteArray := D (⟨#[1]⟩ ++ a ++ b)
def topT (D : ByteArray → ByteArray) (n : Nat) (L : Nat → ByteArray) : ByteArray :=
  if _h : n < 2 then (if n = 0 then D ⟨#[]⟩ else L 0)
  else
    have _h1 : hf n < n := hf_lt n (by omega)
    have _h2 : 0 < hf n := hf_pos n
    jn D (topT D (hf n) L) (topT D (n - hf n) (fun j => L (hf n + j)))
theorem topT_0 (D : ByteArray → ByteArray) (L : Nat → ByteArray) : topT D 0 L = D ⟨#[]⟩ := by rw [topT]; rfl
theorem topT_1 (D : ByteArray → ByteArray) (L : Nat → ByteArray) : topT D 1 L = L 0 := by rw [topT]; rfl
theorem topT_n (D : ByteArray → ByteArray) (n : Nat) (L : Nat → ByteArray) (h : 2 ≤ n) : topT D n L = jn D (topT D (hf n) L) (topT D (n - hf n) (fun j => L (hf n + j))) := by
  rw [topT, dif_neg (by omega)]
def pathT (D : ByteArray → ByteArray) (n : Nat) (L : Nat → ByteArray) (i : Nat) : List ByteArray :=
  if _h : n < 2 then []
  else
    have _h1 : hf n < n := hf_lt n (by omega)
    have _h2 : 0 < hf n := hf_pos n
    if i < hf n then pathT D (hf n) L i ++ [topT D (n - hf n) (fun j => L (hf n + j))]
    else pathT D (n - hf n) (fun j => L (hf n + j)) (i - hf n) ++ [topT D (hf n) L]
theorem pathT_1 (D : ByteArray → ByteArray) (n : Nat) (L : Nat → ByteArray) (i : Nat) (h : n < 2) : pathT D n L i = [] := by rw [pathT, dif_pos h]
theorem pathT_lo (D : ByteArray → ByteArray) (n : Nat) (L : Nat → ByteArray) (i : Nat) (h : 2 ≤ n) (hi : i < hf n) : pathT D n L i = pathT D (hf n) L i ++ [topT D (n - hf n) (fun j => L (hf n + j))] := by
  rw [pathT, dif_neg (by omega), if_pos hi]
theorem pathT_hi (D : ByteArray → ByteArray) (n : Nat) (L : Nat → ByteArray) (i : Nat) (h : 2 ≤ n) (hi : ¬ i < hf n) : pathT D n L i = pathT D (n - hf n) (fun j => L (hf n + j)) (i - hf n) ++ [topT D (hf n) L] := by
  rw [pathT, dif_neg (by omega), if_neg hi]
def sidesT (n i : Nat) : List Bool :=
  if _h : n < 2 then []
  else
    have _h1 : hf n < n := hf_lt n (by omega)
    have _h2 : 0 < hf n := hf_pos n
    if i < hf n then sidesT (hf n) i ++ [false]
    else sidesT (n - hf n) (i - hf n) ++ [true]
theorem sidesT_1 (n i : Nat) (h : n < 2) : sidesT n i = [] := by rw [sidesT, dif_pos h]
theorem sidesT_lo (n i : Nat) (h : 2 ≤ n) (hi : i < hf n) : sidesT n i = sidesT (hf n) i ++ [false] := by
  rw [sidesT, dif_neg (by omega), if_pos hi]
theorem sidesT_hi (n i : Nat) (h : 2 ≤ n) (hi : ¬ i < hf n) : sidesT n i = sidesT (n - hf n) (i - hf n) ++ [true] := by
  rw [sidesT, dif_neg (by omega), if_neg hi]
theorem path_len (D : ByteArray → ByteArray) : ∀ (m n : Nat) (L : Nat → ByteArray) (i : Nat), n ≤ m → (pathT D n L i).length = (sidesT n i).length
  | 0, n, L, i, h => by rw [pathT_1 D n L i (by omega), sidesT_1 n i (by omega)]; rfl
  | m + 1, n, L, i, h => by
    by_cases h2 : n < 2
    · rw [pathT_1 D n L i h2, sidesT_1 n i h2]; rfl
    · have h3 := hf_lt n (by omega)
      have h4 := hf_pos n
      by_cases hi : i < hf n
      · rw [pathT_lo D n L i (by omega) hi, sidesT_lo n i (by omega) hi, List.length_append, List.length_append, path_len D m (hf n) L i (by omega)]; rfl
      · rw [pathT_hi D n L i (by omega) hi, sidesT_hi n i (by omega) hi, List.length_append, List.length_append, path_len D m (n - hf n) _ _ (by omega)]; rfl
def jnS (D : ByteArray → ByteArray) (a : ByteArray) (x : Bool × ByteArray) : ByteArray := if x.1 then jn D x.2 a else jn D a x.2
def climbT (D : ByteArray → ByteArray) (leaf : ByteArray) (s : List Bool) (p : List ByteArray) : ByteArray := (s.zip p).foldl (jnS D) leaf
theorem climb_nil (D : ByteArray → ByteArray) (leaf : ByteArray) (p : List ByteArray) : climbT D leaf [] p = leaf := rfl
theorem climb_snoc (D : ByteArray → ByteArray) (leaf : ByteArray) (s : List Bool) (p : List ByteArray) (b : Bool) (x : ByteArray) (h : s.length = p.length) : climbT D leaf (s ++ [b]) (p ++ [x]) = jnS D (climbT D leaf s p) (b, x) := by
  unfold climbT
  rw [List.zip_append h, List.foldl_append]; rfl
theorem climb_top (D : ByteArray → ByteArray) : ∀ (m n : Nat) (L : Nat → ByteArray) (i : Nat), n ≤ m → i < n → climbT D (L i) (sidesT n i) (pathT D n L i) = topT D n L
  | 0, n, L, i, h, hi => by omega
  | m + 1, n, L, i, h, hi => by
    by_cases h2 : n < 2
    · obtain rfl : n = 1 := by omega
      obtain rfl : i = 0 := by omega
      rw [sidesT_1 1 0 (by omega), climb_nil, topT_1]
    · have h3 := hf_lt n (by omega)
      have h4 := hf_pos n
      rw [topT_n D n L (by omega)]
      by_cases hh : i < hf n
      · rw [pathT_lo D n L i (by omega) hh, sidesT_lo n i (by omega) hh, climb_snoc _ _ _ _ _ _ (path_len D m _ _ _ (by omega)).symm, climb_top D m (hf n) L i (by omega) hh]; rfl
      · have e := climb_top D m (n - hf n) (fun j => L (hf n + j)) (i - hf n) (by omega) (by omega)
        simp only [show hf n + (i - hf n) = i by omega] at e
        rw [pathT_hi D n L i (by omega) hh, sidesT_hi n i (by omega) hh, climb_snoc _ _ _ _ _ _ (path_len D m _ _ _ (by omega)).symm, e]; rfl
/-- two leaves that one path leads to one top: on the way there are two texts with one digest -/
theorem climb_two (D : ByteArray → ByteArray) (a b : ByteArray) (s : List Bool) (p : List ByteArray) (x : Bool) (l : ByteArray) (h : s.length = p.length) (e : climbT D a (s ++ [x]) (p ++ [l]) = climbT D b (s ++ [x]) (p ++ [l])) :
    climbT D a s p = climbT D b s p ∨ (climbT D a s p ≠ climbT D b s p ∧ jnS D (climbT D a s p) (x, l) = jnS D (climbT D b s p) (x, l)) := by
  rw [climb_snoc _ _ _ _ _ _ h, climb_snoc _ _ _ _ _ _ h] at e
  by_cases q : climbT D a s p = climbT D b s p
  · exact Or.inl q
  · exact Or.inr ⟨q, e⟩
theorem topT_size (D : ByteArray → ByteArray) (k : Nat) (hD : ∀ s, (D s).size = k) : ∀ (n : Nat) (L : Nat → ByteArray), (∀ i, i < n → (L i).size = k) → (topT D n L).size = k := by
  intro n L h
  by_cases h0 : n = 0
  · rw [h0, topT_0]; exact hD _
  · by_cases h1 : n = 1
    · rw [h1, topT_1]; exact h 0 (by omega)
    · rw [topT_n D n L (by omega)]; exact hD _
theorem topT_le (D : ByteArray → ByteArray) (k : Nat) (hD : ∀ s, (D s).size ≤ k) (n : Nat) (L : Nat → ByteArray) (h : ∀ i, i < n → (L i).size ≤ k) : (topT D n L).size ≤ k := by
  by_cases h0 : n = 0
  · rw [h0, topT_0]; exact hD _
  · by_cases h1 : n = 1
    · rw [h1, topT_1]; exact h 0 (by omega)
    · rw [topT_n D n L (by omega)]; exact hD _
theorem pathT_le (D : ByteArray → ByteArray) (k : Nat) (hD : ∀ s, (D s).size ≤ k) : ∀ (m n : Nat) (L : Nat → ByteArray) (i : Nat), n ≤ m → (∀ i, i < n → (L i).size ≤ k) → ∀ x ∈ pathT D n L i, x.size ≤ k
  | 0, n, L, i, h, hL => by rw [pathT_1 D n L i (by omega)]; intro x hx; cases hx
  | m + 1, n, L, i, h, hL => by
    by_cases h2 : n < 2
    · rw [pathT_1 D n L i h2]; intro x hx; cases hx
    · have h3 := hf_lt n (by omega)
      have h4 := hf_pos n
      intro x hx
      by_cases hi : i < hf n
      · rw [pathT_lo D n L i (by omega) hi, List.mem_append, List.mem_singleton] at hx
        rcases hx with hx | rfl
        · exact pathT_le D k hD m (hf n) L i (by omega) (fun j hj => hL j (by omega)) x hx
        · exact topT_le D k hD _ _ (fun j hj => hL _ (by omega))
      · rw [pathT_hi D n L i (by omega) hi, List.mem_append, List.mem_singleton] at hx
        rcases hx with hx | rfl
        · exact pathT_le D k hD m (n - hf n) _ _ (by omega) (fun j hj => hL _ (by omega)) x hx
        · exact topT_le D k hD _ _ (fun j hj => hL _ (by omega))
theorem topT_congr (D : ByteArray → ByteArray) : ∀ (m n : Nat) (L M : Nat → ByteArray), n ≤ m → (∀ i, i < n → L i = M i) → topT D n L = topT D n M
  | 0, n, L, M, h, e => by obtain rfl : n = 0 := by omega
                           rw [topT_0, topT_0]
  | m + 1, n, L, M, h, e => by
    by_cases h0 : n = 0
    · rw [h0, topT_0, topT_0]
    · by_cases h1 : n = 1
      · rw [h1, topT_1, topT_1]; exact e 0 (by omega)
      · have h3 := hf_lt n (by omega)
        have h4 := hf_pos n
        rw [topT_n D n L (by omega), topT_n D n M (by omega), topT_congr D m (hf n) L M (by omega) (fun i hi => e i (by omega)), topT_congr D m (n - hf n) (fun j => L (hf n + j)) (fun j => M (hf n + j)) (by omega) (fun i hi => e _ (by omega))]
theorem sides_lt (k : Nat) : ∀ (n i : Nat), n ≤ 2 ^ k → (sidesT n i).length ≤ k := by
  induction k with
  | zero => intro n i h; rw [sidesT_1 n i (by simpa using Nat.lt_of_le_of_lt h (by decide))]; exact Nat.le_refl _
  | succ k ih =>
    intro n i h
    by_cases h2 : n < 2
    · rw [sidesT_1 n i h2]; exact Nat.zero_le _
    · have h3 := hf_lt n (by omega)
      have h5 : hf n ≤ 2 ^ k := by
        unfold hf
        refine Nat.pow_le_pow_right (by omega) ?_
        have := (Nat.log2_lt (n := n - 1) (k := k + 1) (by omega)).2 (by omega)
        omega
      have h4 := hf_le n (by omega)
      by_cases hi : i < hf n
      · rw [sidesT_lo n i (by omega) hi, List.length_append]; have := ih (hf n) i h5; simp; omega
      · rw [sidesT_hi n i (by omega) hi, List.length_append]; have := ih (n - hf n) (i - hf n) (by omega); simp; omega
end Go.Proofs.YtadinjaocnlglaaGreatDoor
namespace Go.Proofs.YtadinjaocnlglaaGreatDoor
open Go.RowKit
set_option maxRecDepth 100000
theorem fold51 : (⟨(([0, 1, 2, 2, 3, 3, 3, 3, 4, 4, 4, 4, 4, 4, 4, 4, 5, 5, 5, 5, 5, 5, 5, 5, 5, 5, 5, 5, 5, 5, 5, 5, 6, 6, 6, 6, 6, 6, 6, 6, 6, 6, 6, 6, 6, 6, 6, 6, 6, 6, 6, 6, 6, 6, 6, 6, 6, 6, 6, 6, 6, 6, 6, 6].append [7, 7, 7, 7, 7, 7, 7, 7, 7, 7, 7, 7, 7, 7, 7, 7, 7, 7, 7, 7, 7, 7, 7, 7, 7, 7, 7, 7, 7, 7, 7, 7, 7, 7, 7, 7, 7, 7, 7, 7, 7, 7, 7, 7, 7, 7, 7, 7, 7, 7, 7, 7, 7, 7, 7, 7, 7, 7, 7, 7, 7, 7, 7, 7]).append ([8, 8, 8, 8, 8, 8, 8, 8, 8, 8, 8, 8, 8, 8, 8, 8, 8, 8, 8, 8, 8, 8, 8, 8, 8, 8, 8, 8, 8, 8, 8, 8, 8, 8, 8, 8, 8, 8, 8, 8, 8, 8, 8, 8, 8, 8, 8, 8, 8, 8, 8, 8, 8, 8, 8, 8, 8, 8, 8, 8, 8, 8, 8, 8].append [8, 8, 8, 8, 8, 8, 8, 8, 8, 8, 8, 8, 8, 8, 8, 8, 8, 8, 8, 8, 8, 8, 8, 8, 8, 8, 8, 8, 8, 8, 8, 8, 8, 8, 8, 8, 8, 8, 8, 8, 8, 8, 8, 8, 8, 8, 8, 8, 8, 8, 8, 8, 8, 8, 8, 8, 8, 8, 8, 8, 8, 8, 8, 8])).toArray⟩ : ByteArray) = Lib.len8tab := by kernel_rfl
theorem e8 (y k : Nat) (hy : y < 256) (hk : k ≤ 56) : wrap64 ((k : Int) + Lib.len8 (y : Int)) = ((k + Lib.bitLen y : Nat) : Int) := by
  have := Lib.len8_eq ⟨y, hy⟩
  have h8 := Lib.bitLen_le8 ⟨y, hy⟩
  simp only at this h8
  rw [this]
  unfold wrap64
  omega
theorem tabb : ∃ t : ByteArray, Lib.len8tab = t ∧ ∀ (y : Nat) (w : World), y < 256 → (Instr.index 9 (.string t) (.int .u8 (y : Int))).run Tryz.prog w = .ok (.int .u8 (Lib.len8 (y : Int))) w :=
  ⟨_, rfl, fun y w hy => Lib.run_index_len8tab (P := Tryz.prog) (w := w) 9 .u8 (y : Int) Tryz.underlying9 (by omega) (by omega)⟩
set_option maxHeartbeats 2000000 in
theorem len64_0 (x : Nat) (w : World) (hx : x < 256) :
    Calls Tryz.prog 318 #[.int .u64 x] w fun e w' => e = .returned (.int .i64 (Lib.bitLen x)) ∧ w' = w := by
  obtain ⟨y, hy⟩ : ∃ y : Nat, y = x := ⟨_, rfl⟩
  have hy2 : y < 256 := by omega
  have he : (x : Int) = (y : Int) := by omega
  obtain ⟨t, ht, hix⟩ := tabb
  have hi := fun w => hix y w hy2
  have hl : Lib.len8 (y : Int) = ((Lib.bitLen y : Nat) : Int) := Lib.len8_eq ⟨y, hy2⟩
  have h8 : Lib.bitLen y ≤ 8 := Lib.bitLen_le8 ⟨y, hy2⟩
  have hz : Lib.bitLen x = 0 + Lib.bitLen y := by
    rw [hy]
    omega
  have HZ : Hid _ := hz
  rw [hl] at hi
  have f1 : decide ((4294967296 : Int) ≤ (x : Int)) = false := by simp; omega
  have f2 : decide ((65536 : Int) ≤ (x : Int)) = false := by simp; omega
  have f3 : decide ((256 : Int) ≤ (x : Int)) = false := by simp; omega
  clear hix hl hz hx
  subst hy
  clear he
  go_enter Tryz.func318, Tryz.ntmps318
  rw [fold51, ht]
  clear ht
  go_wp2
  go_ret
  rw [HZ.out]
  exact ⟨by simp, rfl⟩
set_option maxHeartbeats 2000000 in
theorem len64_1 (x : Nat) (w : World) (hx : 256 ≤ x ∧ x < 65536) :
    Calls Tryz.prog 318 #[.int .u64 x] w fun e w' => e = .returned (.int .i64 (Lib.bitLen x)) ∧ w' = w := by
  obtain ⟨y, hy⟩ : ∃ y : Nat, y = (x / 256) := ⟨_, rfl⟩
  have hy2 : y < 256 := by omega
  have he : (x : Int) / 256 = (y : Int) := by omega
  obtain ⟨t, ht, hix⟩ := tabb
  have hi := fun w => hix y w hy2
  have hl : Lib.len8 (y : Int) = ((Lib.bitLen y : Nat) : Int) := Lib.len8_eq ⟨y, hy2⟩
  have h8 : Lib.bitLen y ≤ 8 := Lib.bitLen_le8 ⟨y, hy2⟩
  have hz : Lib.bitLen x = 8 + Lib.bitLen y := by
    rw [hy]
    exact Lib.bitLen_shift8 x (by omega) (by omega)
  have HZ : Hid _ := hz
  rw [hl] at hi
  have f1 : decide ((4294967296 : Int) ≤ (x : Int)) = false := by simp; omega
  have f2 : decide ((65536 : Int) ≤ (x : Int)) = false := by simp; omega
  have f3 : decide ((256 : Int) ≤ (x : Int)) = true := by simp; omega
  clear hix hl hz hx hy
  go_enter Tryz.func318, Tryz.ntmps318
  rw [fold51, ht]
  clear ht
  go_wp2
  go_ret
  rw [HZ.out]
  exact ⟨by simp, rfl⟩
set_option maxHeartbeats 2000000 in
theorem len64_2 (x : Nat) (w : World) (hx : 65536 ≤ x ∧ x < 16777216) :
    Calls Tryz.prog 318 #[.int .u64 x] w fun e w' => e = .returned (.int .i64 (Lib.bitLen x)) ∧ w' = w := by
  obtain ⟨y, hy⟩ : ∃ y : Nat, y = (x / 65536) := ⟨_, rfl⟩
  have hy2 : y < 256 := by omega
  have he : (x : Int) / 65536 = (y : Int) := by omega
  obtain ⟨t, ht, hix⟩ := tabb
  have hi := fun w => hix y w hy2
  have hl : Lib.len8 (y : Int) = ((Lib.bitLen y : Nat) : Int) := Lib.len8_eq ⟨y, hy2⟩
  have h8 : Lib.bitLen y ≤ 8 := Lib.bitLen_le8 ⟨y, hy2⟩
  have hz : Lib.bitLen x = 16 + Lib.bitLen y := by
    rw [hy]
    exact Lib.bitLen_shift16 x (by omega) (by omega)
  have HZ : Hid _ := hz
  rw [hl] at hi
  have f1 : decide ((4294967296 : Int) ≤ (x : Int)) = false := by simp; omega
  have f2 : decide ((65536 : Int) ≤ (x : Int)) = true := by simp; omega
  have f3 : decide ((256 : Int) ≤ (x : Int) / 65536) = false := by simp; omega
  clear hix hl hz hx hy
  go_enter Tryz.func318, Tryz.ntmps318
  rw [fold51, ht]
  clear ht
  go_wp2
  go_ret
  rw [HZ.out]
  exact ⟨by simp, rfl⟩
set_option maxHeartbeats 2000000 in
theorem len64_3 (x : Nat) (w : World) (hx : 16777216 ≤ x ∧ x < 4294967296) :
    Calls Tryz.prog 318 #[.int .u64 x] w fun e w' => e = .returned (.int .i64 (Lib.bitLen x)) ∧ w' = w := by
  obtain ⟨y, hy⟩ : ∃ y : Nat, y = ((x / 65536) / 256) := ⟨_, rfl⟩
  have hy2 : y < 256 := by omega
  have he : (x : Int) / 65536 / 256 = (y : Int) := by omega
  obtain ⟨t, ht, hix⟩ := tabb
  have hi := fun w => hix y w hy2
  have hl : Lib.len8 (y : Int) = ((Lib.bitLen y : Nat) : Int) := Lib.len8_eq ⟨y, hy2⟩
  have h8 : Lib.bitLen y ≤ 8 := Lib.bitLen_le8 ⟨y, hy2⟩
  have hz : Lib.bitLen x = 24 + Lib.bitLen y := by
    rw [hy]
    rw [Lib.bitLen_shift16 x (by omega) (by omega), Lib.bitLen_shift8 _ (by omega) (by omega)]; omega
  have HZ : Hid _ := hz
  rw [hl] at hi
  have f1 : decide ((4294967296 : Int) ≤ (x : Int)) = false := by simp; omega
  have f2 : decide ((65536 : Int) ≤ (x : Int)) = true := by simp; omega
  have f3 : decide ((256 : Int) ≤ (x : Int) / 65536) = true := by simp; omega
  clear hix hl hz hx hy
  go_enter Tryz.func318, Tryz.ntmps318
  rw [fold51, ht]
  clear ht
  go_wp2
  go_ret
  rw [HZ.out]
  exact ⟨by simp, rfl⟩
set_option maxHeartbeats 2000000 in
theorem len64_4 (x : Nat) (w : World) (hx : 4294967296 ≤ x ∧ x < 1099511627776) :
    Calls Tryz.prog 318 #[.int .u64 x] w fun e w' => e = .returned (.int .i64 (Lib.bitLen x)) ∧ w' = w := by
  obtain ⟨y, hy⟩ : ∃ y : Nat, y = (x / 4294967296) := ⟨_, rfl⟩
  have hy2 : y < 256 := by omega
  have he : (x : Int) / 4294967296 = (y : Int) := by omega
  obtain ⟨t, ht, hix⟩ := tabb
  have hi := fun w => hix y w hy2
  have hl : Lib.len8 (y : Int) = ((Lib.bitLen y : Nat) : Int) := Lib.len8_eq ⟨y, hy2⟩
  have h8 : Lib.bitLen y ≤ 8 := Lib.bitLen_le8 ⟨y, hy2⟩
  have hz : Lib.bitLen x = 32 + Lib.bitLen y := by
    rw [hy]
    exact Lib.bitLen_shift32 x (by omega) (by omega)
  have HZ : Hid _ := hz
  rw [hl] at hi
  have f1 : decide ((4294967296 : Int) ≤ (x : Int)) = true := by simp; omega
  have f2 : decide ((65536 : Int) ≤ (x : Int) / 4294967296) = false := by simp; omega
  have f3 : decide ((256 : Int) ≤ (x : Int) / 4294967296) = false := by simp; omega
  rw [he] at f2 f3
  clear hix hl hz hx hy
  go_enter Tryz.func318, Tryz.ntmps318
  rw [fold51, ht]
  clear ht
  go_wp2
  go_ret
  rw [HZ.out]
  exact ⟨by simp, rfl⟩
set_option maxHeartbeats 2000000 in
theorem len64_5 (x : Nat) (w : World) (hx : 1099511627776 ≤ x ∧ x < 281474976710656) :
    Calls Tryz.prog 318 #[.int .u64 x] w fun e w' => e = .returned (.int .i64 (Lib.bitLen x)) ∧ w' = w := by
  obtain ⟨y, hy⟩ : ∃ y : Nat, y = ((x / 4294967296) / 256) := ⟨_, rfl⟩
  have hy2 : y < 256 := by omega
  have he : (x : Int) / 4294967296 / 256 = (y : Int) := by omega
  obtain ⟨t, ht, hix⟩ := tabb
  have hi := fun w => hix y w hy2
  have hl : Lib.len8 (y : Int) = ((Lib.bitLen y : Nat) : Int) := Lib.len8_eq ⟨y, hy2⟩
  have h8 : Lib.bitLen y ≤ 8 := Lib.bitLen_le8 ⟨y, hy2⟩
  have hz : Lib.bitLen x = 40 + Lib.bitLen y := by
    rw [hy]
    rw [Lib.bitLen_shift32 x (by omega) (by omega), Lib.bitLen_shift8 _ (by omega) (by omega)]; omega
  have HZ : Hid _ := hz
  rw [hl] at hi
  have f1 : decide ((4294967296 : Int) ≤ (x : Int)) = true := by simp; omega
  have f2 : decide ((65536 : Int) ≤ (x : Int) / 4294967296) = false := by simp; omega
  have f3 : decide ((256 : Int) ≤ (x : Int) / 4294967296) = true := by simp; omega
  clear hix hl hz hx hy
  go_enter Tryz.func318, Tryz.ntmps318
  rw [fold51, ht]
  clear ht
  go_wp2
  go_ret
  rw [HZ.out]
  exact ⟨by simp, rfl⟩
set_option maxHeartbeats 2000000 in
theorem len64_6 (x : Nat) (w : World) (hx : 281474976710656 ≤ x ∧ x < 72057594037927936) :
    Calls Tryz.prog 318 #[.int .u64 x] w fun e w' => e = .returned (.int .i64 (Lib.bitLen x)) ∧ w' = w := by
  obtain ⟨y, hy⟩ : ∃ y : Nat, y = ((x / 4294967296) / 65536) := ⟨_, rfl⟩
  have hy2 : y < 256 := by omega
  have he : (x : Int) / 4294967296 / 65536 = (y : Int) := by omega
  obtain ⟨t, ht, hix⟩ := tabb
  have hi := fun w => hix y w hy2
  have hl : Lib.len8 (y : Int) = ((Lib.bitLen y : Nat) : Int) := Lib.len8_eq ⟨y, hy2⟩
  have h8 : Lib.bitLen y ≤ 8 := Lib.bitLen_le8 ⟨y, hy2⟩
  have hz : Lib.bitLen x = 48 + Lib.bitLen y := by
    rw [hy]
    rw [Lib.bitLen_shift32 x (by omega) (by omega), Lib.bitLen_shift16 _ (by omega) (by omega)]; omega
  have HZ : Hid _ := hz
  rw [hl] at hi
  have f1 : decide ((4294967296 : Int) ≤ (x : Int)) = true := by simp; omega
  have f2 : decide ((65536 : Int) ≤ (x : Int) / 4294967296) = true := by simp; omega
  have f3 : decide ((256 : Int) ≤ (x : Int) / 4294967296 / 65536) = false := by simp; omega
  clear hix hl hz hx hy
  go_enter Tryz.func318, Tryz.ntmps318
  rw [fold51, ht]
  clear ht
  go_wp2
  go_ret
  rw [HZ.out]
  exact ⟨by simp, rfl⟩
set_option maxHeartbeats 2000000 in
theorem len64_7 (x : Nat) (w : World) (hx : 72057594037927936 ≤ x ∧ x < 18446744073709551616) :
    Calls Tryz.prog 318 #[.int .u64 x] w fun e w' => e = .returned (.int .i64 (Lib.bitLen x)) ∧ w' = w := by
  obtain ⟨y, hy⟩ : ∃ y : Nat, y = (((x / 4294967296) / 65536) / 256) := ⟨_, rfl⟩
  have hy2 : y < 256 := by omega
  have he : (x : Int) / 4294967296 / 65536 / 256 = (y : Int) := by omega
  obtain ⟨t, ht, hix⟩ := tabb
  have hi := fun w => hix y w hy2
  have hl : Lib.len8 (y : Int) = ((Lib.bitLen y : Nat) : Int) := Lib.len8_eq ⟨y, hy2⟩
  have h8 : Lib.bitLen y ≤ 8 := Lib.bitLen_le8 ⟨y, hy2⟩
  have hz : Lib.bitLen x = 56 + Lib.bitLen y := by
    rw [hy]
    rw [Lib.bitLen_shift32 x (by omega) (by omega), Lib.bitLen_shift16 _ (by omega) (by omega), Lib.bitLen_shift8 _ (by omega) (by omega)]; omega
  have HZ : Hid _ := hz
  rw [hl] at hi
  have f1 : decide ((4294967296 : Int) ≤ (x : Int)) = true := by simp; omega
  have f2 : decide ((65536 : Int) ≤ (x : Int) / 4294967296) = true := by simp; omega
  have f3 : decide ((256 : Int) ≤ (x : Int) / 4294967296 / 65536) = true := by simp; omega
  clear hix hl hz hx hy
  go_enter Tryz.func318, Tryz.ntmps318
  rw [fold51, ht]
  clear ht
  go_wp2
  go_ret
  rw [HZ.out]
  exact ⟨by simp, rfl⟩
theorem len64_any (x : Nat) (w : World) (h : x < 18446744073709551616) :
    Calls Tryz.prog 318 #[.int .u64 x] w fun e w' => e = .returned (.int .i64 (Lib.bitLen x)) ∧ w' = w := by
  by_cases h0 : x < 256
  · exact len64_0 x w h0
  by_cases h1 : x < 65536
  · exact len64_1 x w ⟨by omega, h1⟩
  by_cases h2 : x < 16777216
  · exact len64_2 x w ⟨by omega, h2⟩
  by_cases h3 : x < 4294967296
  · exact len64_3 x w ⟨by omega, h3⟩
  by_cases h4 : x < 1099511627776
  · exact len64_4 x w ⟨by omega, h4⟩
  by_cases h5 : x < 281474976710656
  · exact len64_5 x w ⟨by omega, h5⟩
  by_cases h6 : x < 72057594037927936
  · exact len64_6 x w ⟨by omega, h6⟩
  exact len64_7 x w ⟨by omega, h⟩
theorem bitLen_log (x : Nat) (h : x < 2 ^ 64) (h0 : x ≠ 0) : Lib.bitLen x = Nat.log2 x + 1 := by
  induction x using Nat.strongRecOn with
  | ind x ih =>
    rw [Lib.bitLen_half x h0 h, Nat.log2_def]
    by_cases h2 : x < 2
    · obtain rfl : x = 1 := by omega
      rfl
    · rw [if_pos (by omega), ih (x / 2) (by omega) (by omega) (by omega)]
      omega
set_option maxHeartbeats 400000 in
theorem len_any (x : Nat) (w : World) (h : x < 9223372036854775808) :
    Calls Tryz.prog 281 #[.int .u64 x] w fun e w' => e = .returned (.int .i64 (Lib.bitLen x)) ∧ w' = w := by
  have H : Hid _ := fun W => len64_any x W (by omega)
  go_enter Tryz.func281, Tryz.ntmps281
  go_wp2_with fail
  refine (H.out _).mono ?_
  rintro e w' ⟨rfl, rfl⟩
  go_wp2
  go_ret
  exact ⟨rfl, rfl⟩
set_option maxHeartbeats 400000 in
theorem leftSize_any (n : Nat) (w : World) (h2 : 2 ≤ n) (h : n < 9223372036854775808) :
    Calls Tryz.prog 325 #[.int .i64 n] w fun e w' => e = .returned (.int .i64 (hf n : Nat)) ∧ w' = w := by
  obtain ⟨m, hm⟩ : ∃ m, n = m + 1 := ⟨n - 1, by omega⟩
  subst hm
  have H : Hid _ := fun W => len_any m W (by omega)
  obtain ⟨k, hk⟩ : ∃ k, k = Nat.log2 m := ⟨_, rfl⟩
  have hl := bitLen_log m (by omega) (by omega)
  have hk2 : k < 63 := by rw [hk]; exact (Nat.log2_lt (by omega)).2 (by omega)
  rw [← hk] at hl
  rw [hl] at H
  have HF : Hid (hf (m + 1) = 2 ^ k) := by show hf (m + 1) = 2 ^ k; unfold hf; rw [hk]; rfl
  clear hk hl
  go_enter Tryz.func325, Tryz.ntmps325
  go_wp2_with fail
  refine (H.out _).mono ?_
  rintro e w' ⟨rfl, rfl⟩
  have hp : (2 : Int) ^ k ≤ 2 ^ 62 := by exact_mod_cast Nat.pow_le_pow_right (n := 2) (by omega) (show k ≤ 62 by omega)
  have hp0 : (0 : Int) < 2 ^ k := by exact_mod_cast Nat.two_pow_pos k
  have HP : Hid (wrap64 (2 ^ k) = (2 : Int) ^ k) := by show wrap64 (2 ^ k) = (2 : Int) ^ k; unfold wrap64; omega
  clear hp hp0
  go_wp2
  go_ret
  rw [HF.out, HP.out]
  exact ⟨by simp, rfl⟩
end Go.Proofs.YtadinjaocnlglaaGreatDoor
