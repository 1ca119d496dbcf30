/-
  The two digests are one: plain facts on bytes.
-/
import Derived.Test.YtadinjaocnlglaaGreatDoorTM
import Derived.Test.YtadinjaocnlglaaGreatDoorTN
namespace Go.Proofs.YtadinjaocnlglaaGreatDoor
open Go.RowKit
theorem byt_none (s : ByteArray) (i : Nat) (h : s.size ≤ i) : byt s i = 0 := by
  unfold byt
  rw [List.getD_eq_getElem?_getD, List.getElem?_eq_none (by simpa using h)]
  rfl
theorem byt_append (a b : ByteArray) (i : Nat) : byt (a ++ b) i = if i < a.size then byt a i else byt b (i - a.size) := by
  unfold byt
  rw [ByteArray.data_append, Array.toList_append, List.getD_eq_getElem?_getD, List.getElem?_append]
  have e : a.data.toList.length = a.size := by simp
  rw [e]
  by_cases h : i < a.size
  · rw [if_pos h, if_pos h, List.getD_eq_getElem?_getD]
  · rw [if_neg h, if_neg h, List.getD_eq_getElem?_getD]
theorem byt_extract (s : ByteArray) (a b i : Nat) (h : a + i < b) : byt (s.extract a b) i = byt s (a + i) := by
  by_cases hs : a + i < s.size
  · have h1 : i < (s.extract a b).size := by rw [ByteArray.size_extract]; omega
    rw [byt_get _ i h1, byt_get _ (a + i) hs]
    simp [ByteArray.data_extract]
  · rw [byt_none s (a + i) (by omega), byt_none]
    rw [ByteArray.size_extract]; omega
theorem byt_piece (s : ByteArray) (j i : Nat) (h : i < 64) : byt (piece s j) i = byt s (64 * j + i) := by
  unfold piece; exact byt_extract s _ _ i (by omega)
theorem ini_congr (p q : ByteArray) (h : ∀ i, i < 64 → byt p i = byt q i) (j : Nat) (hj : j < 16) : iniR p j = iniR q j := by
  unfold iniR
  rw [h (4 * j) (by omega), h (4 * j + 1) (by omega), h (4 * j + 2) (by omega), h (4 * j + 3) (by omega)]
theorem pcs_add (kt : Nat → Int) (m q : ByteArray) (st : Nat → Int) (a : Nat) : ∀ b, (∀ i, i < 64 * b → byt q i = byt m (64 * a + i)) → pcs kt m st (a + b) = pcs kt q (pcs kt m st a) b
  | 0, _ => rfl
  | b + 1, h => by
    have ih := pcs_add kt m q st a b (fun i hi => h i (by omega))
    show press kt (wrd (iniR (piece m (a + b)))) (pcs kt m st (a + b)) = press kt (wrd (iniR (piece q b))) (pcs kt q (pcs kt m st a) b)
    have hw : wrd (iniR (piece m (a + b))) = wrd (iniR (piece q b)) := funext fun i => wrd_congr _ _ (fun j hj => ini_congr _ _ (fun i hi => by
      rw [byt_piece m (a + b) i hi, byt_piece q b i hi, h (64 * b + i) (by omega)]
      congr 1; omega) j hj) i
    rw [hw, ih]
theorem byt_txt (n : Nat) (f : Nat → Int) (i : Nat) (hi : i < n) (h0 : 0 ≤ f i) (h1 : f i ≤ 255) : byt (txt n f) i = f i := by
  unfold byt txt
  rw [strOfNums_data, List.getD_eq_getElem?_getD]
  simp [hi]
  omega
theorem byt_one (v : Int) (h0 : 0 ≤ v) (h1 : v ≤ 255) : byt (strOfNums [v]) 0 = v := by
  unfold byt
  rw [strOfNums_data]
  simp
  omega
theorem refA_byt (s : ByteArray) : ∀ k i, i < s.size + 1 + k → byt (refA s k) i = if i < s.size then byt s i else if i = s.size then 128 else 0
  | 0, i, hi => by
    show byt (s ++ ⟨#[128]⟩) i = _
    rw [byt_append]
    by_cases h : i < s.size
    · rw [if_pos h, if_pos h]
    · have e : i = s.size := by omega
      rw [if_neg h, if_neg h, if_pos e, e, Nat.sub_self]; rfl
  | k + 1, i, hi => by
    show byt (refA s k ++ ⟨#[0]⟩) i = _
    rw [byt_append, refA_size]
    by_cases h : i < s.size + 1 + k
    · rw [if_pos h]; exact refA_byt s k i h
    · have e : i - (s.size + 1 + k) = 0 := by omega
      rw [if_neg h, e, if_neg (by omega), if_neg (by omega)]; rfl
/-- the bytes of the length, as the document's answer reckons them -/
theorem len_byte (n j : Nat) : ((n : Int) * 8 / 2 ^ (8 * (7 - j))).tmod 256 % 256 = (n : Int) * 8 / 2 ^ (8 * (7 - j)) % 256 := by
  have hp : (0 : Int) < 2 ^ (8 * (7 - j)) := Int.pow_pos (by omega)
  have hx : 0 ≤ (n : Int) * 8 / 2 ^ (8 * (7 - j)) := Int.ediv_nonneg (by omega) (by omega)
  rw [Int.tmod_eq_emod_of_nonneg hx]
  omega
theorem refB_byt (a s : ByteArray) : ∀ k i, i < a.size + k → byt (refB a s k) i = if i < a.size then byt a i else (s.size : Int) * 8 / 2 ^ (8 * (7 - (i - a.size))) % 256
  | 0, i, hi => by rw [if_pos (by omega)]; rfl
  | k + 1, i, hi => by
    show byt (refB a s k ++ strOfNums [((s.size : Int) * 8 / 2 ^ (8 * (7 - k))).tmod 256 % 256]) i = _
    rw [byt_append, refB_size]
    by_cases h : i < a.size + k
    · rw [if_pos h]; exact refB_byt a s k i h
    · have e : i - (a.size + k) = 0 := by omega
      have e2 : i - a.size = k := by omega
      rw [if_neg h, e, if_neg (by omega), e2, byt_one _ (by omega) (by omega), len_byte]
theorem refT_byt (s : ByteArray) (i : Nat) (hi : i < 64 * ((s.size + 72) / 64)) : byt (refT s) i = if 64 * ((s.size + 72) / 64) - 8 ≤ i then (s.size : Int) * 8 / 2 ^ (8 * (64 * ((s.size + 72) / 64) - 1 - i)) % 256 else if i < s.size then byt s i else if i = s.size then 128 else 0 := by
  have hz : s.size + 1 + nz s = 64 * ((s.size + 72) / 64) - 8 := by unfold nz; omega
  unfold refT
  rw [refB_byt _ _ 8 i (by rw [refA_size]; omega), refA_size, hz]
  by_cases h : i < 64 * ((s.size + 72) / 64) - 8
  · rw [if_pos h, if_neg (by omega), refA_byt s _ i (by omega)]
  · rw [if_neg h, if_pos (by omega), show 7 - (i - (64 * ((s.size + 72) / 64) - 8)) = 64 * ((s.size + 72) / 64) - 1 - i by omega]
theorem padS_bd (s : ByteArray) (n sz i : Nat) : 0 ≤ padS s n sz 8 i ∧ padS s n sz 8 i ≤ 255 := by
  unfold padS
  by_cases h1 : sz - 8 ≤ i
  · rw [if_pos h1]; omega
  · rw [if_neg h1]
    by_cases h2 : i < s.size
    · rw [if_pos h2]; exact ⟨byt_lo s i, byt_hi s i⟩
    · rw [if_neg h2]
      by_cases h3 : i = s.size
      · rw [if_pos h3]; omega
      · rw [if_neg h3]; omega
theorem padT_byt (s : ByteArray) (n i : Nat) (hi : i < 64 * padN s) : byt (padT s n) i = padS s n (64 * padN s) 8 i := by
  unfold padT
  unfold padN at hi ⊢
  by_cases h : s.size < 56
  · rw [if_pos h] at hi ⊢
    rw [if_pos h]
    exact byt_txt 64 _ i hi (padS_bd ..).1 (padS_bd ..).2
  · rw [if_neg h] at hi ⊢
    rw [if_neg h]
    exact byt_txt 128 _ i hi (padS_bd ..).1 (padS_bd ..).2
/-- ONE DIGEST -/
theorem one_digest (kt : Nat → Int) (s : ByteArray) : ofT kt s = strOfNums (tl (pcs kt (refT s) hini ((s.size + 72) / 64)) 8) := by
  unfold ofT
  obtain ⟨r, hr⟩ : ∃ r, r = s.extract (64 * (s.size / 64)) s.size := ⟨_, rfl⟩
  have hrs : r.size = s.size - 64 * (s.size / 64) := by rw [hr, ByteArray.size_extract]; omega
  rw [← hr]
  have hN : (s.size + 72) / 64 = s.size / 64 + padN r := by
    unfold padN
    by_cases h : r.size < 56
    · rw [if_pos h]; omega
    · rw [if_neg h]; omega
  have h1 : pcs kt (refT s) hini (0 + s.size / 64) = pcs kt (s.extract 0 (64 * (s.size / 64))) (pcs kt (refT s) hini 0) (s.size / 64) := by
    apply pcs_add
    intro i hi
    rw [byt_extract s 0 _ i (by omega), Nat.mul_zero, Nat.zero_add, refT_byt s i (by omega), if_neg (by omega), if_pos (by omega)]
  have h2 : pcs kt (refT s) hini (s.size / 64 + padN r) = pcs kt (padT r s.size) (pcs kt (refT s) hini (s.size / 64)) (padN r) := by
    apply pcs_add
    intro i hi
    rw [padT_byt r _ i hi, refT_byt s _ (by omega), hN]
    unfold padS
    rw [show 64 * (s.size / 64 + padN r) = 64 * (s.size / 64) + 64 * padN r by omega]
    by_cases a1 : 64 * padN r - 8 ≤ i
    · rw [if_pos a1, if_pos (by omega), show 64 * (s.size / 64) + 64 * padN r - 1 - (64 * (s.size / 64) + i) = 64 * padN r - 1 - i by omega]
    · rw [if_neg a1, if_neg (show ¬ 64 * (s.size / 64) + 64 * padN r - 8 ≤ 64 * (s.size / 64) + i by omega)]
      by_cases a2 : i < r.size
      · rw [if_pos a2, if_pos (by omega), hr, byt_extract s _ _ i (by omega)]
      · rw [if_neg a2, if_neg (show ¬ 64 * (s.size / 64) + i < s.size by omega)]
        by_cases a3 : i = r.size
        · rw [if_pos a3, if_pos (by omega)]
        · rw [if_neg a3, if_neg (by omega)]
  rw [Nat.zero_add] at h1
  rw [hN, h2, h1]
  rfl
end Go.Proofs.YtadinjaocnlglaaGreatDoor
