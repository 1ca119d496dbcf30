/-
  Plain: what the program reckons is Lagrange's sum in the field; from any k blocks all come back.
-/
import Derived.Test.YtbjgchlckmecaaaDoorS14
import Derived.Test.YtbjgchlckmecaaaDoorLag
namespace Go.Proofs.YtbjgchlckmecaaaDoor
open Go.RowKit
set_option maxRecDepth 100000
def m8 (n : Nat) : N8 := ⟨n % 256, Nat.mod_lt _ (by omega)⟩
theorem m8_val (n : Nat) (h : n < 256) : (m8 n).1 = n := Nat.mod_eq_of_lt h
theorem m8_inj (a b : Nat) (ha : a < 256) (hb : b < 256) (h : m8 a = m8 b) : a = b := by
  have := congrArg Subtype.val h
  rwa [m8_val a ha, m8_val b hb] at this
theorem ahd_gf (f : Nat → Nat) (G : Nat → N8) (n : Nat) (hG : ∀ l, l < n → (G l).1 = f l) : ∀ j, j ≤ n → ahd f j = (GF.ahd G j).1
  | 0, _ => rfl
  | j + 1, h => by
    show gm (ahd f j) (f j) = gm (GF.ahd G j).1 (G j).1
    rw [ahd_gf f G n hG j (by omega), hG j (by omega)]
theorem bhd_gf (f : Nat → Nat) (G : Nat → N8) (n : Nat) (hG : ∀ l, l < n → (G l).1 = f l) : ∀ c, c ≤ n → bhd f n c = (GF.bhd G n c).1
  | 0, _ => rfl
  | c + 1, h => by
    show gm (bhd f n c) (f (n - 1 - c)) = gm (GF.bhd G n c).1 (G (n - 1 - c)).1
    rw [bhd_gf f G n hG c (by omega), hG (n - 1 - c) (by omega)]
theorem oth_gf (f : Nat → Nat) (G : Nat → N8) (n : Nat) (hG : ∀ l, l < n → (G l).1 = f l) (j : Nat) (hj : j < n) : oth f n j = (GF.oth G n j).1 := by
  show gm (ahd f j) (bhd f n (n - 1 - j)) = gm (GF.ahd G j).1 (GF.bhd G n (n - 1 - j)).1
  rw [ahd_gf f G n hG j (by omega), bhd_gf f G n hG (n - 1 - j) (by omega)]
theorem hgt_gf (p : Nat → Nat) (P : Nat → N8) (n : Nat) (hP : ∀ l, l < n → (P l).1 = p l) (i : Nat) (hi : i < n) : ∀ k, k ≤ n → hgt p i k = (GF.hgt P i k).1
  | 0, _ => rfl
  | k + 1, h => by
    rw [hgt, Fld.hgt]
    by_cases e : k = i
    · rw [if_pos e, if_pos e]; exact hgt_gf p P n hP i hi k (by omega)
    · rw [if_neg e, if_neg e]
      show gm (hgt p i k) (p i ^^^ p k) = gm (GF.hgt P i k).1 ((P i).1 ^^^ (P k).1)
      rw [hgt_gf p P n hP i hi k (by omega), hP i hi, hP k (by omega)]
theorem wt_gf (p : Nat → Nat) (P : Nat → N8) (n : Nat) (hP : ∀ l, l < n → (P l).1 = p l) (x : Nat) (X : N8) (hX : X.1 = x) (j : Nat) (hj : j < n) : wt p n x j = (GF.wt P n X j).1 := by
  have h1 : oth (fun l => x ^^^ p l) n j = (GF.oth (fun l => GF.add X (P l)) n j).1 :=
    oth_gf _ _ n (fun l hl => by show X.1 ^^^ (P l).1 = x ^^^ p l; rw [hX, hP l hl]) j hj
  show gm (oth (fun l => x ^^^ p l) n j) (gm 1 (gi (hgt p j n))) = gm (GF.oth (fun l => GF.add X (P l)) n j).1 (gm 1 (gi (GF.hgt P j n).1))
  rw [h1, hgt_gf p P n hP j hj n (Nat.le_refl _)]
theorem sm_gf (u : Nat → Nat) (V : Nat → Nat → Nat) (l : Nat) (U Y : Nat → N8) (n : Nat) (hU : ∀ i, i < n → (U i).1 = u i) (hY : ∀ i, i < n → (Y i).1 = V i l) : ∀ k, k ≤ n → sm u V l k = (GF.sm U Y k).1
  | 0, _ => rfl
  | k + 1, h => by
    show sm u V l k ^^^ gm (u k) (V k l) = (GF.sm U Y k).1 ^^^ gm (U k).1 (Y k).1
    rw [sm_gf u V l U Y n hU hY k (by omega), hU k (by omega), hY k (by omega)]
/-- the polynomial of the bytes at the place l -/
def plyn (S : Nat → ByteArray) (k l : Nat) (x : N8) : N8 := GF.sm (GF.wt m8 k x) (fun i => m8 (bN (S i) l)) k
theorem plyn_poly (S : Nat → ByteArray) (k l : Nat) : GF.Poly k (plyn S k l) := Fld.sm_poly GF m8 _ k k (Nat.le_refl _)
theorem plyn_data (S : Nat → ByteArray) (k l i : Nat) (hk : k ≤ 256) (hi : i < k) : (plyn S k l (m8 i)).1 = bN (S i) l := by
  unfold plyn
  rw [Fld.sm_at GF m8 _ k (fun a b ha hb hne h => hne (m8_inj a b (by omega) (by omega) h)) i hi k (Nat.le_refl _), if_pos hi, m8_val _ (bN_lt _ _)]
theorem plyn_par (S : Nat → ByteArray) (k l x : Nat) (hk : k ≤ 256) (hx : x < 256) : (plyn S k l (m8 x)).1 = sm (wt (fun i => i) k x) (fun i l => bN (S i) l) l k :=
  (sm_gf _ _ l _ _ k (fun i hi => (wt_gf (fun i => i) m8 k (fun a ha => m8_val a (by omega)) x (m8 x) (m8_val x hx) i hi).symm) (fun _ _ => m8_val _ (bN_lt _ _)) k (Nat.le_refl _)).symm
theorem plyn_back (S : Nat → ByteArray) (k l x : Nat) (p : Nat → Nat) (A : Nat → ByteArray) (hx : x < 256) (hp : ∀ i, i < k → p i < 256) (hd : ∀ i j, i < k → j < k → i ≠ j → p i ≠ p j) (hA : ∀ i, i < k → bN (A (p i)) l = (plyn S k l (m8 (p i))).1) :
    sm (wt p k x) (fun i l => bN (A (p i)) l) l k = (plyn S k l (m8 x)).1 := by
  rw [← Fld.back GF (fun i => m8 (p i)) k (fun i j hi hj hne h => hd i j hi hj hne (m8_inj _ _ (hp i hi) (hp j hj) h)) (plyn S k l) (plyn_poly S k l) (m8 x)]
  exact sm_gf _ _ l _ _ k (fun i hi => (wt_gf p (fun i => m8 (p i)) k (fun a ha => m8_val _ (hp a ha)) x (m8 x) (m8_val x hx) i hi).symm) (fun i hi => (hA i hi).symm) k (Nat.le_refl _)

theorem txtN_size (n : Nat) (f : Nat → Nat) : (txtN n f).size = n := by simp [txtN, strOfNums_size]
theorem bN_txtN (n : Nat) (f : Nat → Nat) (i : Nat) (hi : i < n) (hf : f i < 256) : bN (txtN n f) i = f i := by
  unfold bN txtN
  rw [strOfNums_data, List.getD_eq_getElem?_getD]
  simp [hi]
  omega
theorem bN_ext (a b : ByteArray) (h : a.size = b.size) (e : ∀ i, i < a.size → bN a i = bN b i) : a = b := by
  apply ByteArray.ext
  apply Array.ext
  · exact h
  · intro i h1 h2
    have := e i h1
    unfold bN at this
    rw [List.getD_eq_getElem?_getD, List.getD_eq_getElem?_getD, List.getElem?_eq_getElem (by simpa using h1), List.getElem?_eq_getElem (by simpa using h2)] at this
    exact UInt8.toNat_inj.1 this
/-- all blocks of a stripe -/
def allS (S : Nat → ByteArray) (k c x : Nat) : ByteArray := if x < k then S x else vl (fun i => i) (fun i => k + i) k c S (x - k)
theorem sm_wt_lt (p : Nat → Nat) (V : Nat → Nat → Nat) (n x l : Nat) (k : Nat) : sm (wt p n x) V l k < 256 := sm_lt _ _ _ (fun i => wt_lt p n x i) k
theorem allS_size (S : Nat → ByteArray) (k c x : Nat) (hS : ∀ i, i < k → (S i).size = c) : (allS S k c x).size = c := by
  unfold allS
  by_cases h : x < k
  · rw [if_pos h]; exact hS x h
  · rw [if_neg h]; exact txtN_size c _
theorem allS_byte (S : Nat → ByteArray) (k c x l : Nat) (hk : k ≤ 256) (hx : x < 256) (hl : l < c) : bN (allS S k c x) l = (plyn S k l (m8 x)).1 := by
  unfold allS
  by_cases h : x < k
  · rw [if_pos h, plyn_data S k l x hk h]
  · rw [if_neg h, plyn_par S k l x hk hx]
    refine (bN_txtN c (fun j => sm (wt (fun i => i) k (k + (x - k))) (fun i l => bN (S i) l) j k) l hl (sm_wt_lt _ _ _ _ _ _)).trans ?_
    rw [show k + (x - k) = x by omega]
/-- FROM ANY K BLOCKS A LOST ONE COMES BACK -/
theorem vl_back (S : Nat → ByteArray) (k c : Nat) (p q : Nat → Nat) (j : Nat) (T : Nat → ByteArray) (hk : k ≤ 256) (hS : ∀ i, i < k → (S i).size = c) (hq : q j < 256) (hp : ∀ i, i < k → p i < 256) (hd : ∀ i j, i < k → j < k → i ≠ j → p i ≠ p j) (hT : ∀ i, i < k → T i = allS S k c (p i)) :
    vl p q k c T j = allS S k c (q j) := by
  apply bN_ext
  · rw [allS_size S k c _ hS]; exact txtN_size c _
  · intro l hl
    have hlc : l < c := by rw [show (vl p q k c T j).size = c from txtN_size c _] at hl; exact hl
    rw [allS_byte S k c (q j) l hk hq hlc]
    refine (bN_txtN c (fun x => sm (wt p k (q j)) (fun i l => bN (T i) l) x k) l hlc (sm_wt_lt _ _ _ _ _ _)).trans ?_
    have e : sm (wt p k (q j)) (fun k j => bN (T k) j) l k = sm (wt p k (q j)) (fun i l => bN (allS S k c (p i)) l) l k := by
      have : ∀ n, n ≤ k → sm (wt p k (q j)) (fun k j => bN (T k) j) l n = sm (wt p k (q j)) (fun i l => bN (allS S k c (p i)) l) l n := by
        intro n
        induction n with
        | zero => intro _; rfl
        | succ n ih => intro h; rw [sm, sm, ih (by omega), hT n (by omega)]
      exact this k (Nat.le_refl _)
    rw [e]
    exact plyn_back S k l (q j) p (allS S k c) hq hp hd (fun i hi => allS_byte S k c (p i) l hk (hp i hi) hlc)
end Go.Proofs.YtbjgchlckmecaaaDoor
