/-
  Plain mathematics, of no program: Lagrange's sum, by the products that the program makes.
  Plain: what the program reckons is Lagrange's sum in the field; from any k blocks all come back.
  The walks of slices.Index, stripe.checkLengths, split.
  The walk of stripe.fill.
-/
import Derived.Test.YtadinjaocnlglaaGreatDoorZ01
import Derived.Test.YtadinjaocnlglaaGreatDoorZ06
import Derived.Maps.AppendAt
import Derived.WalkKit
import Derived.WalkSpells
import Derived.WalkLawsBesides
import Derived.BigRegion
import Derived.BigQuiet
import Derived.Deep.QuietTactic
import Derived.Deep.RegionWith
import Derived.Deep.RegionHeld3
namespace Go.Proofs.YtadinjaocnlglaaGreatDoor
namespace Fld
variable {F : Type} (K : Fld F)

def ahd (f : Nat → F) : Nat → F
  | 0 => K.one
  | k + 1 => K.mul (ahd f k) (f k)
def bhd (f : Nat → F) (n : Nat) : Nat → F
  | 0 => K.one
  | c + 1 => K.mul (bhd f n c) (f (n - 1 - c))
def oth (f : Nat → F) (n j : Nat) : F := K.mul (K.ahd f j) (K.bhd f n (n - 1 - j))
def hgt (p : Nat → F) (i : Nat) : Nat → F
  | 0 => K.one
  | k + 1 => if k = i then hgt p i k else K.mul (hgt p i k) (K.add (p i) (p k))
def scl (p : Nat → F) (n i : Nat) : F := K.mul K.one (K.inv (K.hgt p i n))
def wt (p : Nat → F) (n : Nat) (x : F) (j : Nat) : F := K.mul (K.oth (fun l => K.add x (p l)) n j) (K.scl p n j)
def sm (u y : Nat → F) : Nat → F
  | 0 => K.zero
  | k + 1 => K.add (sm u y k) (K.mul (u k) (y k))

theorem ahd_poly (p : Nat → F) : ∀ j, K.Poly (j + 1) (fun x => K.ahd (fun l => K.add x (p l)) j)
  | 0 => Poly.const K K.one
  | j + 1 => Poly.lin K (p j) (ahd_poly p j)
theorem oth_poly' (p : Nat → F) (n j : Nat) : ∀ c, K.Poly (j + 1 + c) (fun x => K.mul (K.ahd (fun l => K.add x (p l)) j) (K.bhd (fun l => K.add x (p l)) n c))
  | 0 => Poly.congr K (ahd_poly K p j) (fun x => by show K.mul _ K.one = _; rw [K.mul_one])
  | c + 1 => Poly.congr K (Poly.lin K (p (n - 1 - c)) (oth_poly' p n j c)) (fun x => by show K.mul _ (K.mul _ _) = _; rw [← K.mul_assoc])
theorem oth_poly (p : Nat → F) (n j : Nat) (hj : j < n) : K.Poly n (fun x => K.oth (fun l => K.add x (p l)) n j) := by
  have := oth_poly' K p n j (n - 1 - j)
  rwa [show j + 1 + (n - 1 - j) = n by omega] at this
theorem wt_poly (p : Nat → F) (n j : Nat) (hj : j < n) : K.Poly n (fun x => K.wt p n x j) :=
  Poly.congr K (Poly.smul K (K.scl p n j) (oth_poly K p n j hj)) (fun x => by show K.mul _ _ = _; rw [K.mul_comm])
theorem sm_poly (p y : Nat → F) (n : Nat) : ∀ k, k ≤ n → K.Poly n (fun x => K.sm (K.wt p n x) y k)
  | 0, _ => Poly.zero K n
  | k + 1, h => Poly.add K (sm_poly p y n k (by omega)) (Poly.congr K (Poly.smul K (y k) (wt_poly K p n k (by omega))) (fun x => by show K.mul _ _ = _; rw [K.mul_comm]))
theorem ahd_zero (f : Nat → F) (m : Nat) (hm : f m = K.zero) : ∀ j, m < j → K.ahd f j = K.zero
  | j + 1, h => by
    rw [ahd]
    by_cases e : m = j
    · rw [← e, hm, K.mul_zero]
    · rw [ahd_zero f m hm j (by omega), K.zero_mul]
theorem bhd_zero (f : Nat → F) (n m : Nat) (hmn : m < n) (hm : f m = K.zero) : ∀ c, n - 1 - m < c → K.bhd f n c = K.zero
  | c + 1, h => by
    rw [bhd]
    by_cases e : m = n - 1 - c
    · rw [← e, hm, K.mul_zero]
    · rw [bhd_zero f n m hmn hm c (by omega), K.zero_mul]
theorem oth_zero (f : Nat → F) (n j m : Nat) (hj : j < n) (hmn : m < n) (hne : m ≠ j) (hm : f m = K.zero) : K.oth f n j = K.zero := by
  unfold oth
  by_cases h : m < j
  · rw [ahd_zero K f m hm j h, K.zero_mul]
  · rw [bhd_zero K f n m hmn hm (n - 1 - j) (by omega), K.mul_zero]
theorem bhd_front (d : Nat → F) (n : Nat) : ∀ c, c ≤ n → K.bhd d (n + 1) (c + 1) = K.mul (d n) (K.bhd d n c)
  | 0, _ => by show K.mul K.one (d (n + 1 - 1 - 0)) = K.mul (d n) K.one; rw [K.one_mul, K.mul_one]; rfl
  | c + 1, h => by
    have ih := bhd_front d n c (by omega)
    show K.mul (K.bhd d (n + 1) (c + 1)) (d (n + 1 - 1 - (c + 1))) = K.mul (d n) (K.mul (K.bhd d n c) (d (n - 1 - c)))
    rw [ih, K.mul_assoc, show n + 1 - 1 - (c + 1) = n - 1 - c by omega]
theorem hgt_lo (p : Nat → F) (i : Nat) : ∀ k, k ≤ i → K.hgt p i k = K.ahd (fun l => K.add (p i) (p l)) k
  | 0, _ => rfl
  | k + 1, h => by rw [hgt, if_neg (by omega), hgt_lo p i k (by omega)]; rfl
theorem hgt_hi (p : Nat → F) (i : Nat) : ∀ t, K.hgt p i (i + 1 + t) = K.mul (K.ahd (fun l => K.add (p i) (p l)) i) (K.bhd (fun l => K.add (p i) (p l)) (i + 1 + t) t)
  | 0 => by
    show K.hgt p i (i + 1) = K.mul _ K.one
    rw [hgt, if_pos rfl, hgt_lo K p i i (by omega), K.mul_one]
  | t + 1 => by
    rw [show i + 1 + (t + 1) = (i + 1 + t) + 1 by omega, hgt, if_neg (by omega), hgt_hi p i t, bhd_front K _ (i + 1 + t) t (by omega)]
    rw [K.mul_assoc, K.mul_comm (K.bhd _ _ t)]
theorem hgt_oth (p : Nat → F) (n i : Nat) (hi : i < n) : K.hgt p i n = K.oth (fun l => K.add (p i) (p l)) n i := by
  have := hgt_hi K p i (n - 1 - i)
  rwa [show i + 1 + (n - 1 - i) = n by omega] at this
theorem hgt_ne (p : Nat → F) (i : Nat) : ∀ n, (∀ k, k < n → k ≠ i → p i ≠ p k) → K.hgt p i n ≠ K.zero
  | 0, _ => K.one_ne
  | n + 1, h => by
    rw [hgt]
    by_cases e : n = i
    · rw [if_pos e]; exact hgt_ne p i n (fun k hk => h k (by omega))
    · rw [if_neg e]
      exact K.mul_ne _ _ (hgt_ne p i n (fun k hk => h k (by omega))) (fun z => h n (by omega) e (K.eq_of_add _ _ z))
theorem wt_at (p : Nat → F) (n : Nat) (hd : ∀ i j, i < n → j < n → i ≠ j → p i ≠ p j) (m j : Nat) (hm : m < n) (hj : j < n) : K.wt p n (p m) j = if m = j then K.one else K.zero := by
  unfold wt
  by_cases e : m = j
  · subst e
    rw [if_pos rfl, ← hgt_oth K p n m hm]
    unfold scl
    rw [K.one_mul]
    exact K.mul_inv _ (hgt_ne K p m n (fun k hk hne => hd m k hm hk (fun e => hne e.symm)))
  · rw [if_neg e, oth_zero K _ n j m hj hm e (K.add_self (p m)), K.zero_mul]
theorem sm_at (p y : Nat → F) (n : Nat) (hd : ∀ i j, i < n → j < n → i ≠ j → p i ≠ p j) (m : Nat) (hm : m < n) : ∀ k, k ≤ n → K.sm (K.wt p n (p m)) y k = if m < k then y m else K.zero
  | 0, _ => rfl
  | k + 1, h => by
    rw [sm, sm_at p y n hd m hm k (by omega), wt_at K p n hd m k hm (by omega)]
    by_cases e : m = k
    · subst e
      rw [if_neg (by omega), if_pos rfl, if_pos (by omega), K.one_mul, K.zero_add]
    · rw [if_neg e, K.zero_mul, K.add_zero]
      by_cases h2 : m < k
      · rw [if_pos h2, if_pos (by omega)]
      · rw [if_neg h2, if_neg (by omega)]
/-- a polynomial comes back out of its values at any n points -/
theorem back (p : Nat → F) (n : Nat) (hd : ∀ i j, i < n → j < n → i ≠ j → p i ≠ p j) (f : F → F) (hf : K.Poly n f) (x : F) : K.sm (K.wt p n x) (fun i => f (p i)) n = f x := by
  refine Poly.unique K ((List.range n).map p) (sm_poly K p _ n n (Nat.le_refl _)) hf (by simp) ?_ ?_ x
  · rw [List.nodup_iff_pairwise_ne, List.pairwise_map]
    exact List.Pairwise.imp_of_mem (fun {a b} ha hb hab => hd a b (by simpa using ha) (by simpa using hb) (Nat.ne_of_lt hab)) List.pairwise_lt_range
  · intro r hr
    obtain ⟨m, hm, rfl⟩ := List.mem_map.1 hr
    have hmn : m < n := by simpa using hm
    rw [sm_at K p _ n hd m hmn n (Nat.le_refl _), if_pos hmn]
end Fld
end Go.Proofs.YtadinjaocnlglaaGreatDoor
namespace Go.Proofs.YtadinjaocnlglaaGreatDoor
open Go.RowKit
set_option maxRecDepth 100000
def m8 (n : Nat) : N8 := ⟨n % 256, Nat.mod_lt _ (by omega)⟩
theorem m8_val (n : Nat) (h : n < 256) : (m8 n).1 = n := Nat.mod_eq_of_lt h
theorem m8_inj (a b : Nat) (ha : a < 256) (hb : b < 256) (h : m8 a = m8 b) : a = b := by
  have := congrArg Subtype.val h
  rwa [m8_val a ha, m8_val b hb] at this
theorem ahd_gf (f : Nat → Nat) (G : Nat → N8) (n : Nat) (hG : ∀ l, l < n → (G l).1 = f l) : ∀ j, j ≤ n → ahd f j = (GF.ahd G j).1
  | 0, _ => rfl
  | j + 1, h => by
    show gm (ahd f j) (f j) = gm (GF.ahd G j).1 (G j).1
    rw [ahd_gf f G n hG j (by omega), hG j (by omega)]
theorem bhd_gf (f : Nat → Nat) (G : Nat → N8) (n : Nat) (hG : ∀ l, l < n → (G l).1 = f l) : ∀ c, c ≤ n → bhd f n c = (GF.bhd G n c).1
  | 0, _ => rfl
  | c + 1, h => by
    show gm (bhd f n c) (f (n - 1 - c)) = gm (GF.bhd G n c).1 (G (n - 1 - c)).1
    rw [bhd_gf f G n hG c (by omega), hG (n - 1 - c) (by omega)]
theorem oth_gf (f : Nat → Nat) (G : Nat → N8) (n : Nat) (hG : ∀ l, l < n → (G l).1 = f l) (j : Nat) (hj : j < n) : oth f n j = (GF.oth G n j).1 := by
  show gm (ahd f j) (bhd f n (n - 1 - j)) = gm (GF.ahd G j).1 (GF.bhd G n (n - 1 - j)).1
  rw [ahd_gf f G n hG j (by omega), bhd_gf f G n hG (n - 1 - j) (by omega)]
theorem hgt_gf (p : Nat → Nat) (P : Nat → N8) (n : Nat) (hP : ∀ l, l < n → (P l).1 = p l) (i : Nat) (hi : i < n) : ∀ k, k ≤ n → hgt p i k = (GF.hgt P i k).1
  | 0, _ => rfl
  | k + 1, h => by
    rw [hgt, Fld.hgt]
    by_cases e : k = i
    · rw [if_pos e, if_pos e]; exact hgt_gf p P n hP i hi k (by omega)
    · rw [if_neg e, if_neg e]
      show gm (hgt p i k) (p i ^^^ p k) = gm (GF.hgt P i k).1 ((P i).1 ^^^ (P k).1)
      rw [hgt_gf p P n hP i hi k (by omega), hP i hi, hP k (by omega)]
theorem wt_gf (p : Nat → Nat) (P : Nat → N8) (n : Nat) (hP : ∀ l, l < n → (P l).1 = p l) (x : Nat) (X : N8) (hX : X.1 = x) (j : Nat) (hj : j < n) : wt p n x j = (GF.wt P n X j).1 := by
  have h1 : oth (fun l => x ^^^ p l) n j = (GF.oth (fun l => GF.add X (P l)) n j).1 :=
    oth_gf _ _ n (fun l hl => by show X.1 ^^^ (P l).1 = x ^^^ p l; rw [hX, hP l hl]) j hj
  show gm (oth (fun l => x ^^^ p l) n j) (gm 1 (gi (hgt p j n))) = gm (GF.oth (fun l => GF.add X (P l)) n j).1 (gm 1 (gi (GF.hgt P j n).1))
  rw [h1, hgt_gf p P n hP j hj n (Nat.le_refl _)]
theorem sm_gf (u : Nat → Nat) (V : Nat → Nat → Nat) (l : Nat) (U Y : Nat → N8) (n : Nat) (hU : ∀ i, i < n → (U i).1 = u i) (hY : ∀ i, i < n → (Y i).1 = V i l) : ∀ k, k ≤ n → sm u V l k = (GF.sm U Y k).1
  | 0, _ => rfl
  | k + 1, h => by
    show sm u V l k ^^^ gm (u k) (V k l) = (GF.sm U Y k).1 ^^^ gm (U k).1 (Y k).1
    rw [sm_gf u V l U Y n hU hY k (by omega), hU k (by omega), hY k (by omega)]
/-- the polynomial of the bytes at the place l -/
def plyn (S : Nat → ByteArray) (k l : Nat) (x : N8) : N8 := GF.sm (GF.wt m8 k x) (fun i => m8 (bN (S i) l)) k
theorem plyn_poly (S : Nat → ByteArray) (k l : Nat) : GF.Poly k (plyn S k l) := Fld.sm_poly GF m8 _ k k (Nat.le_refl _)
theorem plyn_data (S : Nat → ByteArray) (k l i : Nat) (hk : k ≤ 256) (hi : i < k) : (plyn S k l (m8 i)).1 = bN (S i) l := by
  unfold plyn
  rw [Fld.sm_at GF m8 _ k (fun a b ha hb hne h => hne (m8_inj a b (by omega) (by omega) h)) i hi k (Nat.le_refl _), if_pos hi, m8_val _ (bN_lt _ _)]
theorem plyn_par (S : Nat → ByteArray) (k l x : Nat) (hk : k ≤ 256) (hx : x < 256) : (plyn S k l (m8 x)).1 = sm (wt (fun i => i) k x) (fun i l => bN (S i) l) l k :=
  (sm_gf _ _ l _ _ k (fun i hi => (wt_gf (fun i => i) m8 k (fun a ha => m8_val a (by omega)) x (m8 x) (m8_val x hx) i hi).symm) (fun _ _ => m8_val _ (bN_lt _ _)) k (Nat.le_refl _)).symm
theorem plyn_back (S : Nat → ByteArray) (k l x : Nat) (p : Nat → Nat) (A : Nat → ByteArray) (hx : x < 256) (hp : ∀ i, i < k → p i < 256) (hd : ∀ i j, i < k → j < k → i ≠ j → p i ≠ p j) (hA : ∀ i, i < k → bN (A (p i)) l = (plyn S k l (m8 (p i))).1) :
    sm (wt p k x) (fun i l => bN (A (p i)) l) l k = (plyn S k l (m8 x)).1 := by
  rw [← Fld.back GF (fun i => m8 (p i)) k (fun i j hi hj hne h => hd i j hi hj hne (m8_inj _ _ (hp i hi) (hp j hj) h)) (plyn S k l) (plyn_poly S k l) (m8 x)]
  exact sm_gf _ _ l _ _ k (fun i hi => (wt_gf p (fun i => m8 (p i)) k (fun a ha => m8_val _ (hp a ha)) x (m8 x) (m8_val x hx) i hi).symm) (fun i hi => (hA i hi).symm) k (Nat.le_refl _)

theorem txtN_size (n : Nat) (f : Nat → Nat) : (txtN n f).size = n := by simp [txtN, strOfNums_size]
theorem bN_txtN (n : Nat) (f : Nat → Nat) (i : Nat) (hi : i < n) (hf : f i < 256) : bN (txtN n f) i = f i := by
  unfold bN txtN
  rw [strOfNums_data, List.getD_eq_getElem?_getD]
  simp [hi]
  omega
theorem bN_ext (a b : ByteArray) (h : a.size = b.size) (e : ∀ i, i < a.size → bN a i = bN b i) : a = b := by
  apply ByteArray.ext
  apply Array.ext
  · exact h
  · intro i h1 h2
    have := e i h1
    unfold bN at this
    rw [List.getD_eq_getElem?_getD, List.getD_eq_getElem?_getD, List.getElem?_eq_getElem (by simpa using h1), List.getElem?_eq_getElem (by simpa using h2)] at this
    exact UInt8.toNat_inj.1 this
/-- all blocks of a stripe -/
def allS (S : Nat → ByteArray) (k c x : Nat) : ByteArray := if x < k then S x else vl (fun i => i) (fun i => k + i) k c S (x - k)
theorem sm_wt_lt (p : Nat → Nat) (V : Nat → Nat → Nat) (n x l : Nat) (k : Nat) : sm (wt p n x) V l k < 256 := sm_lt _ _ _ (fun i => wt_lt p n x i) k
theorem allS_size (S : Nat → ByteArray) (k c x : Nat) (hS : ∀ i, i < k → (S i).size = c) : (allS S k c x).size = c := by
  unfold allS
  by_cases h : x < k
  · rw [if_pos h]; exact hS x h
  · rw [if_neg h]; exact txtN_size c _
theorem allS_byte (S : Nat → ByteArray) (k c x l : Nat) (hk : k ≤ 256) (hx : x < 256) (hl : l < c) : bN (allS S k c x) l = (plyn S k l (m8 x)).1 := by
  unfold allS
  by_cases h : x < k
  · rw [if_pos h, plyn_data S k l x hk h]
  · rw [if_neg h, plyn_par S k l x hk hx]
    refine (bN_txtN c (fun j => sm (wt (fun i => i) k (k + (x - k))) (fun i l => bN (S i) l) j k) l hl (sm_wt_lt _ _ _ _ _ _)).trans ?_
    rw [show k + (x - k) = x by omega]
/-- FROM ANY K BLOCKS A LOST ONE COMES BACK -/
theorem vl_back (S : Nat → ByteArray) (k c : Nat) (p q : Nat → Nat) (j : Nat) (T : Nat → ByteArray) (hk : k ≤ 256) (hS : ∀ i, i < k → (S i).size = c) (hq : q j < 256) (hp : ∀ i, i < k → p i < 256) (hd : ∀ i j, i < k → j < k → i ≠ j → p i ≠ p j) (hT : ∀ i, i < k → T i = allS S k c (p i)) :
    vl p q k c T j = allS S k c (q j) := by
  apply bN_ext
  · rw [allS_size S k c _ hS]; exact txtN_size c _
  · intro l hl
    have hlc : l < c := by rw [show (vl p q k c T j).size = c from txtN_size c _] at hl; exact hl
    rw [allS_byte S k c (q j) l hk hq hlc]
    refine (bN_txtN c (fun x => sm (wt p k (q j)) (fun i l => bN (T i) l) x k) l hlc (sm_wt_lt _ _ _ _ _ _)).trans ?_
    have e : sm (wt p k (q j)) (fun k j => bN (T k) j) l k = sm (wt p k (q j)) (fun i l => bN (allS S k c (p i)) l) l k := by
      have : ∀ n, n ≤ k → sm (wt p k (q j)) (fun k j => bN (T k) j) l n = sm (wt p k (q j)) (fun i l => bN (allS S k c (p i)) l) l n := by
        intro n
        induction n with
        | zero => intro _; rfl
        | succ n ih => intro h; rw [sm, sm, ih (by omega), hT n (by omega)]
      exact this k (Nat.le_refl _)
    rw [e]
    exact plyn_back S k l (q j) p (allS S k c) hq hp hd (fun i hi => allS_byte S k c (p i) l hk (hp i hi) hlc)
end Go.Proofs.YtadinjaocnlglaaGreatDoor
namespace Go.Proofs.YtadinjaocnlglaaGreatDoor
open Go.RowKit
set_option maxRecDepth 100000
/-- a list of bools -/
def bI (h : Nat → Bool) : Nat → Value := fun i => .bool (h i)
set_option maxHeartbeats 400000 in
theorem index_found (h : Nat → Bool) (b n cap i0 : Nat) (w : World) (hn : n ≤ 1000) (hi0 : i0 < n) (h1 : h i0 = true) (h2 : ∀ j, j < i0 → h j = false) (hc : Cl w b n (bI h)) :
    Calls Tryz.prog 293 #[.slice (some ⟨b, 0, none⟩) n cap, .bool true] w fun e w' => e = .returned (.int .i64 i0) ∧ w' = w := by
  have HC : Hid _ := hc
  have H1 : Hid _ := h1
  have H2 : Hid _ := h2
  clear hc h1 h2
  go_enter Tryz.func293, Tryz.ntmps293
  go_wp2
  go_loop [8] (fun iv => ∃ i : Nat, i ≤ i0 ∧ iv = .int .i64 i) (fun iv => n - (intOf iv).toNat)
  case atStart => exact ⟨0, by omega, rfl⟩
  case round =>
    obtain ⟨i, hi, rfl⟩ := hrel
    have c1 : w.cell? ⟨b, i, none⟩ = some (.bool (h i)) := HC.out i (by omega)
    have hin : i < n := by omega
    by_cases e : i = i0
    · subst e
      rw [H1.out] at c1
      go_wp2
      go_ret
      exact ⟨rfl, rfl⟩
    · rw [H2.out i (by omega)] at c1
      go_wp2
      go_round
      case rel => exact ⟨i + 1, by omega, by go_num⟩
      case measure => simp [intOf]; omega
set_option maxHeartbeats 1000000 in
theorem checkLengths_ok (S : Nat → ByteArray) (h : Nat → Bool) (b n cap b2 cap2 c i0 : Nat) (w : World) (hn : n ≤ 1000) (hi0 : i0 < n) (h1 : h i0 = true) (h2 : ∀ j, j < i0 → h j = false) (hS : ∀ i, i < n → h i = true → (S i).size = c) (hC : Cl w b n (tI S)) (hc : Cl w b2 n (bI h)) :
    Calls Tryz.prog 257 #[.slice (some ⟨b, 0, none⟩) n cap, .slice (some ⟨b2, 0, none⟩) n cap2] w fun e w' => e = .returned .nilIface ∧ ∃ q, w' = w.drewN q := by
  have H : Hid _ := fun W (hW : Cl W b2 n (bI h)) => index_found h b2 n cap2 i0 W hn hi0 h1 h2 hW
  have HC : Hid _ := hC
  have HB : Hid _ := hc
  have HS : Hid _ := hS
  have H1 : Hid _ := h1
  clear hC hc hS h1 h2
  go_enter Tryz.func257, Tryz.ntmps257
  go_wp2_with (go_at_call 293; refine (H.out _ HB.out).mono ?_; rintro e w' ⟨rfl, rfl⟩)
  go_loopw [12] (fun iv wr => ∃ i q : Nat, i ≤ n ∧ iv = .int .i64 i ∧ wr = w'.drewN q) (fun iv _ => n - (intOf iv).toNat)
  case atStart => exact ⟨0, 0, by omega, rfl, rfl⟩
  case round =>
    obtain ⟨i, q, hi, rfl, hq⟩ := hrel
    by_cases hlt : i < n
    · have c1 : wr.cell? ⟨b2, i, none⟩ = some (.bool (h i)) := by rw [hq]; exact HB.out i hlt
      have c2 : wr.cell? ⟨b, i, none⟩ = some (.string (S i)) := by rw [hq]; exact HC.out i hlt
      have c3 : wr.cell? ⟨b, i0, none⟩ = some (.string (S i0)) := by rw [hq]; exact HC.out i0 hi0
      have HQ : Hid _ := hq
      clear hq
      have hi0' : (0 : Int) ≤ (i : Int) := by omega
      have hin' : (i : Int) < (n : Int) := by omega
      have hj0' : (0 : Int) ≤ (i0 : Int) := by omega
      have hjn' : (i0 : Int) < (n : Int) := by omega
      by_cases hh : h i = true
      · rw [hh] at c1
        have hne : (((S i).size : Int) != ((S i0).size : Int)) = false := by rw [bne_eq_false_iff_eq, HS.out i hlt hh, HS.out i0 hi0 H1.out]
        go_wp2
        go_quiet (fail)
        go_wp2
        go_roundw
        case rel => exact ⟨i + 1, _, by omega, by go_num, by rw [HQ.out, World.drewN_drewN]⟩
        case measure => simp [intOf]; omega
      · have hf : h i = false := by simpa using hh
        rw [hf] at c1
        go_wp2
        go_quiet (fail)
        go_wp2
        go_roundw
        case rel => exact ⟨i + 1, _, by omega, by go_num, by rw [HQ.out, World.drewN_drewN]⟩
        case measure => simp [intOf]; omega
    · go_wp2
      go_ret
      exact ⟨rfl, q, rfl⟩
/-- the first k places that has, among the first i -/
def knL (h : Nat → Bool) (k : Nat) : Nat → List Nat
  | 0 => []
  | i + 1 => if h i = true ∧ (knL h k i).length < k then knL h k i ++ [i] else knL h k i
/-- the others -/
def wnL (h : Nat → Bool) (k : Nat) : Nat → List Nat
  | 0 => []
  | i + 1 => if h i = true ∧ (knL h k i).length < k then wnL h k i else wnL h k i ++ [i]
theorem knL_len (h : Nat → Bool) (k : Nat) : ∀ i, (knL h k i).length ≤ i
  | 0 => by simp [knL]
  | i + 1 => by
    rw [knL]
    have := knL_len h k i
    split
    · simp; omega
    · omega
theorem wnL_len (h : Nat → Bool) (k : Nat) : ∀ i, (wnL h k i).length ≤ i
  | 0 => by simp [wnL]
  | i + 1 => by
    rw [wnL]
    have := wnL_len h k i
    split
    · omega
    · simp; omega
def vI (l : List Nat) : List Value := l.map fun p => .int .i64 ((p : Nat) : Int)
theorem vI_snoc (l : List Nat) (i : Nat) : vI (l ++ [i]) = vI l ++ [.int .i64 ((i : Nat) : Int)] := by simp [vI]
theorem own_ltq {w : World} {base : Nat} {e : TypeId} {size : Nat} {v : Value} {n : Nat} {xs : List Value} (h : w.ownsRow base e size v n xs) : ∀ g, v.ownBlock = some g → base ≤ g ∧ g < w.heap.size := by
  intro g hg
  rcases h.2 with ⟨h', _⟩ | ⟨g', cap', cur, h', hb, hh, _⟩
  · rw [h'] at hg; simp [Value.ownBlock] at hg
  · rw [h'] at hg; simp [Value.ownBlock] at hg
    subst hg
    exact ⟨hb, (Array.getElem?_eq_some_iff.1 hh).1⟩
/-- two slices of the call's own do not share their array -/
def Apt (u v : Value) : Prop := ∀ g, u.ownBlock = some g → v.ownBlock = some g → False
theorem Apt.symm {u v : Value} (h : Apt u v) : Apt v u := fun g a b => h g b a
theorem Apt.ne {u v : Value} (h : Apt u v) : v.ownBlock = none ∨ v.ownBlock ≠ u.ownBlock := by
  cases hv : v.ownBlock with
  | none => exact .inl rfl
  | some g => exact .inr (fun e => h g e.symm hv)
theorem Apt.step {w : World} {base : Nat} {e : TypeId} {size n : Nat} {xs : List Value} {u v u' : Value} (h : Apt u v) (hv : w.ownsRow base e size v n xs) (hu : u'.ownBlock = u.ownBlock ∨ u'.ownBlock = some w.heap.size) : Apt u' v := by
  intro g a b
  rcases hu with hu | hu
  · exact h g (by rw [← hu]; exact a) b
  · rw [hu] at a
    have := (own_ltq hv g b).2
    cases a
    omega
theorem one_cell (x : Int) : ∀ u ∈ [Value.int .i64 x], u.oneCell' = true := by
  intro u hu; simp at hu; subst hu; rfl
theorem own_shapeq {w : World} {base : Nat} {e : TypeId} {size : Nat} {v : Value} {n : Nat} {xs : List Value} (h : w.ownsRow base e size v n xs) : ∃ a cap, v = .slice a n cap := by
  rcases h.2 with ⟨h', h0⟩ | ⟨g', cap', cur, h', _⟩
  · exact ⟨none, 0, by rw [h', h0]⟩
  · exact ⟨_, _, h'⟩
set_option maxHeartbeats 1000000 in
theorem split_any (h : Nat → Bool) (b n cap k : Nat) (w : World) (hn : n ≤ 1000) (hk : k ≤ 1000) (hb : b < w.heap.size) (hc : Cl w b n (bI h)) :
    Calls Tryz.prog 258 #[.slice (some ⟨b, 0, none⟩) n cap, .int .i64 k] w fun e w' => ∃ v1 v2, e = .returned (.tuple #[v1, v2]) ∧ w'.ownsRow w.heap.size 3 1 v1 (knL h k n).length (vI (knL h k n)) ∧ w'.ownsRow w.heap.size 3 1 v2 (wnL h k n).length (vI (wnL h k n)) ∧ Below w.heap.size w w' := by
  have HC : Hid _ := hc
  clear hc
  obtain ⟨i0, hi, hz0, hz1, hz2⟩ := info_parts info3
  go_enter Tryz.func258, Tryz.ntmps258
  go_wp2
  go_loopw [10, 4, 5] (fun iv v1 v2 wr => ∃ i : Nat, i ≤ n ∧ iv = .int .i64 i ∧ wr.ownsRow w.heap.size 3 1 v1 (knL h k i).length (vI (knL h k i)) ∧ wr.ownsRow w.heap.size 3 1 v2 (wnL h k i).length (vI (wnL h k i)) ∧ Apt v1 v2 ∧ Below w.heap.size w wr) (fun iv _ _ _ => n - (intOf iv).toNat)
  case atStart => exact ⟨0, by omega, rfl, World.ownsRow_nil _ _ _ _, World.ownsRow_nil _ _ _ _, fun g a _ => by simp [Value.ownBlock] at a, Below.refl _ _⟩
  case round =>
    obtain ⟨i, hin, rfl, ho1, ho2, hap, hbl⟩ := hrel
    obtain ⟨a1, cap1, hu4⟩ := own_shapeq ho1
    obtain ⟨a2, cap2, hu5⟩ := own_shapeq ho2
    subst hu4
    subst hu5
    by_cases hlt : i < n
    · have c1 : wr.cell? ⟨b, i, none⟩ = some (.bool (h i)) := Cl.below HC.out hbl hb i hlt
      have l1 := knL_len h k i
      have l2 := wnL_len h k i
      have hB' : w.heap.size ≤ (wr.alloc (Obj.cells #[Value.int IntKind.i64 ((i : Nat) : Int)] 3)).heap.size := by have := hbl.size; simp; omega
      by_cases hh : h i = true ∧ (knL h k i).length < k
      · have hkn : knL h k (i + 1) = knL h k i ++ [i] := by rw [knL, if_pos hh]
        have hwn : wnL h k (i + 1) = wnL h k i := by rw [wnL, if_pos hh]
        have HKN : Hid _ := hkn
        have HWN : Hid _ := hwn
        rw [hh.1] at c1
        have hlk : ((knL h k i).length : Int) < (k : Int) := by omega
        clear hkn hwn hh
        go_wp2_with (at_builtin; refine wpList_append_own_at _ rfl (.tmp 22) (.tmp 24) 39 rfl w.heap.size 3 i0 (.int .i64 0) 1 8 Tryz.underlying39 hi hz0 hz1 hz2 rfl (by decide) _ (knL h k i).length (vI (knL h k i)) rfl (ho1.alloc _) ⟨wr.heap.size, 0, none⟩ 1 1 [.int .i64 ((i : Nat) : Int)] rfl rfl (cell_one_new _ _ _) (one_cell _) ?kb ?kc hB' ?_)
        case kb => unfold maxLen; omega
        case kc => omega
        intro v' w' hown' hgrow _ hblk
        have hoth := (ho2.alloc (Obj.cells #[Value.int IntKind.i64 ((i : Nat) : Int)] 3)).kept hgrow (hap.ne)
        have hap' : Apt v' (.slice a2 (wnL h k i).length cap2) := Apt.step hap (ho2.alloc (Obj.cells #[Value.int IntKind.i64 ((i : Nat) : Int)] 3)) (by simpa using hblk)
        have hbl' : Below w.heap.size w w' := (hbl.alloc hbl.size _).grown hgrow hB' (fun g hg => (own_ltq ho1 g hg).1)
        have ho1' : w'.ownsRow w.heap.size 3 1 v' (knL h k (i + 1)).length (vI (knL h k (i + 1))) := by rw [HKN.out, vI_snoc]; simpa using hown'
        have ho2' : w'.ownsRow w.heap.size 3 1 (.slice a2 (wnL h k i).length cap2) (wnL h k (i + 1)).length (vI (wnL h k (i + 1))) := by rw [HWN.out]; exact hoth
        clear hown' hgrow hblk hoth ho1 ho2 hap hbl hB'
        go_wp2
        go_roundw
        case rel => exact ⟨i + 1, by omega, by go_num, ho1', ho2', hap', hbl'⟩
        case measure => simp [intOf]; omega
      · have hkn : knL h k (i + 1) = knL h k i := by rw [knL, if_neg hh]
        have hwn : wnL h k (i + 1) = wnL h k i ++ [i] := by rw [wnL, if_neg hh]
        have HKN : Hid _ := hkn
        have HWN : Hid _ := hwn
        have hcase : h i = false ∨ (h i = true ∧ (k : Int) ≤ ((knL h k i).length : Int)) := by
          cases hv : h i with
          | false => exact .inl rfl
          | true => exact .inr ⟨rfl, by have : ¬ (knL h k i).length < k := fun e => hh ⟨hv, e⟩; omega⟩
        clear hkn hwn hh
        rcases hcase with hv | ⟨hv, hge⟩
        all_goals rw [hv] at c1
        all_goals
          go_wp2_with (at_builtin; refine wpList_append_own_at _ rfl (.tmp 26) (.tmp 28) 39 rfl w.heap.size 3 i0 (.int .i64 0) 1 8 Tryz.underlying39 hi hz0 hz1 hz2 rfl (by decide) _ (wnL h k i).length (vI (wnL h k i)) rfl (ho2.alloc _) ⟨wr.heap.size, 0, none⟩ 1 1 [.int .i64 ((i : Nat) : Int)] rfl rfl (cell_one_new _ _ _) (one_cell _) ?_ ?_ hB' ?_)
          · unfold maxLen; omega
          · omega
          intro v' w' hown' hgrow _ hblk
          have hoth := (ho1.alloc (Obj.cells #[Value.int IntKind.i64 ((i : Nat) : Int)] 3)).kept hgrow (hap.symm.ne)
          have hap' : Apt v' (.slice a1 (knL h k i).length cap1) := Apt.step hap.symm (ho1.alloc (Obj.cells #[Value.int IntKind.i64 ((i : Nat) : Int)] 3)) (by simpa using hblk)
          have hbl' : Below w.heap.size w w' := (hbl.alloc hbl.size _).grown hgrow hB' (fun g hg => (own_ltq ho2 g hg).1)
          have ho2' : w'.ownsRow w.heap.size 3 1 v' (wnL h k (i + 1)).length (vI (wnL h k (i + 1))) := by rw [HWN.out, vI_snoc]; simpa using hown'
          have ho1' : w'.ownsRow w.heap.size 3 1 (.slice a1 (knL h k i).length cap1) (knL h k (i + 1)).length (vI (knL h k (i + 1))) := by rw [HKN.out]; exact hoth
          clear hown' hgrow hblk hoth ho1 ho2 hap hbl hB'
          go_wp2
          go_roundw
          case rel => exact ⟨i + 1, by omega, by go_num, ho1', ho2', hap'.symm, hbl'⟩
          case measure => simp [intOf]; omega
    · have e : i = n := by omega
      subst e
      go_wp2
      go_ret2
      exact ⟨_, _, rfl, ho1, ho2, hbl⟩
end Go.Proofs.YtadinjaocnlglaaGreatDoor
namespace Go.Proofs.YtadinjaocnlglaaGreatDoor
open Go.RowKit
set_option maxRecDepth 100000
/-- values put at places, one behind the other -/
def puts (z : Nat → Value) (idx : Nat → Nat) (val : Nat → Value) : Nat → Nat → Value
  | 0 => z
  | j + 1 => updV (puts z idx val j) (idx j) (val j)
/-- the blocks that come out of fill -/
def filled (S : Nat → ByteArray) (p q : Nat → Nat) (k m c : Nat) : Nat → Value :=
  puts (puts (fun _ => .string ⟨#[]⟩) p (fun i => .string (S (p i))) k) q (tI (vl p q k c fun i => S (p i))) m
/-- all blocks but one are as they were -/
def Same (a : Nat) (w w' : World) : Prop := ∀ k, k ≠ a → w'.heap[k]? = w.heap[k]?
theorem Same.put {a : Nat} {w w' : World} (h : Same a w w') (i : Nat) (v : Value) : Same a w (w'.setCell ⟨a, i, none⟩ v) := fun k hk => (heap_setCell_other w' ⟨a, i, none⟩ k v hk).trans (h k hk)
theorem Same.rw {a : Nat} {w w' : World} (h : Same a w w') {g n : Nat} {t : TypeId} {f : Nat → Value} (r : Rw w g n t f) (hg : g ≠ a) : Rw w' g n t f := by
  unfold Rw; rw [h g hg]; exact r
theorem Same.cl {a : Nat} {w w' : World} (h : Same a w w') {b n : Nat} {v : Nat → Value} (r : Cl w b n v) (hb : b ≠ a) : Cl w' b n v := fun i hi => (World.cell?_of_block (a := ⟨b, i, none⟩) (h b hb)).trans (r i hi)
set_option maxHeartbeats 1000000 in
theorem fill_any (S : Nat → ByteArray) (p q : Nat → Nat) (n k m c b cap b1 cap1 : Nat) (v2 : Value) (w : World) (hn : n ≤ 1000) (hk0 : 0 < k) (hk : k ≤ n) (hm : m ≤ n) (hn2 : n ≤ 256) (hc : c ≤ 140737488351232) (hS : ∀ i, i < k → (S (p i)).size = c) (hp : ∀ i, i < k → p i < n) (hq : ∀ i, i < m → q i < n)
    (hb : b < w.heap.size) (hb1 : b1 < w.heap.size) (hC : Cl w b n (tI S)) (h1 : Cl w b1 k (pI p)) (h2 : Pts w v2 m q) :
    Calls Tryz.prog 259 #[.slice (some ⟨b, 0, none⟩) n cap, .slice (some ⟨b1, 0, none⟩) k cap1, v2] w fun e w' => e = .returned (.slice (some ⟨w.heap.size, 0, none⟩) n n) ∧ Rw w' w.heap.size n 9 (filled S p q k m c) ∧ Below w.heap.size w w' := by
  have HS : Hid _ := hS
  have HP : Hid _ := hp
  have HQ : Hid _ := hq
  have HC : Hid _ := hC
  have H1 : Hid _ := h1
  have H2 : Hid _ := h2
  clear hS hp hq hC h1 h2
  have hmk := run_make_row' (P := Tryz.prog) 42 9 (.string ⟨#[]⟩) 16 Tryz.underlying42 info9 rfl .i64 .i64 n (by omega) (by omega)
  have hmk2 := run_make_row' (P := Tryz.prog) 42 9 (.string ⟨#[]⟩) 16 Tryz.underlying42 info9 rfl .i64 .i64 k (by omega) (by omega)
  go_enter Tryz.func259, Tryz.ntmps259
  go_wp2
  go_loopw [21] (fun iv wr => ∃ i : Nat, i ≤ k ∧ iv = .int .i64 i ∧ Below w.heap.size w wr ∧ Rw wr w.heap.size n 9 (puts (fun _ => .string ⟨#[]⟩) p (fun i => .string (S (p i))) i) ∧ Rw wr (w.heap.size + 1) k 9 (part' i (tI fun i => S (p i)) (.string ⟨#[]⟩))) (fun iv _ => k - (intOf iv).toNat)
  case atStart =>
    refine ⟨0, by omega, rfl, ((Below.refl _ _).alloc (Nat.le_refl _) _).alloc (by simp) _, (Rw.made w n 9 (.string ⟨#[]⟩)).alloc _, ?_⟩
    have := Rw.made (w.alloc (.cells (madeCells #[.string ⟨#[]⟩] n) 9)) k 9 (.string ⟨#[]⟩)
    have e : (w.alloc (.cells (madeCells #[.string ⟨#[]⟩] n) 9)).heap.size = w.heap.size + 1 := by simp
    rw [e] at this
    exact this.to (fun j _ => (part_0 _ _ j).symm)
  case round =>
    obtain ⟨i, hi, rfl, hbl, hA, hK⟩ := hrel
    by_cases hlt : i < k
    · have hpi := HP.out i hlt
      have c1 : wr.cell? ⟨b1, i, none⟩ = some (.int .i64 ((p i : Nat) : Int)) := Cl.below H1.out hbl hb1 i hlt
      have c2 : wr.cell? ⟨b, p i, none⟩ = some (.string (S (p i))) := Cl.below HC.out hbl hb (p i) hpi
      have c3 := hK.cell i hlt
      have c4 := hK.free i
      have hsz : (S (p i)).size ≤ 140737488351232 := by rw [HS.out i hlt]; exact hc
      have hpi2 : ((p i : Nat) : Int) < (n : Int) := by omega
      have hbw : b ≠ w.heap.size + 1 := by omega
      obtain ⟨x, hx⟩ : ∃ x, x = p i := ⟨_, rfl⟩
      rw [← hx] at c1 c2 hsz hpi2
      have HX : Hid _ := hx
      clear hx
      have c5 : (wr.setCell ⟨w.heap.size + 1, i, none⟩ (.string (S x))).cell? ⟨b, x, none⟩ = some (.string (S x)) :=
        (World.cell?_of_block (a := ⟨b, x, none⟩) (heap_setCell_other wr ⟨w.heap.size + 1, i, none⟩ b (.string (S x)) hbw)).trans c2
      go_wp2_with fail
      refine (sclone_any (S x) _ hsz).mono ?_
      rintro e w3 ⟨rfl, hB3⟩
      have hbz := hbl.size
      have hK3 : Rw w3 (w.heap.size + 1) k 9 (part' (i + 1) (tI fun i => S (p i)) (.string ⟨#[]⟩)) := ((hK.put i (.string (S x))).to (fun j _ => by rw [← part_step, HX.out]; rfl)).below hB3 ((hK.put i (.string (S x))).lt)
      have hA3 : Rw w3 w.heap.size n 9 (puts (fun _ => .string ⟨#[]⟩) p (fun i => .string (S (p i))) i) := (hA.other ⟨w.heap.size + 1, i, none⟩ (.string (S x)) (by simp)).below hB3 ((hA.other ⟨w.heap.size + 1, i, none⟩ (.string (S x)) (by simp)).lt)
      have hb3 : Below w.heap.size w w3 := (hbl.setCell (p := ⟨w.heap.size + 1, i, none⟩) (by simp) (.string (S x))).trans (hB3.mono (by simpa [World.setCell] using hbz))
      have c6 := hA3.cell x (by rw [HX.out]; exact hpi)
      have c7 := hA3.free x
      clear hB3 hbl hA hK c1 c2 c3 c4 c5
      go_wp2
      go_roundw
      case rel => exact ⟨i + 1, by omega, by go_num, hb3.setCell (Nat.le_refl _) _, by rw [HX.out]; exact hA3.put (p i) _, hK3.other _ _ (by simp)⟩
      case measure => simp [intOf]; omega
    · have e : i = k := by omega
      subst e
      have hK' : Cl wr (w.heap.size + 1) i (tI fun i => S (p i)) := (hK.to (fun j hj => by simp [part', hj])).cl
      have hf : Pts wr (.slice (some ⟨b1, 0, none⟩) i cap1) i p := .inr ⟨b1, cap1, rfl, Nat.lt_of_lt_of_le hb1 hbl.size, Cl.below H1.out hbl hb1⟩
      have ht : Pts wr v2 m q := Pts.below H2.out hbl
      have hkl := hK.lt
      have HK : Hid _ := hK'
      have HF : Hid _ := hf
      have HT : Hid _ := ht
      clear hK' hf ht hK
      go_wp2_with fail
      refine (values_any p q (fun i => S (p i)) i m c (w.heap.size + 1) i _ v2 wr hk0 (by omega) (by omega) hc HS.out (fun j hj => by have := HP.out j hj; omega) (fun j hj => by have := HQ.out j hj; omega) hkl HK.out HF.out HT.out).mono ?_
      rintro e w3 ⟨g, rfl, hg, hV3, hB3⟩
      have hA3 := hA.below hB3 hA.lt
      have hT3 := Pts.below HT.out hB3
      have hb3 := hbl.trans (hB3.mono hbl.size)
      have hgw : w.heap.size < g := by have := hbl.size; omega
      have HT3 : Hid _ := hT3
      clear hT3 HK HF HT hB3 hbl hA
      obtain ⟨b2, hb2, cap2, hv2⟩ : ∃ b2, b2 < w.heap.size ∧ ∃ cap2, (m = 0 ∨ (v2 = .slice (some ⟨b2, 0, none⟩) m cap2 ∧ Cl w3 b2 m (pI q))) := by
        rcases H2.out with ⟨_, h⟩ | ⟨b2, cap2, h, hl, hcl⟩
        · exact ⟨b, hb, 0, .inl h⟩
        · exact ⟨b2, hl, cap2, .inr ⟨h, Cl.below hcl hb3 hl⟩⟩
      have HV2 : Hid _ := hv2
      clear hv2
      go_wp2
      go_loopw [47] (fun jv wr => ∃ j : Nat, j ≤ m ∧ jv = .int .i64 j ∧ Below w.heap.size w wr ∧ Same w.heap.size w3 wr ∧ Rw wr w.heap.size n 9 (puts (puts (fun _ => .string ⟨#[]⟩) p (fun i => .string (S (p i))) i) q (tI (vl p q i c fun i => S (p i))) j)) (fun jv _ => m - (intOf jv).toNat)
      case atStart => exact ⟨0, by omega, rfl, hb3, fun _ _ => rfl, hA3⟩
      case round =>
        obtain ⟨j, hj, rfl, hbj, hsm, hA⟩ := hrel
        by_cases hlj : j < m
        · rcases HV2.out with h0 | ⟨hv, hcl⟩
          · omega
          · subst hv
            have hqj := HQ.out j hlj
            have c1 : wr.cell? ⟨g, j, none⟩ = some (.string (vl p q i c (fun i => S (p i)) j)) := (hsm.rw hV3 (by omega)).cell j hlj
            have c2 : wr.cell? ⟨b2, j, none⟩ = some (.int .i64 ((q j : Nat) : Int)) := hsm.cl hcl (by omega) j hlj
            have c3 := hA.cell (q j) hqj
            have c4 := hA.free (q j)
            have hq2 : ((q j : Nat) : Int) < (n : Int) := by omega
            have HA : Hid _ := hA
            have HSM : Hid _ := hsm
            clear hcl hsm hA hV3 hA3
            go_wp2
            go_roundw
            case rel => exact ⟨j + 1, by omega, by go_num, hbj.setCell (Nat.le_refl _) _, Same.put HSM.out (q j) _, Rw.put HA.out (q j) _⟩
            case measure => simp [intOf]; omega
        · have e : j = m := by omega
          subst e
          go_wp2
          go_ret
          exact ⟨rfl, hA, hbj⟩
end Go.Proofs.YtadinjaocnlglaaGreatDoor
