/-
  Plain: what the program reckons is Lagrange's sum in the field; from any k blocks all come back.
  The walks of slices.Index, stripe.checkLengths, split.
  The walk of stripe.fill.
  The walks of stripe.Restore, vault.Restore, where they refuse nothing.
  Plain: what Restore puts together is the whole stripe, wherever k places are told as known.
  The walks of lent, list, still, sameTexts.
  What Parity and Restore answer; the refusals of Parity, both.
  NewWriter where params are refused, both; the document's Writer begun.
  The walk of layout.readBlocks.
-/
import Derived.Test.YtadinjaocnlglaaGreatDoorZ04
import Derived.Test.YtadinjaocnlglaaGreatDoorZ23
import Derived.Maps.AppendAt
import Derived.WalkKit
import Derived.WalkSpells
import Derived.WalkLawsBesides
import Derived.BigRegion
import Derived.BigQuiet
import Derived.Deep.QuietTactic
import Derived.Deep.RegionWith
import Derived.Deep.RegionHeld3
import Derived.Test.YtadinjaocnlglaaGreatDoorZ09
import Derived.Test.YtadinjaocnlglaaGreatDoorZ22
import Derived.Test.YtadinjaocnlglaaGreatDoorZ05
import Derived.Test.YtadinjaocnlglaaGreatDoorZ20
namespace Go.Proofs.YtadinjaocnlglaaGreatDoor
open Go.RowKit
set_option maxRecDepth 100000
def m8 (n : Nat) : N8 := ⟨n % 256, Nat.mod_lt _ (by omega)⟩
theorem m8_val (n : Nat) (h : n < 256) : (m8 n).1 = n := Nat.mod_eq_of_lt h
theorem m8_inj (a b : Nat) (ha : a < 256) (hb : b < 256) (h : m8 a = m8 b) : a = b := by
  have := congrArg Subtype.val h
  rwa [m8_val a ha, m8_val b hb] at this
theorem ahd_gf (f : Nat → Nat) (G : Nat → N8) (n : Nat) (hG : ∀ l, l < n → (G l).1 = f l) : ∀ j, j ≤ n → ahd f j = (GF.ahd G j).1
  | 0, _ => rfl
  | j + 1, h => by
    show gm (ahd f j) (f j) = gm (GF.ahd G j).1 (G j).1
    rw [ahd_gf f G n hG j (by omega), hG j (by omega)]
theorem bhd_gf (f : Nat → Nat) (G : Nat → N8) (n : Nat) (hG : ∀ l, l < n → (G l).1 = f l) : ∀ c, c ≤ n → bhd f n c = (GF.bhd G n c).1
  | 0, _ => rfl
  | c + 1, h => by
    show gm (bhd f n c) (f (n - 1 - c)) = gm (GF.bhd G n c).1 (G (n - 1 - c)).1
    rw [bhd_gf f G n hG c (by omega), hG (n - 1 - c) (by omega)]
theorem oth_gf (f : Nat → Nat) (G : Nat → N8) (n : Nat) (hG : ∀ l, l < n → (G l).1 = f l) (j : Nat) (hj : j < n) : oth f n j = (GF.oth G n j).1 := by
  show gm (ahd f j) (bhd f n (n - 1 - j)) = gm (GF.ahd G j).1 (GF.bhd G n (n - 1 - j)).1
  rw [ahd_gf f G n hG j (by omega), bhd_gf f G n hG (n - 1 - j) (by omega)]
theorem hgt_gf (p : Nat → Nat) (P : Nat → N8) (n : Nat) (hP : ∀ l, l < n → (P l).1 = p l) (i : Nat) (hi : i < n) : ∀ k, k ≤ n → hgt p i k = (GF.hgt P i k).1
  | 0, _ => rfl
  | k + 1, h => by
    rw [hgt, Fld.hgt]
    by_cases e : k = i
    · rw [if_pos e, if_pos e]; exact hgt_gf p P n hP i hi k (by omega)
    · rw [if_neg e, if_neg e]
      show gm (hgt p i k) (p i ^^^ p k) = gm (GF.hgt P i k).1 ((P i).1 ^^^ (P k).1)
      rw [hgt_gf p P n hP i hi k (by omega), hP i hi, hP k (by omega)]
theorem wt_gf (p : Nat → Nat) (P : Nat → N8) (n : Nat) (hP : ∀ l, l < n → (P l).1 = p l) (x : Nat) (X : N8) (hX : X.1 = x) (j : Nat) (hj : j < n) : wt p n x j = (GF.wt P n X j).1 := by
  have h1 : oth (fun l => x ^^^ p l) n j = (GF.oth (fun l => GF.add X (P l)) n j).1 :=
    oth_gf _ _ n (fun l hl => by show X.1 ^^^ (P l).1 = x ^^^ p l; rw [hX, hP l hl]) j hj
  show gm (oth (fun l => x ^^^ p l) n j) (gm 1 (gi (hgt p j n))) = gm (GF.oth (fun l => GF.add X (P l)) n j).1 (gm 1 (gi (GF.hgt P j n).1))
  rw [h1, hgt_gf p P n hP j hj n (Nat.le_refl _)]
theorem sm_gf (u : Nat → Nat) (V : Nat → Nat → Nat) (l : Nat) (U Y : Nat → N8) (n : Nat) (hU : ∀ i, i < n → (U i).1 = u i) (hY : ∀ i, i < n → (Y i).1 = V i l) : ∀ k, k ≤ n → sm u V l k = (GF.sm U Y k).1
  | 0, _ => rfl
  | k + 1, h => by
    show sm u V l k ^^^ gm (u k) (V k l) = (GF.sm U Y k).1 ^^^ gm (U k).1 (Y k).1
    rw [sm_gf u V l U Y n hU hY k (by omega), hU k (by omega), hY k (by omega)]
/-- the polynomial of the bytes at the place l -/
def plyn (S : Nat → ByteArray) (k l : Nat) (x : N8) : N8 := GF.sm (GF.wt m8 k x) (fun i => m8 (bN (S i) l)) k
theorem plyn_poly (S : Nat → ByteArray) (k l : Nat) : GF.Poly k (plyn S k l) := Fld.sm_poly GF m8 _ k k (Nat.le_refl _)
theorem plyn_data (S : Nat → ByteArray) (k l i : Nat) (hk : k ≤ 256) (hi : i < k) : (plyn S k l (m8 i)).1 = bN (S i) l := by
  unfold plyn
  rw [Fld.sm_at GF m8 _ k (fun a b ha hb hne h => hne (m8_inj a b (by omega) (by omega) h)) i hi k (Nat.le_refl _), if_pos hi, m8_val _ (bN_lt _ _)]
theorem plyn_par (S : Nat → ByteArray) (k l x : Nat) (hk : k ≤ 256) (hx : x < 256) : (plyn S k l (m8 x)).1 = sm (wt (fun i => i) k x) (fun i l => bN (S i) l) l k :=
  (sm_gf _ _ l _ _ k (fun i hi => (wt_gf (fun i => i) m8 k (fun a ha => m8_val a (by omega)) x (m8 x) (m8_val x hx) i hi).symm) (fun _ _ => m8_val _ (bN_lt _ _)) k (Nat.le_refl _)).symm
theorem plyn_back (S : Nat → ByteArray) (k l x : Nat) (p : Nat → Nat) (A : Nat → ByteArray) (hx : x < 256) (hp : ∀ i, i < k → p i < 256) (hd : ∀ i j, i < k → j < k → i ≠ j → p i ≠ p j) (hA : ∀ i, i < k → bN (A (p i)) l = (plyn S k l (m8 (p i))).1) :
    sm (wt p k x) (fun i l => bN (A (p i)) l) l k = (plyn S k l (m8 x)).1 := by
  rw [← Fld.back GF (fun i => m8 (p i)) k (fun i j hi hj hne h => hd i j hi hj hne (m8_inj _ _ (hp i hi) (hp j hj) h)) (plyn S k l) (plyn_poly S k l) (m8 x)]
  exact sm_gf _ _ l _ _ k (fun i hi => (wt_gf p (fun i => m8 (p i)) k (fun a ha => m8_val _ (hp a ha)) x (m8 x) (m8_val x hx) i hi).symm) (fun i hi => (hA i hi).symm) k (Nat.le_refl _)

theorem txtN_size (n : Nat) (f : Nat → Nat) : (txtN n f).size = n := by simp [txtN, strOfNums_size]
theorem bN_txtN (n : Nat) (f : Nat → Nat) (i : Nat) (hi : i < n) (hf : f i < 256) : bN (txtN n f) i = f i := by
  unfold bN txtN
  rw [strOfNums_data, List.getD_eq_getElem?_getD]
  simp [hi]
  omega
theorem bN_ext (a b : ByteArray) (h : a.size = b.size) (e : ∀ i, i < a.size → bN a i = bN b i) : a = b := by
  apply ByteArray.ext
  apply Array.ext
  · exact h
  · intro i h1 h2
    have := e i h1
    unfold bN at this
    rw [List.getD_eq_getElem?_getD, List.getD_eq_getElem?_getD, List.getElem?_eq_getElem (by simpa using h1), List.getElem?_eq_getElem (by simpa using h2)] at this
    exact UInt8.toNat_inj.1 this
/-- all blocks of a stripe -/
def allS (S : Nat → ByteArray) (k c x : Nat) : ByteArray := if x < k then S x else vl (fun i => i) (fun i => k + i) k c S (x - k)
theorem sm_wt_lt (p : Nat → Nat) (V : Nat → Nat → Nat) (n x l : Nat) (k : Nat) : sm (wt p n x) V l k < 256 := sm_lt _ _ _ (fun i => wt_lt p n x i) k
theorem allS_size (S : Nat → ByteArray) (k c x : Nat) (hS : ∀ i, i < k → (S i).size = c) : (allS S k c x).size = c := by
  unfold allS
  by_cases h : x < k
  · rw [if_pos h]; exact hS x h
  · rw [if_neg h]; exact txtN_size c _
theorem allS_byte (S : Nat → ByteArray) (k c x l : Nat) (hk : k ≤ 256) (hx : x < 256) (hl : l < c) : bN (allS S k c x) l = (plyn S k l (m8 x)).1 := by
  unfold allS
  by_cases h : x < k
  · rw [if_pos h, plyn_data S k l x hk h]
  · rw [if_neg h, plyn_par S k l x hk hx]
    refine (bN_txtN c (fun j => sm (wt (fun i => i) k (k + (x - k))) (fun i l => bN (S i) l) j k) l hl (sm_wt_lt _ _ _ _ _ _)).trans ?_
    rw [show k + (x - k) = x by omega]
/-- FROM ANY K BLOCKS A LOST ONE COMES BACK -/
theorem vl_back (S : Nat → ByteArray) (k c : Nat) (p q : Nat → Nat) (j : Nat) (T : Nat → ByteArray) (hk : k ≤ 256) (hS : ∀ i, i < k → (S i).size = c) (hq : q j < 256) (hp : ∀ i, i < k → p i < 256) (hd : ∀ i j, i < k → j < k → i ≠ j → p i ≠ p j) (hT : ∀ i, i < k → T i = allS S k c (p i)) :
    vl p q k c T j = allS S k c (q j) := by
  apply bN_ext
  · rw [allS_size S k c _ hS]; exact txtN_size c _
  · intro l hl
    have hlc : l < c := by rw [show (vl p q k c T j).size = c from txtN_size c _] at hl; exact hl
    rw [allS_byte S k c (q j) l hk hq hlc]
    refine (bN_txtN c (fun x => sm (wt p k (q j)) (fun i l => bN (T i) l) x k) l hlc (sm_wt_lt _ _ _ _ _ _)).trans ?_
    have e : sm (wt p k (q j)) (fun k j => bN (T k) j) l k = sm (wt p k (q j)) (fun i l => bN (allS S k c (p i)) l) l k := by
      have : ∀ n, n ≤ k → sm (wt p k (q j)) (fun k j => bN (T k) j) l n = sm (wt p k (q j)) (fun i l => bN (allS S k c (p i)) l) l n := by
        intro n
        induction n with
        | zero => intro _; rfl
        | succ n ih => intro h; rw [sm, sm, ih (by omega), hT n (by omega)]
      exact this k (Nat.le_refl _)
    rw [e]
    exact plyn_back S k l (q j) p (allS S k c) hq hp hd (fun i hi => allS_byte S k c (p i) l hk (hp i hi) hlc)
end Go.Proofs.YtadinjaocnlglaaGreatDoor
namespace Go.Proofs.YtadinjaocnlglaaGreatDoor
open Go.RowKit
set_option maxRecDepth 100000
/-- a list of bools -/
def bI (h : Nat → Bool) : Nat → Value := fun i => .bool (h i)
set_option maxHeartbeats 400000 in
theorem index_found (h : Nat → Bool) (b n cap i0 : Nat) (w : World) (hn : n ≤ 1000) (hi0 : i0 < n) (h1 : h i0 = true) (h2 : ∀ j, j < i0 → h j = false) (hc : Cl w b n (bI h)) :
    Calls Tryz.prog 293 #[.slice (some ⟨b, 0, none⟩) n cap, .bool true] w fun e w' => e = .returned (.int .i64 i0) ∧ w' = w := by
  have HC : Hid _ := hc
  have H1 : Hid _ := h1
  have H2 : Hid _ := h2
  clear hc h1 h2
  go_enter Tryz.func293, Tryz.ntmps293
  go_wp2
  go_loop [8] (fun iv => ∃ i : Nat, i ≤ i0 ∧ iv = .int .i64 i) (fun iv => n - (intOf iv).toNat)
  case atStart => exact ⟨0, by omega, rfl⟩
  case round =>
    obtain ⟨i, hi, rfl⟩ := hrel
    have c1 : w.cell? ⟨b, i, none⟩ = some (.bool (h i)) := HC.out i (by omega)
    have hin : i < n := by omega
    by_cases e : i = i0
    · subst e
      rw [H1.out] at c1
      go_wp2
      go_ret
      exact ⟨rfl, rfl⟩
    · rw [H2.out i (by omega)] at c1
      go_wp2
      go_round
      case rel => exact ⟨i + 1, by omega, by go_num⟩
      case measure => simp [intOf]; omega
/-- the first k places that has, among the first i -/
def knL (h : Nat → Bool) (k : Nat) : Nat → List Nat
  | 0 => []
  | i + 1 => if h i = true ∧ (knL h k i).length < k then knL h k i ++ [i] else knL h k i
/-- the others -/
def wnL (h : Nat → Bool) (k : Nat) : Nat → List Nat
  | 0 => []
  | i + 1 => if h i = true ∧ (knL h k i).length < k then wnL h k i else wnL h k i ++ [i]
theorem knL_len (h : Nat → Bool) (k : Nat) : ∀ i, (knL h k i).length ≤ i
  | 0 => by simp [knL]
  | i + 1 => by
    rw [knL]
    have := knL_len h k i
    split
    · simp; omega
    · omega
theorem wnL_len (h : Nat → Bool) (k : Nat) : ∀ i, (wnL h k i).length ≤ i
  | 0 => by simp [wnL]
  | i + 1 => by
    rw [wnL]
    have := wnL_len h k i
    split
    · omega
    · simp; omega
def vI (l : List Nat) : List Value := l.map fun p => .int .i64 ((p : Nat) : Int)
theorem vI_snoc (l : List Nat) (i : Nat) : vI (l ++ [i]) = vI l ++ [.int .i64 ((i : Nat) : Int)] := by simp [vI]
theorem own_ltq {w : World} {base : Nat} {e : TypeId} {size : Nat} {v : Value} {n : Nat} {xs : List Value} (h : w.ownsRow base e size v n xs) : ∀ g, v.ownBlock = some g → base ≤ g ∧ g < w.heap.size := by
  intro g hg
  rcases h.2 with ⟨h', _⟩ | ⟨g', cap', cur, h', hb, hh, _⟩
  · rw [h'] at hg; simp [Value.ownBlock] at hg
  · rw [h'] at hg; simp [Value.ownBlock] at hg
    subst hg
    exact ⟨hb, (Array.getElem?_eq_some_iff.1 hh).1⟩
/-- two slices of the call's own do not share their array -/
def Apt (u v : Value) : Prop := ∀ g, u.ownBlock = some g → v.ownBlock = some g → False
theorem Apt.symm {u v : Value} (h : Apt u v) : Apt v u := fun g a b => h g b a
theorem Apt.ne {u v : Value} (h : Apt u v) : v.ownBlock = none ∨ v.ownBlock ≠ u.ownBlock := by
  cases hv : v.ownBlock with
  | none => exact .inl rfl
  | some g => exact .inr (fun e => h g e.symm hv)
theorem Apt.step {w : World} {base : Nat} {e : TypeId} {size n : Nat} {xs : List Value} {u v u' : Value} (h : Apt u v) (hv : w.ownsRow base e size v n xs) (hu : u'.ownBlock = u.ownBlock ∨ u'.ownBlock = some w.heap.size) : Apt u' v := by
  intro g a b
  rcases hu with hu | hu
  · exact h g (by rw [← hu]; exact a) b
  · rw [hu] at a
    have := (own_ltq hv g b).2
    cases a
    omega
theorem one_cell (x : Int) : ∀ u ∈ [Value.int .i64 x], u.oneCell' = true := by
  intro u hu; simp at hu; subst hu; rfl
theorem own_shapeq {w : World} {base : Nat} {e : TypeId} {size : Nat} {v : Value} {n : Nat} {xs : List Value} (h : w.ownsRow base e size v n xs) : ∃ a cap, v = .slice a n cap := by
  rcases h.2 with ⟨h', h0⟩ | ⟨g', cap', cur, h', _⟩
  · exact ⟨none, 0, by rw [h', h0]⟩
  · exact ⟨_, _, h'⟩
set_option maxHeartbeats 1000000 in
theorem split_any (h : Nat → Bool) (b n cap k : Nat) (w : World) (hn : n ≤ 1000) (hk : k ≤ 1000) (hb : b < w.heap.size) (hc : Cl w b n (bI h)) :
    Calls Tryz.prog 258 #[.slice (some ⟨b, 0, none⟩) n cap, .int .i64 k] w fun e w' => ∃ v1 v2, e = .returned (.tuple #[v1, v2]) ∧ w'.ownsRow w.heap.size 3 1 v1 (knL h k n).length (vI (knL h k n)) ∧ w'.ownsRow w.heap.size 3 1 v2 (wnL h k n).length (vI (wnL h k n)) ∧ Below w.heap.size w w' := by
  have HC : Hid _ := hc
  clear hc
  obtain ⟨i0, hi, hz0, hz1, hz2⟩ := info_parts info3
  go_enter Tryz.func258, Tryz.ntmps258
  go_wp2
  go_loopw [10, 4, 5] (fun iv v1 v2 wr => ∃ i : Nat, i ≤ n ∧ iv = .int .i64 i ∧ wr.ownsRow w.heap.size 3 1 v1 (knL h k i).length (vI (knL h k i)) ∧ wr.ownsRow w.heap.size 3 1 v2 (wnL h k i).length (vI (wnL h k i)) ∧ Apt v1 v2 ∧ Below w.heap.size w wr) (fun iv _ _ _ => n - (intOf iv).toNat)
  case atStart => exact ⟨0, by omega, rfl, World.ownsRow_nil _ _ _ _, World.ownsRow_nil _ _ _ _, fun g a _ => by simp [Value.ownBlock] at a, Below.refl _ _⟩
  case round =>
    obtain ⟨i, hin, rfl, ho1, ho2, hap, hbl⟩ := hrel
    obtain ⟨a1, cap1, hu4⟩ := own_shapeq ho1
    obtain ⟨a2, cap2, hu5⟩ := own_shapeq ho2
    subst hu4
    subst hu5
    by_cases hlt : i < n
    · have c1 : wr.cell? ⟨b, i, none⟩ = some (.bool (h i)) := Cl.below HC.out hbl hb i hlt
      have l1 := knL_len h k i
      have l2 := wnL_len h k i
      have hB' : w.heap.size ≤ (wr.alloc (Obj.cells #[Value.int IntKind.i64 ((i : Nat) : Int)] 3)).heap.size := by have := hbl.size; simp; omega
      by_cases hh : h i = true ∧ (knL h k i).length < k
      · have hkn : knL h k (i + 1) = knL h k i ++ [i] := by rw [knL, if_pos hh]
        have hwn : wnL h k (i + 1) = wnL h k i := by rw [wnL, if_pos hh]
        have HKN : Hid _ := hkn
        have HWN : Hid _ := hwn
        rw [hh.1] at c1
        have hlk : ((knL h k i).length : Int) < (k : Int) := by omega
        clear hkn hwn hh
        go_wp2_with (at_builtin; refine wpList_append_own_at _ rfl (.tmp 22) (.tmp 24) 39 rfl w.heap.size 3 i0 (.int .i64 0) 1 8 Tryz.underlying39 hi hz0 hz1 hz2 rfl (by decide) _ (knL h k i).length (vI (knL h k i)) rfl (ho1.alloc _) ⟨wr.heap.size, 0, none⟩ 1 1 [.int .i64 ((i : Nat) : Int)] rfl rfl (cell_one_new _ _ _) (one_cell _) ?kb ?kc hB' ?_)
        case kb => unfold maxLen; omega
        case kc => omega
        intro v' w' hown' hgrow _ hblk
        have hoth := (ho2.alloc (Obj.cells #[Value.int IntKind.i64 ((i : Nat) : Int)] 3)).kept hgrow (hap.ne)
        have hap' : Apt v' (.slice a2 (wnL h k i).length cap2) := Apt.step hap (ho2.alloc (Obj.cells #[Value.int IntKind.i64 ((i : Nat) : Int)] 3)) (by simpa using hblk)
        have hbl' : Below w.heap.size w w' := (hbl.alloc hbl.size _).grown hgrow hB' (fun g hg => (own_ltq ho1 g hg).1)
        have ho1' : w'.ownsRow w.heap.size 3 1 v' (knL h k (i + 1)).length (vI (knL h k (i + 1))) := by rw [HKN.out, vI_snoc]; simpa using hown'
        have ho2' : w'.ownsRow w.heap.size 3 1 (.slice a2 (wnL h k i).length cap2) (wnL h k (i + 1)).length (vI (wnL h k (i + 1))) := by rw [HWN.out]; exact hoth
        clear hown' hgrow hblk hoth ho1 ho2 hap hbl hB'
        go_wp2
        go_roundw
        case rel => exact ⟨i + 1, by omega, by go_num, ho1', ho2', hap', hbl'⟩
        case measure => simp [intOf]; omega
      · have hkn : knL h k (i + 1) = knL h k i := by rw [knL, if_neg hh]
        have hwn : wnL h k (i + 1) = wnL h k i ++ [i] := by rw [wnL, if_neg hh]
        have HKN : Hid _ := hkn
        have HWN : Hid _ := hwn
        have hcase : h i = false ∨ (h i = true ∧ (k : Int) ≤ ((knL h k i).length : Int)) := by
          cases hv : h i with
          | false => exact .inl rfl
          | true => exact .inr ⟨rfl, by have : ¬ (knL h k i).length < k := fun e => hh ⟨hv, e⟩; omega⟩
        clear hkn hwn hh
        rcases hcase with hv | ⟨hv, hge⟩
        all_goals rw [hv] at c1
        all_goals
          go_wp2_with (at_builtin; refine wpList_append_own_at _ rfl (.tmp 26) (.tmp 28) 39 rfl w.heap.size 3 i0 (.int .i64 0) 1 8 Tryz.underlying39 hi hz0 hz1 hz2 rfl (by decide) _ (wnL h k i).length (vI (wnL h k i)) rfl (ho2.alloc _) ⟨wr.heap.size, 0, none⟩ 1 1 [.int .i64 ((i : Nat) : Int)] rfl rfl (cell_one_new _ _ _) (one_cell _) ?_ ?_ hB' ?_)
          · unfold maxLen; omega
          · omega
          intro v' w' hown' hgrow _ hblk
          have hoth := (ho1.alloc (Obj.cells #[Value.int IntKind.i64 ((i : Nat) : Int)] 3)).kept hgrow (hap.symm.ne)
          have hap' : Apt v' (.slice a1 (knL h k i).length cap1) := Apt.step hap.symm (ho1.alloc (Obj.cells #[Value.int IntKind.i64 ((i : Nat) : Int)] 3)) (by simpa using hblk)
          have hbl' : Below w.heap.size w w' := (hbl.alloc hbl.size _).grown hgrow hB' (fun g hg => (own_ltq ho2 g hg).1)
          have ho2' : w'.ownsRow w.heap.size 3 1 v' (wnL h k (i + 1)).length (vI (wnL h k (i + 1))) := by rw [HWN.out, vI_snoc]; simpa using hown'
          have ho1' : w'.ownsRow w.heap.size 3 1 (.slice a1 (knL h k i).length cap1) (knL h k (i + 1)).length (vI (knL h k (i + 1))) := by rw [HKN.out]; exact hoth
          clear hown' hgrow hblk hoth ho1 ho2 hap hbl hB'
          go_wp2
          go_roundw
          case rel => exact ⟨i + 1, by omega, by go_num, ho1', ho2', hap'.symm, hbl'⟩
          case measure => simp [intOf]; omega
    · have e : i = n := by omega
      subst e
      go_wp2
      go_ret2
      exact ⟨_, _, rfl, ho1, ho2, hbl⟩
end Go.Proofs.YtadinjaocnlglaaGreatDoor
namespace Go.Proofs.YtadinjaocnlglaaGreatDoor
open Go.RowKit
set_option maxRecDepth 100000
/-- values put at places, one behind the other -/
def puts (z : Nat → Value) (idx : Nat → Nat) (val : Nat → Value) : Nat → Nat → Value
  | 0 => z
  | j + 1 => updV (puts z idx val j) (idx j) (val j)
/-- the blocks that come out of fill -/
def filled (S : Nat → ByteArray) (p q : Nat → Nat) (k m c : Nat) : Nat → Value :=
  puts (puts (fun _ => .string ⟨#[]⟩) p (fun i => .string (S (p i))) k) q (tI (vl p q k c fun i => S (p i))) m
/-- all blocks but one are as they were -/
def Same (a : Nat) (w w' : World) : Prop := ∀ k, k ≠ a → w'.heap[k]? = w.heap[k]?
theorem Same.put {a : Nat} {w w' : World} (h : Same a w w') (i : Nat) (v : Value) : Same a w (w'.setCell ⟨a, i, none⟩ v) := fun k hk => (heap_setCell_other w' ⟨a, i, none⟩ k v hk).trans (h k hk)
theorem Same.rw {a : Nat} {w w' : World} (h : Same a w w') {g n : Nat} {t : TypeId} {f : Nat → Value} (r : Rw w g n t f) (hg : g ≠ a) : Rw w' g n t f := by
  unfold Rw; rw [h g hg]; exact r
theorem Same.cl {a : Nat} {w w' : World} (h : Same a w w') {b n : Nat} {v : Nat → Value} (r : Cl w b n v) (hb : b ≠ a) : Cl w' b n v := fun i hi => (World.cell?_of_block (a := ⟨b, i, none⟩) (h b hb)).trans (r i hi)
end Go.Proofs.YtadinjaocnlglaaGreatDoor
namespace Go.Proofs.YtadinjaocnlglaaGreatDoor
open Go.RowKit
set_option maxRecDepth 100000
def gt (l : List Nat) : Nat → Nat := fun i => l.getD i 0
theorem vI_get (l : List Nat) (i : Nat) (h : i < l.length) : (vI l)[i]? = some (.int .i64 ((gt l i : Nat) : Int)) := by
  simp [vI, gt, h]
/-- what was gathered, as a list of points -/
theorem own_cells {w : World} {B : Nat} {v : Value} {l : List Nat} (h : w.ownsRow B 3 1 v l.length (vI l)) (h0 : 0 < l.length) : ∃ g cap, v = .slice (some ⟨g, 0, none⟩) l.length cap ∧ g < w.heap.size ∧ Cl w g l.length (pI (gt l)) := by
  rcases h.2 with ⟨_, h'⟩ | ⟨g, cap, cur, hv, _, hh, _⟩
  · omega
  · subst hv
    refine ⟨g, cap, rfl, (Array.getElem?_eq_some_iff.1 hh).1, fun i hi => ?_⟩
    rw [h.cellAt i (by omega), vI_get l i hi]
    rfl
theorem own_pts {w : World} {B : Nat} {v : Value} {l : List Nat} (h : w.ownsRow B 3 1 v l.length (vI l)) : Pts w v l.length (gt l) := by
  rcases h.2 with ⟨h1, h'⟩ | ⟨g, cap, cur, hv, _, hh, _⟩
  · exact .inl ⟨h1, h'⟩
  · subst hv
    refine .inr ⟨g, cap, rfl, (Array.getElem?_eq_some_iff.1 hh).1, fun i hi => ?_⟩
    rw [h.cellAt i (by omega), vI_get l i hi]
    rfl
theorem knL_mem (h : Nat → Bool) (k : Nat) : ∀ n x, x ∈ knL h k n → x < n ∧ h x = true
  | 0, x, hx => by simp [knL] at hx
  | n + 1, x, hx => by
    rw [knL] at hx
    split at hx
    · rename_i hc
      rcases List.mem_append.1 hx with hx | hx
      · have := knL_mem h k n x hx; exact ⟨by omega, this.2⟩
      · simp at hx; subst hx; exact ⟨by omega, hc.1⟩
    · have := knL_mem h k n x hx; exact ⟨by omega, this.2⟩
theorem wnL_mem (h : Nat → Bool) (k : Nat) : ∀ n x, x ∈ wnL h k n → x < n
  | 0, x, hx => by simp [wnL] at hx
  | n + 1, x, hx => by
    rw [wnL] at hx
    split at hx
    · have := wnL_mem h k n x hx; omega
    · rcases List.mem_append.1 hx with hx | hx
      · have := wnL_mem h k n x hx; omega
      · simp at hx; omega
theorem gt_mem (l : List Nat) (i : Nat) (h : i < l.length) : gt l i ∈ l := by
  unfold gt; rw [List.getD_eq_getElem?_getD, List.getElem?_eq_getElem h]; exact List.getElem_mem h
end Go.Proofs.YtadinjaocnlglaaGreatDoor
namespace Go.Proofs.YtadinjaocnlglaaGreatDoor
open Go.RowKit
set_option maxRecDepth 100000
theorem puts_hit (z : Nat → Value) (idx : Nat → Nat) (val T : Nat → Value) (x : Nat) : ∀ m, (∀ j, j < m → val j = T (idx j)) → ((∃ j, j < m ∧ idx j = x) ∨ z x = T x) → puts z idx val m x = T x
  | 0, _, h => by
    rcases h with ⟨j, hj, _⟩ | h
    · omega
    · exact h
  | m + 1, hv, h => by
    rw [puts, updV]
    by_cases e : x = idx m
    · rw [if_pos e, hv m (by omega), e]
    · rw [if_neg e]
      refine puts_hit z idx val T x m (fun j hj => hv j (by omega)) ?_
      rcases h with ⟨j, hj, hx⟩ | h
      · refine .inl ⟨j, ?_, hx⟩
        by_cases e2 : j = m
        · subst e2; exact absurd hx.symm e
        · omega
      · exact .inr h
theorem knL_lt (h : Nat → Bool) (k : Nat) : ∀ n, (knL h k n).Pairwise (· < ·)
  | 0 => by simp [knL]
  | n + 1 => by
    rw [knL]
    split
    · refine List.pairwise_append.2 ⟨knL_lt h k n, by simp, fun a ha b hb => ?_⟩
      simp at hb; rw [hb]; exact (knL_mem h k n a ha).1
    · exact knL_lt h k n
theorem gt_lt (l : List Nat) (hl : l.Pairwise (· < ·)) (i j : Nat) (hij : i < j) (hj : j < l.length) : gt l i < gt l j := by
  unfold gt
  rw [List.getD_eq_getElem?_getD, List.getD_eq_getElem?_getD, List.getElem?_eq_getElem hj, List.getElem?_eq_getElem (by omega : i < l.length)]
  exact List.pairwise_iff_getElem.1 hl i j (by omega) hj hij
theorem gt_of_mem (l : List Nat) (x : Nat) (h : x ∈ l) : ∃ j, j < l.length ∧ gt l j = x := by
  obtain ⟨j, hj, e⟩ := List.mem_iff_getElem.1 h
  refine ⟨j, hj, ?_⟩
  unfold gt
  rw [List.getD_eq_getElem?_getD, List.getElem?_eq_getElem hj]
  exact e
theorem cover (h : Nat → Bool) (k x : Nat) : ∀ n, x < n → x ∈ knL h k n ∨ x ∈ wnL h k n
  | 0, hx => by omega
  | n + 1, hx => by
    rw [knL, wnL]
    by_cases e : x = n
    · subst e
      by_cases hc : h x = true ∧ (knL h k x).length < k
      · rw [if_pos hc]; left; simp
      · rw [if_neg hc, if_neg hc]; right; simp
    · have := cover h k x n (by omega)
      by_cases hc : h n = true ∧ (knL h k n).length < k
      · rw [if_pos hc, if_pos hc]
        rcases this with h1 | h1
        · left; exact List.mem_append.2 (.inl h1)
        · right; exact h1
      · rw [if_neg hc, if_neg hc]
        rcases this with h1 | h1
        · left; exact h1
        · right; exact List.mem_append.2 (.inl h1)
/-- how many places below n are told -/
def cnt (h : Nat → Bool) : Nat → Nat
  | 0 => 0
  | n + 1 => cnt h n + (if h n = true then 1 else 0)
theorem knL_cnt (h : Nat → Bool) (k : Nat) : ∀ n, (knL h k n).length = min k (cnt h n)
  | 0 => by simp [knL, cnt]
  | n + 1 => by
    rw [knL, cnt]
    have := knL_cnt h k n
    by_cases h1 : h n = true
    · rw [if_pos h1]
      by_cases h2 : (knL h k n).length < k
      · rw [if_pos ⟨h1, h2⟩, List.length_append, this]; simp; omega
      · rw [if_neg (fun x => h2 x.2), this]; omega
    · rw [if_neg h1, if_neg (fun x => h1 x.1), this]; omega
def updB (h : Nat → Bool) (x : Nat) (b : Bool) : Nat → Bool := fun j => if j = x then b else h j
theorem cnt_all (n : Nat) : cnt (fun _ => true) n = n := by
  induction n with
  | zero => rfl
  | succ n ih => rw [cnt, ih]; rfl
theorem cnt_same (h g : Nat → Bool) : ∀ n, (∀ j, j < n → h j = g j) → cnt h n = cnt g n
  | 0, _ => rfl
  | n + 1, e => by rw [cnt, cnt, cnt_same h g n (fun j hj => e j (by omega)), e n (by omega)]
theorem cnt_first (h : Nat → Bool) : ∀ n, 0 < cnt h n → ∃ i, i < n ∧ h i = true ∧ ∀ j, j < i → h j = false
  | 0, p => by simp [cnt] at p
  | n + 1, p => by
    rw [cnt] at p
    by_cases q : 0 < cnt h n
    · obtain ⟨i, hi, h1, h2⟩ := cnt_first h n q; exact ⟨i, by omega, h1, h2⟩
    · have hz : cnt h n = 0 := by omega
      have h1 : h n = true := by
        by_cases e : h n = true
        · exact e
        · rw [if_neg e] at p; omega
      refine ⟨n, by omega, h1, fun j hj => ?_⟩
      have aux : ∀ m, j < m → m ≤ n → cnt h m = 0 → h j = false := by
        intro m
        induction m with
        | zero => intro hm; omega
        | succ m ih =>
          intro hm hle hc
          rw [cnt] at hc
          by_cases e : j = m
          · subst e
            by_cases e2 : h j = true
            · rw [if_pos e2] at hc; omega
            · simpa using e2
          · exact ih (by omega) (by omega) (by omega)
      exact aux n hj (Nat.le_refl _) hz
/-- ALL BLOCKS COME BACK -/
theorem filled_all (S B : Nat → ByteArray) (h : Nat → Bool) (k m c : Nat) (hkm : k + m ≤ 255) (hS : ∀ i, i < k → (S i).size = c) (hB : ∀ i, i < k + m → h i = true → B i = allS S k c i) (hK : (knL h k (k + m)).length = k) (x : Nat) (hx : x < k + m) :
    filled B (gt (knL h k (k + m))) (gt (wnL h k (k + m))) k (wnL h k (k + m)).length c x = .string (allS S k c x) := by
  have hkn : ∀ i, i < k → B (gt (knL h k (k + m)) i) = allS S k c (gt (knL h k (k + m)) i) := fun i hi => by
    have := knL_mem h k (k + m) _ (gt_mem (knL h k (k + m)) i (by rw [hK]; exact hi)); exact hB _ this.1 this.2
  have hlt : ∀ i, i < k → gt (knL h k (k + m)) i < 256 := fun i hi => by
    have := knL_mem h k (k + m) _ (gt_mem (knL h k (k + m)) i (by rw [hK]; exact hi)); omega
  have hne : ∀ i j, i < k → j < k → i ≠ j → gt (knL h k (k + m)) i ≠ gt (knL h k (k + m)) j := fun i j hi hj e => by
    rcases Nat.lt_or_gt_of_ne e with e | e
    · have := gt_lt _ (knL_lt h k (k + m)) i j e (by rw [hK]; exact hj); omega
    · have := gt_lt _ (knL_lt h k (k + m)) j i e (by rw [hK]; exact hi); omega
  unfold filled
  refine puts_hit _ _ _ (fun x => .string (allS S k c x)) x _ (fun j hj => ?_) ?_
  · have hq : gt (wnL h k (k + m)) j < 256 := by have := wnL_mem h k (k + m) _ (gt_mem (wnL h k (k + m)) j hj); omega
    exact congrArg Value.string (vl_back S k c (gt (knL h k (k + m))) (gt (wnL h k (k + m))) j _ (by omega) hS hq hlt hne hkn)
  · rcases cover h k x (k + m) hx with h1 | h1
    · right
      refine puts_hit _ _ _ (fun x => .string (allS S k c x)) x _ (fun j hj => congrArg Value.string (hkn j hj)) (.inl ?_)
      obtain ⟨j, hj, e⟩ := gt_of_mem _ _ h1
      exact ⟨j, by rw [hK] at hj; exact hj, e⟩
    · left; exact gt_of_mem _ _ h1
end Go.Proofs.YtadinjaocnlglaaGreatDoor
namespace Go.Proofs.YtadinjaocnlglaaGreatDoor
open Go.RowKit
set_option maxHeartbeats 1000000
set_option maxRecDepth 100000
end Go.Proofs.YtadinjaocnlglaaGreatDoor
namespace Go.Proofs.YtadinjaocnlglaaGreatDoor
open Go.RowKit
set_option maxRecDepth 100000
set_option maxHeartbeats 1000000
end Go.Proofs.YtadinjaocnlglaaGreatDoor
namespace Go.Proofs.YtadinjaocnlglaaGreatDoor
open Go.RowKit
set_option maxRecDepth 100000
set_option maxHeartbeats 1000000
theorem at_err (k i : Int) (w : World) : Calls Tryz.prog 151 #[.int .i64 k, .int .i64 i] w fun e w' => ∃ g, e = .returned (.iface 305 (.pointer (some ⟨g, 0, none⟩))) ∧ w'.heap[g]? = some (.cells #[.int .i64 k, .int .i64 i, .nilIface] 307 (0, 0)) ∧ Below w.heap.size w w' := by
  refine (At_any k i w).mono ?_
  rintro e w' ⟨rfl, rfl⟩
  exact ⟨_, rfl, heap_alloc_new _ _, (Below.refl _ _).alloc (Nat.le_refl _) _⟩
theorem over_err (k i : Int) (a : Addr) (w : World) : Calls Tryz.prog 178 #[.int .i64 k, .int .i64 i, .iface 305 (.pointer (some a))] w fun e w' => ∃ g, e = .returned (.iface 305 (.pointer (some ⟨g, 0, none⟩))) ∧ w'.heap[g]? = some (.cells #[.int .i64 k, .int .i64 i, .iface 305 (.pointer (some a))] 307 (0, 0)) ∧ Below w.heap.size w w' := by
  go_enter Tryz.func178, Tryz.ntmps178
  go_wp2
  go_ret
  exact ⟨_, rfl, heap_alloc_new _ _, (Below.refl _ _).alloc (Nat.le_refl _) _⟩
end Go.Proofs.YtadinjaocnlglaaGreatDoor
namespace Go.Proofs.YtadinjaocnlglaaGreatDoor
open Go.RowKit
set_option maxRecDepth 100000
set_option maxHeartbeats 4000000
theorem cut_gen (s : ByteArray) (z c : Nat) (w : World) (hz : 0 < z) (hsz : s.size ≤ 100000) (hq0 : s.size / z = c) :
    Calls Tryz.prog 203 #[.string s, .int .i64 z] w fun e w' => e = .returned (.slice (some ⟨w.heap.size, 0, none⟩) c c) ∧ Rw w' w.heap.size c 9 (tX (pc s z)) ∧ Below w.heap.size w w' := by
  have hd := wrap_div s.size z (by omega)
  rw [hq0] at hd
  have hz0 : ((z : Int) == 0) = false := by simp; omega
  have hcs : c * z ≤ s.size := by rw [← hq0]; exact Nat.div_mul_le_self _ _
  have hcm : c ≤ 100000 := by rw [← hq0]; exact Nat.le_trans (Nat.div_le_self _ _) hsz
  have hmk := run_make_row' (P := Tryz.prog) 42 9 (.string ⟨#[]⟩) 16 Tryz.underlying42 info9 rfl .i64 .i64 c (by omega) (by omega)
  have HS : Hid _ := hcs
  clear hcs hq0
  go_enter Tryz.func203, Tryz.ntmps203
  go_wp2
  go_loopw [14] (fun iv wr => ∃ i : Nat, i ≤ c ∧ iv = .int .i64 i ∧ Below w.heap.size w wr ∧ Rw wr w.heap.size c 9 (part' i (tX (pc s z)) (.string ⟨#[]⟩))) (fun iv _ => c - (intOf iv).toNat)
  case atStart => exact ⟨0, by omega, rfl, (Below.refl _ _).alloc (Nat.le_refl _) _, (Rw.made w c 9 (.string ⟨#[]⟩)).to (fun j _ => (part_0 _ _ j).symm)⟩
  case round =>
    obtain ⟨i, hi, rfl, hb, hR⟩ := hrel
    by_cases hlt : i < c
    · have c1 := hR.cell i hlt
      have c2 := hR.free i
      have hle : (i + 1) * z ≤ s.size := Nat.le_trans (Nat.mul_le_mul_right z (by omega)) HS.out
      have hll : i * z ≤ (i + 1) * z := Nat.mul_le_mul_right z (by omega)
      obtain ⟨lo, hlo⟩ : ∃ lo, i * z = lo := ⟨_, rfl⟩
      obtain ⟨up, hup⟩ : ∃ up, (i + 1) * z = up := ⟨_, rfl⟩
      have e1 : (i : Int) * (z : Int) = ((lo : Nat) : Int) := by rw [← hlo]; simp
      have e2 : ((i : Int) + 1) * (z : Int) = ((up : Nat) : Int) := by rw [← hup]; simp
      rw [hlo, hup] at hll
      rw [hup] at hle
      have HPC : Hid (pc s z i = s.extract lo up) := by show pc s z i = s.extract lo up; unfold pc; rw [hlo, hup]
      clear hlo hup
      have hsl : ∀ W, (Instr.slice 9 (.string s) (some (.int .i64 ((lo : Nat) : Int))) (some (.int .i64 ((up : Nat) : Int))) none).run Tryz.prog W = .ok (.string (s.extract lo up)) W := fun W => by
        rw [run_slice_string W 9 s .i64 .i64 _ _ Tryz.underlying9 (by omega) (by omega) (by omega), Int.toNat_natCast, Int.toNat_natCast]
      have hc' : (i : Int) < (c : Int) := by omega
      go_wp2
      go_roundw
      case rel => exact ⟨i + 1, by omega, by go_num, hb.setCell (Nat.le_refl _) _, (hR.put i _).to (fun j _ => by rw [← HPC.out, ← part_step]; rfl)⟩
      case measure => simp [intOf]; omega
    · have e : i = c := by omega
      subst e
      go_wp2
      go_ret
      exact ⟨rfl, hR.to (fun j hj => by simp [part', hj]), hb⟩
end Go.Proofs.YtadinjaocnlglaaGreatDoor
