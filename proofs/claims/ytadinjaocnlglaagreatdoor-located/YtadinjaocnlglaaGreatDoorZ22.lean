/-
  Plain: what the program reckons is Lagrange's sum in the field; from any k blocks all come back.
  The walks of slices.Index, stripe.checkLengths, split.
-/
import Derived.Test.YtadinjaocnlglaaGreatDoorZ03
import Derived.Test.YtadinjaocnlglaaGreatDoorZ21
import Derived.Maps.AppendAt
import Derived.WalkKit
import Derived.WalkSpells
import Derived.WalkLawsBesides
import Derived.BigRegion
import Derived.BigQuiet
import Derived.Deep.QuietTactic
import Derived.Deep.RegionWith
import Derived.Deep.RegionHeld3
namespace Go.Proofs.YtadinjaocnlglaaGreatDoor
open Go.RowKit
set_option maxRecDepth 100000
def m8 (n : Nat) : N8 := ⟨n % 256, Nat.mod_lt _ (by omega)⟩
theorem m8_val (n : Nat) (h : n < 256) : (m8 n).1 = n := Nat.mod_eq_of_lt h
theorem m8_inj (a b : Nat) (ha : a < 256) (hb : b < 256) (h : m8 a = m8 b) : a = b := by
  have := congrArg Subtype.val h
  rwa [m8_val a ha, m8_val b hb] at this
theorem ahd_gf (f : Nat → Nat) (G : Nat → N8) (n : Nat) (hG : ∀ l, l < n → (G l).1 = f l) : ∀ j, j ≤ n → ahd f j = (GF.ahd G j).1
  | 0, _ => rfl
  | j + 1, h => by
    show gm (ahd f j) (f j) = gm (GF.ahd G j).1 (G j).1
    rw [ahd_gf f G n hG j (by omega), hG j (by omega)]
theorem bhd_gf (f : Nat → Nat) (G : Nat → N8) (n : Nat) (hG : ∀ l, l < n → (G l).1 = f l) : ∀ c, c ≤ n → bhd f n c = (GF.bhd G n c).1
  | 0, _ => rfl
  | c + 1, h => by
    show gm (bhd f n c) (f (n - 1 - c)) = gm (GF.bhd G n c).1 (G (n - 1 - c)).1
    rw [bhd_gf f G n hG c (by omega), hG (n - 1 - c) (by omega)]
theorem oth_gf (f : Nat → Nat) (G : Nat → N8) (n : Nat) (hG : ∀ l, l < n → (G l).1 = f l) (j : Nat) (hj : j < n) : oth f n j = (GF.oth G n j).1 := by
  show gm (ahd f j) (bhd f n (n - 1 - j)) = gm (GF.ahd G j).1 (GF.bhd G n (n - 1 - j)).1
  rw [ahd_gf f G n hG j (by omega), bhd_gf f G n hG (n - 1 - j) (by omega)]
theorem hgt_gf (p : Nat → Nat) (P : Nat → N8) (n : Nat) (hP : ∀ l, l < n → (P l).1 = p l) (i : Nat) (hi : i < n) : ∀ k, k ≤ n → hgt p i k = (GF.hgt P i k).1
  | 0, _ => rfl
  | k + 1, h => by
    rw [hgt, Fld.hgt]
    by_cases e : k = i
    · rw [if_pos e, if_pos e]; exact hgt_gf p P n hP i hi k (by omega)
    · rw [if_neg e, if_neg e]
      show gm (hgt p i k) (p i ^^^ p k) = gm (GF.hgt P i k).1 ((P i).1 ^^^ (P k).1)
      rw [hgt_gf p P n hP i hi k (by omega), hP i hi, hP k (by omega)]
theorem wt_gf (p : Nat → Nat) (P : Nat → N8) (n : Nat) (hP : ∀ l, l < n → (P l).1 = p l) (x : Nat) (X : N8) (hX : X.1 = x) (j : Nat) (hj : j < n) : wt p n x j = (GF.wt P n X j).1 := by
  have h1 : oth (fun l => x ^^^ p l) n j = (GF.oth (fun l => GF.add X (P l)) n j).1 :=
    oth_gf _ _ n (fun l hl => by show X.1 ^^^ (P l).1 = x ^^^ p l; rw [hX, hP l hl]) j hj
  show gm (oth (fun l => x ^^^ p l) n j) (gm 1 (gi (hgt p j n))) = gm (GF.oth (fun l => GF.add X (P l)) n j).1 (gm 1 (gi (GF.hgt P j n).1))
  rw [h1, hgt_gf p P n hP j hj n (Nat.le_refl _)]
theorem sm_gf (u : Nat → Nat) (V : Nat → Nat → Nat) (l : Nat) (U Y : Nat → N8) (n : Nat) (hU : ∀ i, i < n → (U i).1 = u i) (hY : ∀ i, i < n → (Y i).1 = V i l) : ∀ k, k ≤ n → sm u V l k = (GF.sm U Y k).1
  | 0, _ => rfl
  | k + 1, h => by
    show sm u V l k ^^^ gm (u k) (V k l) = (GF.sm U Y k).1 ^^^ gm (U k).1 (Y k).1
    rw [sm_gf u V l U Y n hU hY k (by omega), hU k (by omega), hY k (by omega)]
/-- the polynomial of the bytes at the place l -/
def plyn (S : Nat → ByteArray) (k l : Nat) (x : N8) : N8 := GF.sm (GF.wt m8 k x) (fun i => m8 (bN (S i) l)) k
theorem plyn_poly (S : Nat → ByteArray) (k l : Nat) : GF.Poly k (plyn S k l) := Fld.sm_poly GF m8 _ k k (Nat.le_refl _)
theorem plyn_data (S : Nat → ByteArray) (k l i : Nat) (hk : k ≤ 256) (hi : i < k) : (plyn S k l (m8 i)).1 = bN (S i) l := by
  unfold plyn
  rw [Fld.sm_at GF m8 _ k (fun a b ha hb hne h => hne (m8_inj a b (by omega) (by omega) h)) i hi k (Nat.le_refl _), if_pos hi, m8_val _ (bN_lt _ _)]
theorem plyn_par (S : Nat → ByteArray) (k l x : Nat) (hk : k ≤ 256) (hx : x < 256) : (plyn S k l (m8 x)).1 = sm (wt (fun i => i) k x) (fun i l => bN (S i) l) l k :=
  (sm_gf _ _ l _ _ k (fun i hi => (wt_gf (fun i => i) m8 k (fun a ha => m8_val a (by omega)) x (m8 x) (m8_val x hx) i hi).symm) (fun _ _ => m8_val _ (bN_lt _ _)) k (Nat.le_refl _)).symm
theorem plyn_back (S : Nat → ByteArray) (k l x : Nat) (p : Nat → Nat) (A : Nat → ByteArray) (hx : x < 256) (hp : ∀ i, i < k → p i < 256) (hd : ∀ i j, i < k → j < k → i ≠ j → p i ≠ p j) (hA : ∀ i, i < k → bN (A (p i)) l = (plyn S k l (m8 (p i))).1) :
    sm (wt p k x) (fun i l => bN (A (p i)) l) l k = (plyn S k l (m8 x)).1 := by
  rw [← Fld.back GF (fun i => m8 (p i)) k (fun i j hi hj hne h => hd i j hi hj hne (m8_inj _ _ (hp i hi) (hp j hj) h)) (plyn S k l) (plyn_poly S k l) (m8 x)]
  exact sm_gf _ _ l _ _ k (fun i hi => (wt_gf p (fun i => m8 (p i)) k (fun a ha => m8_val _ (hp a ha)) x (m8 x) (m8_val x hx) i hi).symm) (fun i hi => (hA i hi).symm) k (Nat.le_refl _)

theorem txtN_size (n : Nat) (f : Nat → Nat) : (txtN n f).size = n := by simp [txtN, strOfNums_size]
theorem bN_txtN (n : Nat) (f : Nat → Nat) (i : Nat) (hi : i < n) (hf : f i < 256) : bN (txtN n f) i = f i := by
  unfold bN txtN
  rw [strOfNums_data, List.getD_eq_getElem?_getD]
  simp [hi]
  omega
theorem bN_ext (a b : ByteArray) (h : a.size = b.size) (e : ∀ i, i < a.size → bN a i = bN b i) : a = b := by
  apply ByteArray.ext
  apply Array.ext
  · exact h
  · intro i h1 h2
    have := e i h1
    unfold bN at this
    rw [List.getD_eq_getElem?_getD, List.getD_eq_getElem?_getD, List.getElem?_eq_getElem (by simpa using h1), List.getElem?_eq_getElem (by simpa using h2)] at this
    exact UInt8.toNat_inj.1 this
/-- all blocks of a stripe -/
def allS (S : Nat → ByteArray) (k c x : Nat) : ByteArray := if x < k then S x else vl (fun i => i) (fun i => k + i) k c S (x - k)
theorem sm_wt_lt (p : Nat → Nat) (V : Nat → Nat → Nat) (n x l : Nat) (k : Nat) : sm (wt p n x) V l k < 256 := sm_lt _ _ _ (fun i => wt_lt p n x i) k
theorem allS_size (S : Nat → ByteArray) (k c x : Nat) (hS : ∀ i, i < k → (S i).size = c) : (allS S k c x).size = c := by
  unfold allS
  by_cases h : x < k
  · rw [if_pos h]; exact hS x h
  · rw [if_neg h]; exact txtN_size c _
theorem allS_byte (S : Nat → ByteArray) (k c x l : Nat) (hk : k ≤ 256) (hx : x < 256) (hl : l < c) : bN (allS S k c x) l = (plyn S k l (m8 x)).1 := by
  unfold allS
  by_cases h : x < k
  · rw [if_pos h, plyn_data S k l x hk h]
  · rw [if_neg h, plyn_par S k l x hk hx]
    refine (bN_txtN c (fun j => sm (wt (fun i => i) k (k + (x - k))) (fun i l => bN (S i) l) j k) l hl (sm_wt_lt _ _ _ _ _ _)).trans ?_
    rw [show k + (x - k) = x by omega]
/-- FROM ANY K BLOCKS A LOST ONE COMES BACK -/
theorem vl_back (S : Nat → ByteArray) (k c : Nat) (p q : Nat → Nat) (j : Nat) (T : Nat → ByteArray) (hk : k ≤ 256) (hS : ∀ i, i < k → (S i).size = c) (hq : q j < 256) (hp : ∀ i, i < k → p i < 256) (hd : ∀ i j, i < k → j < k → i ≠ j → p i ≠ p j) (hT : ∀ i, i < k → T i = allS S k c (p i)) :
    vl p q k c T j = allS S k c (q j) := by
  apply bN_ext
  · rw [allS_size S k c _ hS]; exact txtN_size c _
  · intro l hl
    have hlc : l < c := by rw [show (vl p q k c T j).size = c from txtN_size c _] at hl; exact hl
    rw [allS_byte S k c (q j) l hk hq hlc]
    refine (bN_txtN c (fun x => sm (wt p k (q j)) (fun i l => bN (T i) l) x k) l hlc (sm_wt_lt _ _ _ _ _ _)).trans ?_
    have e : sm (wt p k (q j)) (fun k j => bN (T k) j) l k = sm (wt p k (q j)) (fun i l => bN (allS S k c (p i)) l) l k := by
      have : ∀ n, n ≤ k → sm (wt p k (q j)) (fun k j => bN (T k) j) l n = sm (wt p k (q j)) (fun i l => bN (allS S k c (p i)) l) l n := by
        intro n
        induction n with
        | zero => intro _; rfl
        | succ n ih => intro h; rw [sm, sm, ih (by omega), hT n (by omega)]
      exact this k (Nat.le_refl _)
    rw [e]
    exact plyn_back S k l (q j) p (allS S k c) hq hp hd (fun i hi => allS_byte S k c (p i) l hk (hp i hi) hlc)
end Go.Proofs.YtadinjaocnlglaaGreatDoor
namespace Go.Proofs.YtadinjaocnlglaaGreatDoor
open Go.RowKit
set_option maxRecDepth 100000
/-- a list of bools -/
def bI (h : Nat → Bool) : Nat → Value := fun i => .bool (h i)
set_option maxHeartbeats 400000 in
theorem index_found (h : Nat → Bool) (b n cap i0 : Nat) (w : World) (hn : n ≤ 1000) (hi0 : i0 < n) (h1 : h i0 = true) (h2 : ∀ j, j < i0 → h j = false) (hc : Cl w b n (bI h)) :
    Calls Tryz.prog 293 #[.slice (some ⟨b, 0, none⟩) n cap, .bool true] w fun e w' => e = .returned (.int .i64 i0) ∧ w' = w := by
  have HC : Hid _ := hc
  have H1 : Hid _ := h1
  have H2 : Hid _ := h2
  clear hc h1 h2
  go_enter Tryz.func293, Tryz.ntmps293
  go_wp2
  go_loop [8] (fun iv => ∃ i : Nat, i ≤ i0 ∧ iv = .int .i64 i) (fun iv => n - (intOf iv).toNat)
  case atStart => exact ⟨0, by omega, rfl⟩
  case round =>
    obtain ⟨i, hi, rfl⟩ := hrel
    have c1 : w.cell? ⟨b, i, none⟩ = some (.bool (h i)) := HC.out i (by omega)
    have hin : i < n := by omega
    by_cases e : i = i0
    · subst e
      rw [H1.out] at c1
      go_wp2
      go_ret
      exact ⟨rfl, rfl⟩
    · rw [H2.out i (by omega)] at c1
      go_wp2
      go_round
      case rel => exact ⟨i + 1, by omega, by go_num⟩
      case measure => simp [intOf]; omega
/-- the first k places that has, among the first i -/
def knL (h : Nat → Bool) (k : Nat) : Nat → List Nat
  | 0 => []
  | i + 1 => if h i = true ∧ (knL h k i).length < k then knL h k i ++ [i] else knL h k i
/-- the others -/
def wnL (h : Nat → Bool) (k : Nat) : Nat → List Nat
  | 0 => []
  | i + 1 => if h i = true ∧ (knL h k i).length < k then wnL h k i else wnL h k i ++ [i]
theorem knL_len (h : Nat → Bool) (k : Nat) : ∀ i, (knL h k i).length ≤ i
  | 0 => by simp [knL]
  | i + 1 => by
    rw [knL]
    have := knL_len h k i
    split
    · simp; omega
    · omega
theorem wnL_len (h : Nat → Bool) (k : Nat) : ∀ i, (wnL h k i).length ≤ i
  | 0 => by simp [wnL]
  | i + 1 => by
    rw [wnL]
    have := wnL_len h k i
    split
    · omega
    · simp; omega
def vI (l : List Nat) : List Value := l.map fun p => .int .i64 ((p : Nat) : Int)
theorem vI_snoc (l : List Nat) (i : Nat) : vI (l ++ [i]) = vI l ++ [.int .i64 ((i : Nat) : Int)] := by simp [vI]
theorem own_ltq {w : World} {base : Nat} {e : TypeId} {size : Nat} {v : Value} {n : Nat} {xs : List Value} (h : w.ownsRow base e size v n xs) : ∀ g, v.ownBlock = some g → base ≤ g ∧ g < w.heap.size := by
  intro g hg
  rcases h.2 with ⟨h', _⟩ | ⟨g', cap', cur, h', hb, hh, _⟩
  · rw [h'] at hg; simp [Value.ownBlock] at hg
  · rw [h'] at hg; simp [Value.ownBlock] at hg
    subst hg
    exact ⟨hb, (Array.getElem?_eq_some_iff.1 hh).1⟩
/-- two slices of the call's own do not share their array -/
def Apt (u v : Value) : Prop := ∀ g, u.ownBlock = some g → v.ownBlock = some g → False
theorem Apt.symm {u v : Value} (h : Apt u v) : Apt v u := fun g a b => h g b a
theorem Apt.ne {u v : Value} (h : Apt u v) : v.ownBlock = none ∨ v.ownBlock ≠ u.ownBlock := by
  cases hv : v.ownBlock with
  | none => exact .inl rfl
  | some g => exact .inr (fun e => h g e.symm hv)
theorem Apt.step {w : World} {base : Nat} {e : TypeId} {size n : Nat} {xs : List Value} {u v u' : Value} (h : Apt u v) (hv : w.ownsRow base e size v n xs) (hu : u'.ownBlock = u.ownBlock ∨ u'.ownBlock = some w.heap.size) : Apt u' v := by
  intro g a b
  rcases hu with hu | hu
  · exact h g (by rw [← hu]; exact a) b
  · rw [hu] at a
    have := (own_ltq hv g b).2
    cases a
    omega
theorem one_cell (x : Int) : ∀ u ∈ [Value.int .i64 x], u.oneCell' = true := by
  intro u hu; simp at hu; subst hu; rfl
theorem own_shapeq {w : World} {base : Nat} {e : TypeId} {size : Nat} {v : Value} {n : Nat} {xs : List Value} (h : w.ownsRow base e size v n xs) : ∃ a cap, v = .slice a n cap := by
  rcases h.2 with ⟨h', h0⟩ | ⟨g', cap', cur, h', _⟩
  · exact ⟨none, 0, by rw [h', h0]⟩
  · exact ⟨_, _, h'⟩
set_option maxHeartbeats 1000000 in
theorem split_any (h : Nat → Bool) (b n cap k : Nat) (w : World) (hn : n ≤ 1000) (hk : k ≤ 1000) (hb : b < w.heap.size) (hc : Cl w b n (bI h)) :
    Calls Tryz.prog 258 #[.slice (some ⟨b, 0, none⟩) n cap, .int .i64 k] w fun e w' => ∃ v1 v2, e = .returned (.tuple #[v1, v2]) ∧ w'.ownsRow w.heap.size 3 1 v1 (knL h k n).length (vI (knL h k n)) ∧ w'.ownsRow w.heap.size 3 1 v2 (wnL h k n).length (vI (wnL h k n)) ∧ Below w.heap.size w w' := by
  have HC : Hid _ := hc
  clear hc
  obtain ⟨i0, hi, hz0, hz1, hz2⟩ := info_parts info3
  go_enter Tryz.func258, Tryz.ntmps258
  go_wp2
  go_loopw [10, 4, 5] (fun iv v1 v2 wr => ∃ i : Nat, i ≤ n ∧ iv = .int .i64 i ∧ wr.ownsRow w.heap.size 3 1 v1 (knL h k i).length (vI (knL h k i)) ∧ wr.ownsRow w.heap.size 3 1 v2 (wnL h k i).length (vI (wnL h k i)) ∧ Apt v1 v2 ∧ Below w.heap.size w wr) (fun iv _ _ _ => n - (intOf iv).toNat)
  case atStart => exact ⟨0, by omega, rfl, World.ownsRow_nil _ _ _ _, World.ownsRow_nil _ _ _ _, fun g a _ => by simp [Value.ownBlock] at a, Below.refl _ _⟩
  case round =>
    obtain ⟨i, hin, rfl, ho1, ho2, hap, hbl⟩ := hrel
    obtain ⟨a1, cap1, hu4⟩ := own_shapeq ho1
    obtain ⟨a2, cap2, hu5⟩ := own_shapeq ho2
    subst hu4
    subst hu5
    by_cases hlt : i < n
    · have c1 : wr.cell? ⟨b, i, none⟩ = some (.bool (h i)) := Cl.below HC.out hbl hb i hlt
      have l1 := knL_len h k i
      have l2 := wnL_len h k i
      have hB' : w.heap.size ≤ (wr.alloc (Obj.cells #[Value.int IntKind.i64 ((i : Nat) : Int)] 3)).heap.size := by have := hbl.size; simp; omega
      by_cases hh : h i = true ∧ (knL h k i).length < k
      · have hkn : knL h k (i + 1) = knL h k i ++ [i] := by rw [knL, if_pos hh]
        have hwn : wnL h k (i + 1) = wnL h k i := by rw [wnL, if_pos hh]
        have HKN : Hid _ := hkn
        have HWN : Hid _ := hwn
        rw [hh.1] at c1
        have hlk : ((knL h k i).length : Int) < (k : Int) := by omega
        clear hkn hwn hh
        go_wp2_with (at_builtin; refine wpList_append_own_at _ rfl (.tmp 22) (.tmp 24) 39 rfl w.heap.size 3 i0 (.int .i64 0) 1 8 Tryz.underlying39 hi hz0 hz1 hz2 rfl (by decide) _ (knL h k i).length (vI (knL h k i)) rfl (ho1.alloc _) ⟨wr.heap.size, 0, none⟩ 1 1 [.int .i64 ((i : Nat) : Int)] rfl rfl (cell_one_new _ _ _) (one_cell _) ?kb ?kc hB' ?_)
        case kb => unfold maxLen; omega
        case kc => omega
        intro v' w' hown' hgrow _ hblk
        have hoth := (ho2.alloc (Obj.cells #[Value.int IntKind.i64 ((i : Nat) : Int)] 3)).kept hgrow (hap.ne)
        have hap' : Apt v' (.slice a2 (wnL h k i).length cap2) := Apt.step hap (ho2.alloc (Obj.cells #[Value.int IntKind.i64 ((i : Nat) : Int)] 3)) (by simpa using hblk)
        have hbl' : Below w.heap.size w w' := (hbl.alloc hbl.size _).grown hgrow hB' (fun g hg => (own_ltq ho1 g hg).1)
        have ho1' : w'.ownsRow w.heap.size 3 1 v' (knL h k (i + 1)).length (vI (knL h k (i + 1))) := by rw [HKN.out, vI_snoc]; simpa using hown'
        have ho2' : w'.ownsRow w.heap.size 3 1 (.slice a2 (wnL h k i).length cap2) (wnL h k (i + 1)).length (vI (wnL h k (i + 1))) := by rw [HWN.out]; exact hoth
        clear hown' hgrow hblk hoth ho1 ho2 hap hbl hB'
        go_wp2
        go_roundw
        case rel => exact ⟨i + 1, by omega, by go_num, ho1', ho2', hap', hbl'⟩
        case measure => simp [intOf]; omega
      · have hkn : knL h k (i + 1) = knL h k i := by rw [knL, if_neg hh]
        have hwn : wnL h k (i + 1) = wnL h k i ++ [i] := by rw [wnL, if_neg hh]
        have HKN : Hid _ := hkn
        have HWN : Hid _ := hwn
        have hcase : h i = false ∨ (h i = true ∧ (k : Int) ≤ ((knL h k i).length : Int)) := by
          cases hv : h i with
          | false => exact .inl rfl
          | true => exact .inr ⟨rfl, by have : ¬ (knL h k i).length < k := fun e => hh ⟨hv, e⟩; omega⟩
        clear hkn hwn hh
        rcases hcase with hv | ⟨hv, hge⟩
        all_goals rw [hv] at c1
        all_goals
          go_wp2_with (at_builtin; refine wpList_append_own_at _ rfl (.tmp 26) (.tmp 28) 39 rfl w.heap.size 3 i0 (.int .i64 0) 1 8 Tryz.underlying39 hi hz0 hz1 hz2 rfl (by decide) _ (wnL h k i).length (vI (wnL h k i)) rfl (ho2.alloc _) ⟨wr.heap.size, 0, none⟩ 1 1 [.int .i64 ((i : Nat) : Int)] rfl rfl (cell_one_new _ _ _) (one_cell _) ?_ ?_ hB' ?_)
          · unfold maxLen; omega
          · omega
          intro v' w' hown' hgrow _ hblk
          have hoth := (ho1.alloc (Obj.cells #[Value.int IntKind.i64 ((i : Nat) : Int)] 3)).kept hgrow (hap.symm.ne)
          have hap' : Apt v' (.slice a1 (knL h k i).length cap1) := Apt.step hap.symm (ho1.alloc (Obj.cells #[Value.int IntKind.i64 ((i : Nat) : Int)] 3)) (by simpa using hblk)
          have hbl' : Below w.heap.size w w' := (hbl.alloc hbl.size _).grown hgrow hB' (fun g hg => (own_ltq ho2 g hg).1)
          have ho2' : w'.ownsRow w.heap.size 3 1 v' (wnL h k (i + 1)).length (vI (wnL h k (i + 1))) := by rw [HWN.out, vI_snoc]; simpa using hown'
          have ho1' : w'.ownsRow w.heap.size 3 1 (.slice a1 (knL h k i).length cap1) (knL h k (i + 1)).length (vI (knL h k (i + 1))) := by rw [HKN.out]; exact hoth
          clear hown' hgrow hblk hoth ho1 ho2 hap hbl hB'
          go_wp2
          go_roundw
          case rel => exact ⟨i + 1, by omega, by go_num, ho1', ho2', hap'.symm, hbl'⟩
          case measure => simp [intOf]; omega
    · have e : i = n := by omega
      subst e
      go_wp2
      go_ret2
      exact ⟨_, _, rfl, ho1, ho2, hbl⟩
end Go.Proofs.YtadinjaocnlglaaGreatDoor
