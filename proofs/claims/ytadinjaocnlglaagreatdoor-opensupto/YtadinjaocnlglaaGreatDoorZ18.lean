/-
  Plain: what the program reckons is Lagrange's sum in the field; from any k blocks all come back.
  The walks of slices.Index, stripe.checkLengths, split.
  The walk of stripe.fill.
  The walks of stripe.Restore, vault.Restore, where they refuse nothing.
  Plain: what Restore puts together is the whole stripe, wherever k places are told as known.
  The walks of lent, list, still, sameTexts.
-/
import Derived.Test.YtadinjaocnlglaaGreatDoorZ04
import Derived.Test.YtadinjaocnlglaaGreatDoorZ17
import Derived.Maps.AppendAt
import Derived.WalkKit
import Derived.WalkSpells
import Derived.WalkLawsBesides
import Derived.BigRegion
import Derived.BigQuiet
import Derived.Deep.QuietTactic
import Derived.Deep.RegionWith
import Derived.Deep.RegionHeld3
namespace Go.Proofs.YtadinjaocnlglaaGreatDoor
open Go.RowKit
set_option maxRecDepth 100000
def m8 (n : Nat) : N8 := ⟨n % 256, Nat.mod_lt _ (by omega)⟩
theorem m8_val (n : Nat) (h : n < 256) : (m8 n).1 = n := Nat.mod_eq_of_lt h
theorem m8_inj (a b : Nat) (ha : a < 256) (hb : b < 256) (h : m8 a = m8 b) : a = b := by
 have := congrArg Subtype.val h
 rwa [m8_val a ha, m8_val b hb] at this
theorem ahd_gf (f : Nat → Nat) (G : Nat → N8) (n : Nat) (hG : ∀ l, l < n → (G l).1 = f l) : ∀ j, j ≤ n → ahd f j = (GF.ahd G j).1
 | 0, _ => rfl
 | j + 1, h => by
  show gm (ahd f j) (f j) = gm (GF.ahd G j).1 (G j).1
  rw [ahd_gf f G n hG j (by omega), hG j (by omega)]
theorem bhd_gf (f : Nat → Nat) (G : Nat → N8) (n : Nat) (hG : ∀ l, l < n → (G l).1 = f l) : ∀ c, c ≤ n → bhd f n c = (GF.bhd G n c).1
 | 0, _ => rfl
 | c + 1, h => by
  show gm (bhd f n c) (f (n - 1 - c)) = gm (GF.bhd G n c).1 (G (n - 1 - c)).1
  rw [bhd_gf f G n hG c (by omega), hG (n - 1 - c) (by omega)]
theorem oth_gf (f : Nat → Nat) (G : Nat → N8) (n : Nat) (hG : ∀ l, l < n → (G l).1 = f l) (j : Nat) (hj : j < n) : oth f n j = (GF.oth G n j).1 := by
 show gm (ahd f j) (bhd f n (n - 1 - j)) = gm (GF.ahd G j).1 (GF.bhd G n (n - 1 - j)).1
 rw [ahd_gf f G n hG j (by omega), bhd_gf f G n hG (n - 1 - j) (by omega)]
theorem hgt_gf (p : Nat → Nat) (P : Nat → N8) (n : Nat) (hP : ∀ l, l < n → (P l).1 = p l) (i : Nat) (hi : i < n) : ∀ k, k ≤ n → hgt p i k = (GF.hgt P i k).1
 | 0, _ => rfl
 | k + 1, h => by
  rw [hgt, Fld.hgt]
  by_cases e : k = i
  ·rw [if_pos e, if_pos e]; exact hgt_gf p P n hP i hi k (by omega)
  ·rw [if_neg e, if_neg e]
   show gm (hgt p i k) (p i ^^^ p k) = gm (GF.hgt P i k).1 ((P i).1 ^^^ (P k).1)
   rw [hgt_gf p P n hP i hi k (by omega), hP i hi, hP k (by omega)]
theorem wt_gf (p : Nat → Nat) (P : Nat → N8) (n : Nat) (hP : ∀ l, l < n → (P l).1 = p l) (x : Nat) (X : N8) (hX : X.1 = x) (j : Nat) (hj : j < n) : wt p n x j = (GF.wt P n X j).1 := by
 have h1 : oth (fun l => x ^^^ p l) n j = (GF.oth (fun l => GF.add X (P l)) n j).1 :=
  oth_gf _ _ n (fun l hl => by show X.1 ^^^ (P l).1 = x ^^^ p l; rw [hX, hP l hl]) j hj
 show gm (oth (fun l => x ^^^ p l) n j) (gm 1 (gi (hgt p j n))) = gm (GF.oth (fun l => GF.add X (P l)) n j).1 (gm 1 (gi (GF.hgt P j n).1))
 rw [h1, hgt_gf p P n hP j hj n (Nat.le_refl _)]
theorem sm_gf (u : Nat → Nat) (V : Nat → Nat → Nat) (l : Nat) (U Y : Nat → N8) (n : Nat) (hU : ∀ i, i < n → (U i).1 = u i) (hY : ∀ i, i < n → (Y i).1 = V i l) : ∀ k, k ≤ n → sm u V l k = (GF.sm U Y k).1
 | 0, _ => rfl
 | k + 1, h => by
  show sm u V l k ^^^ gm (u k) (V k l) = (GF.sm U Y k).1 ^^^ gm (U k).1 (Y k).1
  rw [sm_gf u V l U Y n hU hY k (by omega), hU k (by omega), hY k (by omega)]
theorem txtN_size (n : Nat) (f : Nat → Nat) : (txtN n f).size = n := by simp [txtN, strOfNums_size]
theorem bN_txtN (n : Nat) (f : Nat → Nat) (i : Nat) (hi : i < n) (hf : f i < 256) : bN (txtN n f) i = f i := by
 unfold bN txtN
 rw [strOfNums_data, List.getD_eq_getElem?_getD]
 simp [hi]
 omega
theorem bN_ext (a b : ByteArray) (h : a.size = b.size) (e : ∀ i, i < a.size → bN a i = bN b i) : a = b := by
 apply ByteArray.ext
 apply Array.ext
 ·exact h
 ·intro i h1 h2
  have := e i h1
  unfold bN at this
  rw [List.getD_eq_getElem?_getD, List.getD_eq_getElem?_getD, List.getElem?_eq_getElem (by simpa using h1), List.getElem?_eq_getElem (by simpa using h2)] at this
  exact UInt8.toNat_inj.1 this
def allS (S : Nat → ByteArray) (k c x : Nat) : ByteArray := if x < k then S x else vl (fun i => i) (fun i => k + i) k c S (x - k)
theorem sm_wt_lt (p : Nat → Nat) (V : Nat → Nat → Nat) (n x l : Nat) (k : Nat) : sm (wt p n x) V l k < 256 := sm_lt _ _ _ (fun i => wt_lt p n x i) k
def bI (h : Nat → Bool) : Nat → Value := fun i => .bool (h i)
set_option maxHeartbeats 400000 in
theorem index_found (h : Nat → Bool) (b n cap i0 : Nat) (w : World) (hn : n ≤ 1000) (hi0 : i0 < n) (h1 : h i0 = true) (h2 : ∀ j, j < i0 → h j = false) (hc : Cl w b n (bI h)) :
  Calls Tryz.prog 293 #[.slice (some ⟨b, 0, none⟩) n cap, .bool true] w fun e w' => e = .returned (.int .i64 i0) ∧ w' = w := by
 have HC : Hid _ := hc
 have H1 : Hid _ := h1
 have H2 : Hid _ := h2
 clear hc h1 h2
 go_enter Tryz.func293, Tryz.ntmps293
 go_wp2
 go_loop [8] (fun iv => ∃ i : Nat, i ≤ i0 ∧ iv = .int .i64 i) (fun iv => n - (intOf iv).toNat)
 case atStart => exact ⟨0, by omega, rfl⟩
 case round =>
  obtain ⟨i, hi, rfl⟩ := hrel
  have c1 : w.cell? ⟨b, i, none⟩ = some (.bool (h i)) := HC.out i (by omega)
  have hin : i < n := by omega
  by_cases e : i = i0
  ·subst e
   rw [H1.out] at c1
   go_wp2
   go_ret
   exact ⟨rfl, rfl⟩
  ·rw [H2.out i (by omega)] at c1
   go_wp2
   go_round
   case rel => exact ⟨i + 1, by omega, by go_num⟩
   case measure => simp [intOf]; omega
def knL (h : Nat → Bool) (k : Nat) : Nat → List Nat
 | 0 => []
 | i + 1 => if h i = true ∧ (knL h k i).length < k then knL h k i ++ [i] else knL h k i
def wnL (h : Nat → Bool) (k : Nat) : Nat → List Nat
 | 0 => []
 | i + 1 => if h i = true ∧ (knL h k i).length < k then wnL h k i else wnL h k i ++ [i]
theorem knL_len (h : Nat → Bool) (k : Nat) : ∀ i, (knL h k i).length ≤ i
 | 0 => by simp [knL]
 | i + 1 => by
  rw [knL]
  have := knL_len h k i
  split
  ·simp; omega
  ·omega
theorem wnL_len (h : Nat → Bool) (k : Nat) : ∀ i, (wnL h k i).length ≤ i
 | 0 => by simp [wnL]
 | i + 1 => by
  rw [wnL]
  have := wnL_len h k i
  split
  ·omega
  ·simp; omega
def vI (l : List Nat) : List Value := l.map fun p => .int .i64 ((p : Nat) : Int)
theorem vI_snoc (l : List Nat) (i : Nat) : vI (l ++ [i]) = vI l ++ [.int .i64 ((i : Nat) : Int)] := by simp [vI]
theorem own_ltq {w : World} {base : Nat} {e : TypeId} {size : Nat} {v : Value} {n : Nat} {xs : List Value} (h : w.ownsRow base e size v n xs) : ∀ g, v.ownBlock = some g → base ≤ g ∧ g < w.heap.size := by
 intro g hg
 rcases h.2 with ⟨h', _⟩ | ⟨g', cap', cur, h', hb, hh, _⟩
 ·rw [h'] at hg; simp [Value.ownBlock] at hg
 ·rw [h'] at hg; simp [Value.ownBlock] at hg
  subst hg
  exact ⟨hb, (Array.getElem?_eq_some_iff.1 hh).1⟩
def Apt (u v : Value) : Prop := ∀ g, u.ownBlock = some g → v.ownBlock = some g → False
theorem Apt.symm {u v : Value} (h : Apt u v) : Apt v u := fun g a b => h g b a
theorem Apt.ne {u v : Value} (h : Apt u v) : v.ownBlock = none ∨ v.ownBlock ≠ u.ownBlock := by
 cases hv : v.ownBlock with
 | none => exact .inl rfl
 | some g => exact .inr (fun e => h g e.symm hv)
theorem Apt.step {w : World} {base : Nat} {e : TypeId} {size n : Nat} {xs : List Value} {u v u' : Value} (h : Apt u v) (hv : w.ownsRow base e size v n xs) (hu : u'.ownBlock = u.ownBlock ∨ u'.ownBlock = some w.heap.size) : Apt u' v := by
 intro g a b
 rcases hu with hu | hu
 ·exact h g (by rw [← hu]; exact a) b
 ·rw [hu] at a
  have := (own_ltq hv g b).2
  cases a
  omega
theorem one_cell (x : Int) : ∀ u ∈ [Value.int .i64 x], u.oneCell' = true := by
 intro u hu; simp at hu; subst hu; rfl
theorem own_shapeq {w : World} {base : Nat} {e : TypeId} {size : Nat} {v : Value} {n : Nat} {xs : List Value} (h : w.ownsRow base e size v n xs) : ∃ a cap, v = .slice a n cap := by
 rcases h.2 with ⟨h', h0⟩ | ⟨g', cap', cur, h', _⟩
 ·exact ⟨none, 0, by rw [h', h0]⟩
 ·exact ⟨_, _, h'⟩
set_option maxHeartbeats 1000000 in
theorem split_any (h : Nat → Bool) (b n cap k : Nat) (w : World) (hn : n ≤ 1000) (hk : k ≤ 1000) (hb : b < w.heap.size) (hc : Cl w b n (bI h)) :
  Calls Tryz.prog 258 #[.slice (some ⟨b, 0, none⟩) n cap, .int .i64 k] w fun e w' => ∃ v1 v2, e = .returned (.tuple #[v1, v2]) ∧ w'.ownsRow w.heap.size 3 1 v1 (knL h k n).length (vI (knL h k n)) ∧ w'.ownsRow w.heap.size 3 1 v2 (wnL h k n).length (vI (wnL h k n)) ∧ Below w.heap.size w w' := by
 have HC : Hid _ := hc
 clear hc
 obtain ⟨i0, hi, hz0, hz1, hz2⟩ := info_parts info3
 go_enter Tryz.func258, Tryz.ntmps258
 go_wp2
 go_loopw [10, 4, 5] (fun iv v1 v2 wr => ∃ i : Nat, i ≤ n ∧ iv = .int .i64 i ∧ wr.ownsRow w.heap.size 3 1 v1 (knL h k i).length (vI (knL h k i)) ∧ wr.ownsRow w.heap.size 3 1 v2 (wnL h k i).length (vI (wnL h k i)) ∧ Apt v1 v2 ∧ Below w.heap.size w wr) (fun iv _ _ _ => n - (intOf iv).toNat)
 case atStart => exact ⟨0, by omega, rfl, World.ownsRow_nil _ _ _ _, World.ownsRow_nil _ _ _ _, fun g a _ => by simp [Value.ownBlock] at a, Below.refl _ _⟩
 case round =>
  obtain ⟨i, hin, rfl, ho1, ho2, hap, hbl⟩ := hrel
  obtain ⟨a1, cap1, hu4⟩ := own_shapeq ho1
  obtain ⟨a2, cap2, hu5⟩ := own_shapeq ho2
  subst hu4
  subst hu5
  by_cases hlt : i < n
  ·have c1 : wr.cell? ⟨b, i, none⟩ = some (.bool (h i)) := Cl.below HC.out hbl hb i hlt
   have l1 := knL_len h k i
   have l2 := wnL_len h k i
   have hB' : w.heap.size ≤ (wr.alloc (Obj.cells #[Value.int IntKind.i64 ((i : Nat) : Int)] 3)).heap.size := by have := hbl.size; simp; omega
   by_cases hh : h i = true ∧ (knL h k i).length < k
   ·have hkn : knL h k (i + 1) = knL h k i ++ [i] := by rw [knL, if_pos hh]
    have hwn : wnL h k (i + 1) = wnL h k i := by rw [wnL, if_pos hh]
    have HKN : Hid _ := hkn
    have HWN : Hid _ := hwn
    rw [hh.1] at c1
    have hlk : ((knL h k i).length : Int) < (k : Int) := by omega
    clear hkn hwn hh
    go_wp2_with (at_builtin; refine wpList_append_own_at _ rfl (.tmp 22) (.tmp 24) 39 rfl w.heap.size 3 i0 (.int .i64 0) 1 8 Tryz.underlying39 hi hz0 hz1 hz2 rfl (by decide) _ (knL h k i).length (vI (knL h k i)) rfl (ho1.alloc _) ⟨wr.heap.size, 0, none⟩ 1 1 [.int .i64 ((i : Nat) : Int)] rfl rfl (cell_one_new _ _ _) (one_cell _) ?kb ?kc hB' ?_)
    case kb => unfold maxLen; omega
    case kc => omega
    intro v' w' hown' hgrow _ hblk
    have hoth := (ho2.alloc (Obj.cells #[Value.int IntKind.i64 ((i : Nat) : Int)] 3)).kept hgrow (hap.ne)
    have hap' : Apt v' (.slice a2 (wnL h k i).length cap2) := Apt.step hap (ho2.alloc (Obj.cells #[Value.int IntKind.i64 ((i : Nat) : Int)] 3)) (by simpa using hblk)
    have hbl' : Below w.heap.size w w' := (hbl.alloc hbl.size _).grown hgrow hB' (fun g hg => (own_ltq ho1 g hg).1)
    have ho1' : w'.ownsRow w.heap.size 3 1 v' (knL h k (i + 1)).length (vI (knL h k (i + 1))) := by rw [HKN.out, vI_snoc]; simpa using hown'
    have ho2' : w'.ownsRow w.heap.size 3 1 (.slice a2 (wnL h k i).length cap2) (wnL h k (i + 1)).length (vI (wnL h k (i + 1))) := by rw [HWN.out]; exact hoth
    clear hown' hgrow hblk hoth ho1 ho2 hap hbl hB'
    go_wp2
    go_roundw
    case rel => exact ⟨i + 1, by omega, by go_num, ho1', ho2', hap', hbl'⟩
    case measure => simp [intOf]; omega
   ·have hkn : knL h k (i + 1) = knL h k i := by rw [knL, if_neg hh]
    have hwn : wnL h k (i + 1) = wnL h k i ++ [i] := by rw [wnL, if_neg hh]
    have HKN : Hid _ := hkn
    have HWN : Hid _ := hwn
    have hcase : h i = false ∨ (h i = true ∧ (k : Int) ≤ ((knL h k i).length : Int)) := by
     cases hv : h i with
     | false => exact .inl rfl
     | true => exact .inr ⟨rfl, by have : ¬ (knL h k i).length < k := fun e => hh ⟨hv, e⟩; omega⟩
    clear hkn hwn hh
    rcases hcase with hv | ⟨hv, hge⟩
    all_goals rw [hv] at c1
    all_goals
     go_wp2_with (at_builtin; refine wpList_append_own_at _ rfl (.tmp 26) (.tmp 28) 39 rfl w.heap.size 3 i0 (.int .i64 0) 1 8 Tryz.underlying39 hi hz0 hz1 hz2 rfl (by decide) _ (wnL h k i).length (vI (wnL h k i)) rfl (ho2.alloc _) ⟨wr.heap.size, 0, none⟩ 1 1 [.int .i64 ((i : Nat) : Int)] rfl rfl (cell_one_new _ _ _) (one_cell _) ?_ ?_ hB' ?_)
     ·unfold maxLen; omega
     ·omega
     intro v' w' hown' hgrow _ hblk
     have hoth := (ho1.alloc (Obj.cells #[Value.int IntKind.i64 ((i : Nat) : Int)] 3)).kept hgrow (hap.symm.ne)
     have hap' : Apt v' (.slice a1 (knL h k i).length cap1) := Apt.step hap.symm (ho1.alloc (Obj.cells #[Value.int IntKind.i64 ((i : Nat) : Int)] 3)) (by simpa using hblk)
     have hbl' : Below w.heap.size w w' := (hbl.alloc hbl.size _).grown hgrow hB' (fun g hg => (own_ltq ho2 g hg).1)
     have ho2' : w'.ownsRow w.heap.size 3 1 v' (wnL h k (i + 1)).length (vI (wnL h k (i + 1))) := by rw [HWN.out, vI_snoc]; simpa using hown'
     have ho1' : w'.ownsRow w.heap.size 3 1 (.slice a1 (knL h k i).length cap1) (knL h k (i + 1)).length (vI (knL h k (i + 1))) := by rw [HKN.out]; exact hoth
     clear hown' hgrow hblk hoth ho1 ho2 hap hbl hB'
     go_wp2
     go_roundw
     case rel => exact ⟨i + 1, by omega, by go_num, ho1', ho2', hap'.symm, hbl'⟩
     case measure => simp [intOf]; omega
  ·have e : i = n := by omega
   subst e
   go_wp2
   go_ret2
   exact ⟨_, _, rfl, ho1, ho2, hbl⟩
def puts (z : Nat → Value) (idx : Nat → Nat) (val : Nat → Value) : Nat → Nat → Value
 | 0 => z
 | j + 1 => updV (puts z idx val j) (idx j) (val j)
def filled (S : Nat → ByteArray) (p q : Nat → Nat) (k m c : Nat) : Nat → Value :=
 puts (puts (fun _ => .string ⟨#[]⟩) p (fun i => .string (S (p i))) k) q (tI (vl p q k c fun i => S (p i))) m
def Same (a : Nat) (w w' : World) : Prop := ∀ k, k ≠ a → w'.heap[k]? = w.heap[k]?
theorem Same.put {a : Nat} {w w' : World} (h : Same a w w') (i : Nat) (v : Value) : Same a w (w'.setCell ⟨a, i, none⟩ v) := fun k hk => (heap_setCell_other w' ⟨a, i, none⟩ k v hk).trans (h k hk)
theorem Same.rw {a : Nat} {w w' : World} (h : Same a w w') {g n : Nat} {t : TypeId} {f : Nat → Value} (r : Rw w g n t f) (hg : g ≠ a) : Rw w' g n t f := by
 unfold Rw; rw [h g hg]; exact r
theorem Same.cl {a : Nat} {w w' : World} (h : Same a w w') {b n : Nat} {v : Nat → Value} (r : Cl w b n v) (hb : b ≠ a) : Cl w' b n v := fun i hi => (World.cell?_of_block (a := ⟨b, i, none⟩) (h b hb)).trans (r i hi)
def gt (l : List Nat) : Nat → Nat := fun i => l.getD i 0
theorem vI_get (l : List Nat) (i : Nat) (h : i < l.length) : (vI l)[i]? = some (.int .i64 ((gt l i : Nat) : Int)) := by
 simp [vI, gt, h]
theorem own_cells {w : World} {B : Nat} {v : Value} {l : List Nat} (h : w.ownsRow B 3 1 v l.length (vI l)) (h0 : 0 < l.length) : ∃ g cap, v = .slice (some ⟨g, 0, none⟩) l.length cap ∧ g < w.heap.size ∧ Cl w g l.length (pI (gt l)) := by
 rcases h.2 with ⟨_, h'⟩ | ⟨g, cap, cur, hv, _, hh, _⟩
 ·omega
 ·subst hv
  refine ⟨g, cap, rfl, (Array.getElem?_eq_some_iff.1 hh).1, fun i hi => ?_⟩
  rw [h.cellAt i (by omega), vI_get l i hi]
  rfl
theorem own_pts {w : World} {B : Nat} {v : Value} {l : List Nat} (h : w.ownsRow B 3 1 v l.length (vI l)) : Pts w v l.length (gt l) := by
 rcases h.2 with ⟨h1, h'⟩ | ⟨g, cap, cur, hv, _, hh, _⟩
 ·exact .inl ⟨h1, h'⟩
 ·subst hv
  refine .inr ⟨g, cap, rfl, (Array.getElem?_eq_some_iff.1 hh).1, fun i hi => ?_⟩
  rw [h.cellAt i (by omega), vI_get l i hi]
  rfl
theorem knL_mem (h : Nat → Bool) (k : Nat) : ∀ n x, x ∈ knL h k n → x < n ∧ h x = true
 | 0, x, hx => by simp [knL] at hx
 | n + 1, x, hx => by
  rw [knL] at hx
  split at hx
  ·rename_i hc
   rcases List.mem_append.1 hx with hx | hx
   ·have := knL_mem h k n x hx; exact ⟨by omega, this.2⟩
   ·simp at hx; subst hx; exact ⟨by omega, hc.1⟩
  ·have := knL_mem h k n x hx; exact ⟨by omega, this.2⟩
theorem wnL_mem (h : Nat → Bool) (k : Nat) : ∀ n x, x ∈ wnL h k n → x < n
 | 0, x, hx => by simp [wnL] at hx
 | n + 1, x, hx => by
  rw [wnL] at hx
  split at hx
  ·have := wnL_mem h k n x hx; omega
  ·rcases List.mem_append.1 hx with hx | hx
   ·have := wnL_mem h k n x hx; omega
   ·simp at hx; omega
theorem gt_mem (l : List Nat) (i : Nat) (h : i < l.length) : gt l i ∈ l := by
 unfold gt; rw [List.getD_eq_getElem?_getD, List.getElem?_eq_getElem h]; exact List.getElem_mem h
theorem puts_hit (z : Nat → Value) (idx : Nat → Nat) (val T : Nat → Value) (x : Nat) : ∀ m, (∀ j, j < m → val j = T (idx j)) → ((∃ j, j < m ∧ idx j = x) ∨ z x = T x) → puts z idx val m x = T x
 | 0, _, h => by
  rcases h with ⟨j, hj, _⟩ | h
  ·omega
  ·exact h
 | m + 1, hv, h => by
  rw [puts, updV]
  by_cases e : x = idx m
  ·rw [if_pos e, hv m (by omega), e]
  ·rw [if_neg e]
   refine puts_hit z idx val T x m (fun j hj => hv j (by omega)) ?_
   rcases h with ⟨j, hj, hx⟩ | h
   ·refine .inl ⟨j, ?_, hx⟩
    by_cases e2 : j = m
    ·subst e2; exact absurd hx.symm e
    ·omega
   ·exact .inr h
theorem knL_lt (h : Nat → Bool) (k : Nat) : ∀ n, (knL h k n).Pairwise (· < ·)
 | 0 => by simp [knL]
 | n + 1 => by
  rw [knL]
  split
  ·refine List.pairwise_append.2 ⟨knL_lt h k n, by simp, fun a ha b hb => ?_⟩
   simp at hb; rw [hb]; exact (knL_mem h k n a ha).1
  ·exact knL_lt h k n
theorem gt_lt (l : List Nat) (hl : l.Pairwise (· < ·)) (i j : Nat) (hij : i < j) (hj : j < l.length) : gt l i < gt l j := by
 unfold gt
 rw [List.getD_eq_getElem?_getD, List.getD_eq_getElem?_getD, List.getElem?_eq_getElem hj, List.getElem?_eq_getElem (by omega : i < l.length)]
 exact List.pairwise_iff_getElem.1 hl i j (by omega) hj hij
theorem gt_of_mem (l : List Nat) (x : Nat) (h : x ∈ l) : ∃ j, j < l.length ∧ gt l j = x := by
 obtain ⟨j, hj, e⟩ := List.mem_iff_getElem.1 h
 refine ⟨j, hj, ?_⟩
 unfold gt
 rw [List.getD_eq_getElem?_getD, List.getElem?_eq_getElem hj]
 exact e
theorem cover (h : Nat → Bool) (k x : Nat) : ∀ n, x < n → x ∈ knL h k n ∨ x ∈ wnL h k n
 | 0, hx => by omega
 | n + 1, hx => by
  rw [knL, wnL]
  by_cases e : x = n
  ·subst e
   by_cases hc : h x = true ∧ (knL h k x).length < k
   ·rw [if_pos hc]; left; simp
   ·rw [if_neg hc, if_neg hc]; right; simp
  ·have := cover h k x n (by omega)
   by_cases hc : h n = true ∧ (knL h k n).length < k
   ·rw [if_pos hc, if_pos hc]
    rcases this with h1 | h1
    ·left; exact List.mem_append.2 (.inl h1)
    ·right; exact h1
   ·rw [if_neg hc, if_neg hc]
    rcases this with h1 | h1
    ·left; exact h1
    ·right; exact List.mem_append.2 (.inl h1)
def cnt (h : Nat → Bool) : Nat → Nat
 | 0 => 0
 | n + 1 => cnt h n + (if h n = true then 1 else 0)
theorem knL_cnt (h : Nat → Bool) (k : Nat) : ∀ n, (knL h k n).length = min k (cnt h n)
 | 0 => by simp [knL, cnt]
 | n + 1 => by
  rw [knL, cnt]
  have := knL_cnt h k n
  by_cases h1 : h n = true
  ·rw [if_pos h1]
   by_cases h2 : (knL h k n).length < k
   ·rw [if_pos ⟨h1, h2⟩, List.length_append, this]; simp; omega
   ·rw [if_neg (fun x => h2 x.2), this]; omega
  ·rw [if_neg h1, if_neg (fun x => h1 x.1), this]; omega
def updB (h : Nat → Bool) (x : Nat) (b : Bool) : Nat → Bool := fun j => if j = x then b else h j
theorem cnt_first (h : Nat → Bool) : ∀ n, 0 < cnt h n → ∃ i, i < n ∧ h i = true ∧ ∀ j, j < i → h j = false
 | 0, p => by simp [cnt] at p
 | n + 1, p => by
  rw [cnt] at p
  by_cases q : 0 < cnt h n
  ·obtain ⟨i, hi, h1, h2⟩ := cnt_first h n q; exact ⟨i, by omega, h1, h2⟩
  ·have hz : cnt h n = 0 := by omega
   have h1 : h n = true := by
    by_cases e : h n = true
    ·exact e
    ·rw [if_neg e] at p; omega
   refine ⟨n, by omega, h1, fun j hj => ?_⟩
   have aux : ∀ m, j < m → m ≤ n → cnt h m = 0 → h j = false := by
    intro m
    induction m with
    | zero => intro hm; omega
    | succ m ih =>
     intro hm hle hc
     rw [cnt] at hc
     by_cases e : j = m
     ·subst e
      by_cases e2 : h j = true
      ·rw [if_pos e2] at hc; omega
      ·simpa using e2
     ·exact ih (by omega) (by omega) (by omega)
   exact aux n hj (Nat.le_refl _) hz
set_option maxHeartbeats 1000000
def bhdT : ByteArray := ⟨#[98, 101, 104, 105, 110, 100]⟩
def lF (L : Nat → ByteArray) (n : Nat) : Nat → Value := fun i => .string (if i < n then L i else bhdT)
structure LentAt (w : World) (x g1 g2 n : Nat) (nl : Bool) (L : Nat → ByteArray) : Prop where
 obj : w.heap[x]? = some (.cells #[.slice (some ⟨g1, 0, none⟩) (n + 8) (n + 8), .slice (some ⟨g2, 0, none⟩) (n + 8) (n + 8), .int .i64 n, .bool nl] 204 (0, 0))
 all : Rw w g1 (n + 8) 9 (lF L n)
 want : Rw w g2 (n + 8) 9 (lF L n)
 ne : g1 ≠ g2
def In (w : World) (a : Option Addr) (n : Nat) (L : Nat → ByteArray) : Prop := ∀ i, i < n → ∃ b off, a = some ⟨b, off, none⟩ ∧ b < w.heap.size ∧ w.cell? ⟨b, off + i, none⟩ = some (.string (L i))
theorem eql_nil (a : Option Addr) (n cap : Nat) (W : World) : (binOp .eql 42 (.slice a n cap) (.slice none 0 0)).run Tryz.prog W = .ok (.bool a.isNone) W := by cases a <;> kernel_rfl
theorem lent_any (L : Nat → ByteArray) (a : Option Addr) (n cap : Nat) (w : World) (hn : n ≤ 4398046511104) (hI : In w a n L) :
  Calls Tryz.prog 59 #[.slice a n cap] w fun e w' => ∃ g1 g2, e = .returned (.pointer (some ⟨w.heap.size, 0, none⟩)) ∧ w.heap.size < g1 ∧ w.heap.size < g2 ∧ LentAt w' w.heap.size g1 g2 n a.isNone L ∧ Below w.heap.size w w' := by
 have HI : Hid (In w a n L) := hI
 clear hI
 obtain ⟨m, hm, hmk⟩ : ∃ m, m = n + 8 ∧ ∀ W : World, (Instr.makeSlice 42 (.int .i64 ((n : Int) + 8)) (.int .i64 ((n : Int) + 8))).run Tryz.prog W = .ok (.slice (some ⟨W.heap.size, 0, none⟩) m m) (W.alloc (.cells (madeCells #[.string ⟨#[]⟩] m) 9)) := by
  refine ⟨n + 8, rfl, fun W => ?_⟩
  rw [show ((n : Int) + 8) = ((n + 8 : Nat) : Int) by omega]
  exact run_make_row' (P := Tryz.prog) 42 9 (.string ⟨#[]⟩) 16 Tryz.underlying42 info9 rfl .i64 .i64 (n + 8) (by omega) (by omega) W
 have HM : Hid _ := hm
 have hmb : m ≤ 4398046511112 := by omega
 clear hm
 have hnil := fun W => eql_nil a n cap W
 go_enter Tryz.func59, Tryz.ntmps59
 go_wp2
 obtain ⟨x, hx⟩ : ∃ x, x = w.heap.size := ⟨_, rfl⟩
 obtain ⟨w0, hw0⟩ : ∃ w0, w0 = (((w.alloc (Obj.cells #[Value.slice (some { block := w.heap.size + 1, off := 0 }) m m, Value.slice (some { block := w.heap.size + 1 + 1, off := 0 }) m m, Value.int IntKind.i64 ↑n, Value.bool a.isNone] 204)).alloc (Obj.cells (madeCells #[Value.string { data := #[] }] m) 9)).alloc (Obj.cells (madeCells #[Value.string { data := #[] }] m) 9)) := ⟨_, rfl⟩
 have hz0 : w0.heap.size = w.heap.size + 3 := by rw [hw0]; simp
 have hB0 : Below w.heap.size w w0 := by rw [hw0]; exact ((((Below.refl _ w).alloc (Nat.le_refl _) _)).alloc (by simp) _).alloc (by simp; omega) _
 have hO0 : w0.heap[w.heap.size]? = some (.cells #[.slice (some ⟨w.heap.size + 1, 0, none⟩) m m, .slice (some ⟨w.heap.size + 1 + 1, 0, none⟩) m m, .int .i64 n, .bool a.isNone] 204 (0, 0)) := by
  rw [hw0, Below.heap_alloc _ _ _ (by simp; omega), Below.heap_alloc _ _ _ (by simp)]; exact heap_alloc_new _ _
 have hA0 : Rw w0 (w.heap.size + 1) m 9 (fun _ => .string ⟨#[]⟩) := by
  have h1 := Rw.made (w.alloc (Obj.cells #[Value.slice (some { block := w.heap.size + 1, off := 0 }) m m, Value.slice (some { block := w.heap.size + 1 + 1, off := 0 }) m m, Value.int IntKind.i64 ↑n, Value.bool a.isNone] 204)) m 9 (.string ⟨#[]⟩)
  have e : (w.alloc (Obj.cells #[Value.slice (some { block := w.heap.size + 1, off := 0 }) m m, Value.slice (some { block := w.heap.size + 1 + 1, off := 0 }) m m, Value.int IntKind.i64 ↑n, Value.bool a.isNone] 204)).heap.size = w.heap.size + 1 := by simp
  rw [e] at h1
  rw [hw0]; exact h1.alloc _
 have hW0 : Rw w0 (w.heap.size + 1 + 1) m 9 (fun _ => .string ⟨#[]⟩) := by
  have h1 := Rw.made ((w.alloc (Obj.cells #[Value.slice (some { block := w.heap.size + 1, off := 0 }) m m, Value.slice (some { block := w.heap.size + 1 + 1, off := 0 }) m m, Value.int IntKind.i64 ↑n, Value.bool a.isNone] 204)).alloc (Obj.cells (madeCells #[Value.string { data := #[] }] m) 9)) m 9 (.string ⟨#[]⟩)
  have e : ((w.alloc (Obj.cells #[Value.slice (some { block := w.heap.size + 1, off := 0 }) m m, Value.slice (some { block := w.heap.size + 1 + 1, off := 0 }) m m, Value.int IntKind.i64 ↑n, Value.bool a.isNone] 204)).alloc (Obj.cells (madeCells #[Value.string { data := #[] }] m) 9)).heap.size = w.heap.size + 1 + 1 := by simp
  rw [e] at h1
  rw [hw0]; exact h1
 rw [← hw0]
 obtain ⟨g1, hg1⟩ : ∃ g1, g1 = w.heap.size + 1 := ⟨_, rfl⟩
 obtain ⟨g2, hg2⟩ : ∃ g2, g2 = w.heap.size + 1 + 1 := ⟨_, rfl⟩
 rw [← hg2] at hO0 hW0 ⊢
 rw [← hg1] at hO0 hA0 ⊢
 have k1 : w.heap.size < g1 := by omega
 have k2 : w.heap.size < g2 := by omega
 have k3 : g1 ≠ g2 := by omega
 rw [← hx] at hO0 hB0 k1 k2 ⊢
 have HX : Hid _ := hx
 clear hw0 hg1 hg2 hz0 hx
 go_loopw [4] (fun kv wr => ∃ k : Nat, k ≤ m ∧ kv = .int .i64 k ∧ wr.heap[x]? = some (.cells #[.slice (some ⟨g1, 0, none⟩) m m, .slice (some ⟨g2, 0, none⟩) m m, .int .i64 n, .bool a.isNone] 204 (0, 0)) ∧ Rw wr g1 m 9 (part' k (lF L n) (.string ⟨#[]⟩)) ∧ Rw wr g2 m 9 (part' k (lF L n) (.string ⟨#[]⟩)) ∧ Below x w wr) (fun kv _ => m - (intOf kv).toNat)
 case atStart => exact ⟨0, by omega, rfl, hO0, hA0.to (fun j _ => (part_0 _ _ j).symm), hW0.to (fun j _ => (part_0 _ _ j).symm), hB0⟩
 case round =>
  obtain ⟨k, hk, rfl, hO, hA, hW, hB⟩ := hrel
  have o0 : wr.cell? ⟨x, 0, none⟩ = some (.slice (some ⟨g1, 0, none⟩) m m) := cell_of_row _ _ _ _ 204 _ hO
  have o1 : wr.cell? ⟨x, 1, none⟩ = some (.slice (some ⟨g2, 0, none⟩) m m) := cell_of_row _ _ _ _ 204 _ hO
  by_cases hlt : k < m
  ·have c1 := hA.cell k hlt
   have f1 := hA.free k
   have n1 : x ≠ g1 := by omega
   have n2 : x ≠ g2 := by omega
   have HA1 : Hid (Rw (wr.setCell ⟨g1, k, none⟩ (.string bhdT)) g1 m 9 (updV (part' k (lF L n) (.string ⟨#[]⟩)) k (.string bhdT))) := hA.put k _
   have HW1 : Hid (Rw (wr.setCell ⟨g1, k, none⟩ (.string bhdT)) g2 m 9 (part' k (lF L n) (.string ⟨#[]⟩))) := hW.other _ _ (by simp; omega)
   have HO1 : Hid ((wr.setCell ⟨g1, k, none⟩ (.string bhdT)).heap[x]? = some (.cells #[.slice (some ⟨g1, 0, none⟩) m m, .slice (some ⟨g2, 0, none⟩) m m, .int .i64 n, .bool a.isNone] 204 (0, 0))) := by
    show (wr.setCell ⟨g1, k, none⟩ (.string bhdT)).heap[x]? = _
    rw [heap_setCell_other wr ⟨g1, k, none⟩ x _ (by simpa using n1)]; exact hO
   have HB1 : Hid (Below x w (wr.setCell ⟨g1, k, none⟩ (.string bhdT))) := hB.setCell (by simp; omega) _
   have hk0 : (0 : Int) ≤ (k : Int) := by omega
   have hkm : (k : Int) < (m : Int) := by omega
   by_cases hkn : k < n
   ·obtain ⟨b, off, ha, hbl, hc⟩ := HI.out k hkn
    subst ha
    have hkn' : (k : Int) < (n : Int) := by omega
    clear hA hW hO hB
    go_wp2
    rw [show ({ data := #[98, 101, 104, 105, 110, 100] } : ByteArray) = bhdT from rfl]
    obtain ⟨w1, hw1⟩ : ∃ w1, w1 = wr.setCell ⟨g1, k, none⟩ (.string bhdT) := ⟨_, rfl⟩
    rw [← hw1] at HA1 HW1 HO1 HB1 ⊢
    clear hw1 c1 f1 o0 o1
    have c1 := HA1.out.cell k hlt
    have f1 := HA1.out.free k
    have o0 : w1.cell? ⟨x, 0, none⟩ = some (.slice (some ⟨g1, 0, none⟩) m m) := cell_of_row _ _ _ _ 204 _ HO1.out
    have ci : w1.cell? ⟨b, off + k, none⟩ = some (.string (L k)) := (HB1.out.cell (p := ⟨b, off + k, none⟩) (by have := HX.out; show b < x; omega)).trans hc
    clear hc
    go_region
    have hV : lF L n k = .string (L k) := by unfold lF; rw [if_pos hkn]
    have HV : Hid _ := hV
    have HA2 : Hid (Rw (w1.setCell ⟨g1, k, none⟩ (.string (L k))).drew g1 m 9 (part' (k + 1) (lF L n) (.string ⟨#[]⟩))) := ((HA1.out.put k _).to (fun j _ => by rw [← part_step, hV]; unfold updV; split <;> rfl)).drew
    have HW2 : Hid (Rw (w1.setCell ⟨g1, k, none⟩ (.string (L k))).drew g2 m 9 (part' k (lF L n) (.string ⟨#[]⟩))) := (HW1.out.other _ _ (by simp; omega)).drew
    have HO2 : Hid ((w1.setCell ⟨g1, k, none⟩ (.string (L k))).drew.heap[x]? = some (.cells #[.slice (some ⟨g1, 0, none⟩) m m, .slice (some ⟨g2, 0, none⟩) m m, .int .i64 n, .bool (some (⟨b, off, none⟩ : Addr)).isNone] 204 (0, 0))) := by
     show (w1.setCell ⟨g1, k, none⟩ (.string (L k))).heap[x]? = _
     rw [heap_setCell_other w1 ⟨g1, k, none⟩ x _ (by simpa using n1)]; exact HO1.out
    have HB2 : Hid (Below x w (w1.setCell ⟨g1, k, none⟩ (.string (L k))).drew) := (HB1.out.setCell (by simp; omega) _).drew
    obtain ⟨w2, hw2⟩ : ∃ w2, w2 = (w1.setCell ⟨g1, k, none⟩ (.string (L k))).drew := ⟨_, rfl⟩
    rw [← hw2] at HA2 HW2 HO2 HB2 ⊢
    clear hw2 c1 f1 o0 ci HA1 HW1 HO1 HB1
    go_wp2
    have c1 := HA2.out.cell k hlt
    rw [show part' (k + 1) (lF L n) (.string ⟨#[]⟩) k = .string (L k) by unfold part'; rw [if_pos (by omega), hV]] at c1
    have c2 := HW2.out.cell k hlt
    have f2 := HW2.out.free k
    have o0 : w2.cell? ⟨x, 0, none⟩ = some (.slice (some ⟨g1, 0, none⟩) m m) := cell_of_row _ _ _ _ 204 _ HO2.out
    have o1 : w2.cell? ⟨x, 1, none⟩ = some (.slice (some ⟨g2, 0, none⟩) m m) := cell_of_row _ _ _ _ 204 _ HO2.out
    clear hV
    go_region
    have hA3 : Rw ((w2.setCell ⟨g2, k, none⟩ (.string (L k))).drew) g1 m 9 (part' (k + 1) (lF L n) (.string ⟨#[]⟩)) := (HA2.out.other _ _ (by simp; omega)).drew
    have hW3 : Rw ((w2.setCell ⟨g2, k, none⟩ (.string (L k))).drew) g2 m 9 (part' (k + 1) (lF L n) (.string ⟨#[]⟩)) := ((HW2.out.put k _).to (fun j _ => by rw [← part_step]; congr 1; exact (HV.out).symm)).drew
    have hO3 : ((w2.setCell ⟨g2, k, none⟩ (.string (L k))).drew).heap[x]? = some (.cells #[.slice (some ⟨g1, 0, none⟩) m m, .slice (some ⟨g2, 0, none⟩) m m, .int .i64 n, .bool (some (⟨b, off, none⟩ : Addr)).isNone] 204 (0, 0)) := by
     show (w2.setCell ⟨g2, k, none⟩ (.string (L k))).heap[x]? = _
     rw [heap_setCell_other w2 ⟨g2, k, none⟩ x _ (by simpa using n2)]; exact HO2.out
    have hB3 : Below x w ((w2.setCell ⟨g2, k, none⟩ (.string (L k))).drew) := (HB2.out.setCell (by simp; omega) _).drew
    clear c1 c2 f2 o0 o1
    go_wp2
    go_roundw
    case rel => exact ⟨k + 1, by omega, by go_num, hO3, hA3, hW3, hB3⟩
    case measure => simp [intOf]; omega
   ·have hkn' : ¬ (k : Int) < (n : Int) := by omega
    have hd : decide ((k : Int) < (n : Int)) = false := by simp; omega
    have hV : lF L n k = .string bhdT := by unfold lF; rw [if_neg hkn]
    have HV : Hid _ := hV
    clear hA hW hO hB
    go_wp2
    rw [show ({ data := #[98, 101, 104, 105, 110, 100] } : ByteArray) = bhdT from rfl]
    have HA2 : Hid (Rw (wr.setCell ⟨g1, k, none⟩ (.string bhdT)) g1 m 9 (part' (k + 1) (lF L n) (.string ⟨#[]⟩))) := HA1.out.to (fun j _ => by rw [← part_step, hV])
    obtain ⟨w1, hw1⟩ : ∃ w1, w1 = wr.setCell ⟨g1, k, none⟩ (.string bhdT) := ⟨_, rfl⟩
    rw [← hw1] at HA2 HW1 HO1 HB1 ⊢
    clear hw1 c1 f1 o0 o1 HA1
    have c1 := HA2.out.cell k hlt
    rw [show part' (k + 1) (lF L n) (.string ⟨#[]⟩) k = .string bhdT by unfold part'; rw [if_pos (by omega), hV]] at c1
    have c2 := HW1.out.cell k hlt
    have f2 := HW1.out.free k
    have o0 : w1.cell? ⟨x, 0, none⟩ = some (.slice (some ⟨g1, 0, none⟩) m m) := cell_of_row _ _ _ _ 204 _ HO1.out
    have o1 : w1.cell? ⟨x, 1, none⟩ = some (.slice (some ⟨g2, 0, none⟩) m m) := cell_of_row _ _ _ _ 204 _ HO1.out
    clear hV
    go_region
    have hA3 : Rw ((w1.setCell ⟨g2, k, none⟩ (.string (bhdT))).drew) g1 m 9 (part' (k + 1) (lF L n) (.string ⟨#[]⟩)) := (HA2.out.other _ _ (by simp; omega)).drew
    have hW3 : Rw ((w1.setCell ⟨g2, k, none⟩ (.string (bhdT))).drew) g2 m 9 (part' (k + 1) (lF L n) (.string ⟨#[]⟩)) := ((HW1.out.put k _).to (fun j _ => by rw [← part_step]; congr 1; exact (HV.out).symm)).drew
    have hO3 : ((w1.setCell ⟨g2, k, none⟩ (.string (bhdT))).drew).heap[x]? = some (.cells #[.slice (some ⟨g1, 0, none⟩) m m, .slice (some ⟨g2, 0, none⟩) m m, .int .i64 n, .bool a.isNone] 204 (0, 0)) := by
     show (w1.setCell ⟨g2, k, none⟩ (.string (bhdT))).heap[x]? = _
     rw [heap_setCell_other w1 ⟨g2, k, none⟩ x _ (by simpa using n2)]; exact HO1.out
    have hB3 : Below x w ((w1.setCell ⟨g2, k, none⟩ (.string (bhdT))).drew) := (HB1.out.setCell (by simp; omega) _).drew
    clear c1 c2 f2 o0 o1
    go_wp2
    go_roundw
    case rel => exact ⟨k + 1, by omega, by go_num, hO3, hA3, hW3, hB3⟩
    case measure => simp [intOf]; omega
  ·have e : k = m := by omega
   subst e
   have hm := HM.out
   go_wp2
   go_ret
   subst hm
   have hxx := HX.out
   subst hxx
   exact ⟨g1, g2, rfl, k1, k2, ⟨hO, hA.to (fun j hj => by simp [part', hj]), hW.to (fun j hj => by simp [part', hj]), k3⟩, hB⟩
theorem list_any (L : Nat → ByteArray) (x g1 g2 n : Nat) (nl : Bool) (w : World) (hn : n ≤ 4398046511104) (hL : LentAt w x g1 g2 n nl L) (hnl : nl = true → n = 0) :
  Calls Tryz.prog 61 #[.pointer (some ⟨x, 0, none⟩)] w fun e w' => ∃ v, e = .returned v ∧ (∃ q, w' = w.drewN q) ∧ ((v = .slice none 0 0 ∧ n = 0) ∨ v = .slice (some ⟨g1, 0, none⟩) n (n + 8)) := by
 have o0 : w.cell? ⟨x, 0, none⟩ = some (.slice (some ⟨g1, 0, none⟩) (n + 8) (n + 8)) := cell_of_row _ _ _ _ 204 _ hL.obj
 have o2 : w.cell? ⟨x, 2, none⟩ = some (.int .i64 n) := cell_of_row _ _ _ _ 204 _ hL.obj
 have o3 : w.cell? ⟨x, 3, none⟩ = some (.bool nl) := cell_of_row _ _ _ _ 204 _ hL.obj
 clear hL
 cases nl with
 | true =>
  obtain rfl : n = 0 := hnl rfl
  clear hnl
  go_enter Tryz.func61, Tryz.ntmps61
  go_wp2
  go_ret
  exact ⟨_, rfl, ⟨0, rfl⟩, .inl ⟨rfl, trivial⟩⟩
 | false =>
  clear hnl
  go_enter Tryz.func61, Tryz.ntmps61
  go_wp2
  go_quiet (fail)
  go_wp2
  go_ret
  exact ⟨_, rfl, ⟨_, rfl⟩, .inr rfl⟩
theorem same_anyq (A B : Nat → ByteArray) (n b cap b2 cap2 : Nat) (w : World) (hn : n ≤ 9000000000000) (hA : Cl w b n (tI A)) (hB : Cl w b2 n (tI B)) (h : ∀ i, i < n → A i = B i) :
  Calls Tryz.prog 99 #[.slice (some ⟨b, 0, none⟩) n cap, .slice (some ⟨b2, 0, none⟩) n cap2] w fun e w' => e = .returned (.bool true) ∧ ∃ q, w' = w.drewN q := by
 have HA : Hid _ := hA
 have HB : Hid _ := hB
 have H : Hid _ := h
 clear hA hB h
 go_enter Tryz.func99, Tryz.ntmps99
 go_wp2
 go_loopw [5] (fun iv wr => ∃ i q : Nat, i ≤ n ∧ iv = .int .i64 i ∧ wr = w.drewN q) (fun iv _ => n - (intOf iv).toNat)
 case atStart => exact ⟨0, 0, by omega, rfl, rfl⟩
 case round =>
  obtain ⟨i, q, hi, rfl, hq⟩ := hrel
  by_cases hlt : i < n
  ·have c1 : wr.cell? ⟨b, i, none⟩ = some (.string (A i)) := by rw [hq]; exact HA.out i hlt
   have c2 : wr.cell? ⟨b2, i, none⟩ = some (.string (A i)) := by rw [hq, H.out i hlt]; exact HB.out i hlt
   have HQ : Hid _ := hq
   clear hq
   have hi0' : (0 : Int) ≤ (i : Int) := by omega
   have hin' : (i : Int) < (n : Int) := by omega
   go_wp2
   go_quiet (fail)
   go_wp2
   go_roundw
   case rel => exact ⟨i + 1, _, by omega, by go_num, by rw [HQ.out, World.drewN_drewN]⟩
   case measure => simp [intOf]; omega
  ·go_wp2
   go_ret
   exact ⟨rfl, q, rfl⟩
def gn : ByteArray := ⟨#[103, 111, 110, 101]⟩
theorem still_any (L : Nat → ByteArray) (x g1 g2 n B : Nat) (nl : Bool) (w : World) (hn : n ≤ 4398046511104) (hL : LentAt w x g1 g2 n nl L) (hB : B ≤ g1) (hx : x ≠ g1) :
  Calls Tryz.prog 62 #[.pointer (some ⟨x, 0, none⟩)] w fun e w' => e = .returned (.bool true) ∧ Below B w w' ∧ ∀ q, q ≠ g1 → w'.heap[q]? = w.heap[q]? := by
 obtain ⟨m, hm⟩ : ∃ m, m = n + 8 := ⟨_, rfl⟩
 have hmb : m ≤ 4398046511112 := by omega
 have hO : w.heap[x]? = some (.cells #[.slice (some ⟨g1, 0, none⟩) m m, .slice (some ⟨g2, 0, none⟩) m m, .int .i64 n, .bool nl] 204 (0, 0)) := by rw [hm]; exact hL.obj
 have o0 : w.cell? ⟨x, 0, none⟩ = some (.slice (some ⟨g1, 0, none⟩) m m) := cell_of_row _ _ _ _ 204 _ hO
 have o1 : w.cell? ⟨x, 1, none⟩ = some (.slice (some ⟨g2, 0, none⟩) m m) := cell_of_row _ _ _ _ 204 _ hO
 have HA : Hid (Rw w g1 m 9 (lF L n)) := by show Rw w g1 m 9 (lF L n); rw [hm]; exact hL.all
 have HW : Hid (Rw w g2 m 9 (lF L n)) := by show Rw w g2 m 9 (lF L n); rw [hm]; exact hL.want
 have HO : Hid _ := hO
 clear hL hm hO
 go_enter Tryz.func62, Tryz.ntmps62
 go_wp2
 go_quiet (first | (go_at_call 99; exact Calls.quiet_of (same_anyq (fun i => if i < n then L i else bhdT) (fun i => if i < n then L i else bhdT) m g1 m g2 m _ (by omega) (HA.out.drewN _).cl (HW.out.drewN _).cl (fun _ _ => rfl))))
 obtain ⟨w1, hq⟩ : ∃ w1, w1 = w.drewN nq := ⟨_, rfl⟩
 rw [← hq]
 have HA1 : Hid (Rw w1 g1 m 9 (lF L n)) := by show Rw w1 g1 m 9 (lF L n); rw [hq]; exact HA.out.drewN nq
 have HO1 : Hid (w1.heap[x]? = some (.cells #[.slice (some ⟨g1, 0, none⟩) m m, .slice (some ⟨g2, 0, none⟩) m m, .int .i64 n, .bool nl] 204 (0, 0))) := by show w1.heap[x]? = _; rw [hq]; exact HO.out
 have HQ1 : Hid (∀ q, q ≠ g1 → w1.heap[q]? = w.heap[q]?) := by intro q _; rw [hq]; rfl
 have HB1 : Hid (Below B w w1) := by show Below B w w1; rw [hq]; exact below_drewN (Below.refl _ _) nq
 clear hq o0 o1 HA HW HO
 go_wp2
 go_loopw [4] (fun kv wr => ∃ (k : Nat) (f : Nat → Value), k ≤ m ∧ kv = .int .i64 k ∧ wr.heap[x]? = some (.cells #[.slice (some ⟨g1, 0, none⟩) m m, .slice (some ⟨g2, 0, none⟩) m m, .int .i64 n, .bool nl] 204 (0, 0)) ∧ Rw wr g1 m 9 f ∧ Below B w wr ∧ ∀ q, q ≠ g1 → wr.heap[q]? = w.heap[q]?) (fun kv _ => m - (intOf kv).toNat)
 case atStart => exact ⟨0, _, by omega, rfl, HO1.out, HA1.out, HB1.out, HQ1.out⟩
 case round =>
  obtain ⟨k, f, hk, rfl, hO, hA, hBr, hQr⟩ := hrel
  have o0 : wr.cell? ⟨x, 0, none⟩ = some (.slice (some ⟨g1, 0, none⟩) m m) := cell_of_row _ _ _ _ 204 _ hO
  by_cases hlt : k < m
  ·have c1 := hA.cell k hlt
   have f1 := hA.free k
   have HO3 : Hid ((wr.setCell ⟨g1, k, none⟩ (.string gn)).heap[x]? = some (.cells #[.slice (some ⟨g1, 0, none⟩) m m, .slice (some ⟨g2, 0, none⟩) m m, .int .i64 n, .bool nl] 204 (0, 0))) := by
    show (wr.setCell ⟨g1, k, none⟩ (.string gn)).heap[x]? = _
    rw [heap_setCell_other wr ⟨g1, k, none⟩ x _ (by simpa using hx)]; exact hO
   have HA3 : Hid (Rw (wr.setCell ⟨g1, k, none⟩ (.string gn)) g1 m 9 (updV f k (.string gn))) := hA.put k _
   have HB3 : Hid (Below B w (wr.setCell ⟨g1, k, none⟩ (.string gn))) := hBr.setCell (by simpa using hB) _
   have HQ3 : Hid (∀ q, q ≠ g1 → (wr.setCell ⟨g1, k, none⟩ (.string gn)).heap[q]? = w.heap[q]?) := fun q hq => by rw [heap_setCell_other wr ⟨g1, k, none⟩ q _ (by simpa using hq)]; exact hQr q hq
   clear hO hA hBr hQr
   go_wp2
   go_roundw
   case rel => exact ⟨k + 1, _, by omega, by go_num, HO3.out, HA3.out, HB3.out, HQ3.out⟩
   case measure => simp [intOf]; omega
  ·go_wp2
   go_ret
   exact ⟨rfl, hBr, hQr⟩
end Go.Proofs.YtadinjaocnlglaaGreatDoor
