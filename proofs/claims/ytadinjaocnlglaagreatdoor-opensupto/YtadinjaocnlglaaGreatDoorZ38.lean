/-
  Plain: the volumes that the document's Vault has, against the program's blocks.
  Plain: what Restore gives is Lagrange's sum at every place; the places that has.
  The document's answer to Restore.
-/
import Derived.Test.YtadinjaocnlglaaGreatDoorZ37
import Derived.Test.YtadinjaocnlglaaGreatDoorZ18
import Derived.Test.YtadinjaocnlglaaGreatDoorZ33
namespace Go.Proofs.YtadinjaocnlglaaGreatDoor
open Go.RowKit
set_option maxRecDepth 100000
set_option maxHeartbeats 1000000
structure RSet (kt : Nat → Int) (t0 : ByteArray) (hs : List ByteArray) : Prop where
 head : hs.head? = some t0
 rd : ∀ x ∈ hs, rdE kt x = none
 same : ∀ x ∈ hs, Same3 t0 x
 once : hs.Pairwise fun a b => (tT a).num ≠ (tT b).num
structure RIn (kt : Nat → Int) (hs : List ByteArray) : Prop where
 rd : ∀ x ∈ hs, rdE kt x = none
 same : ∀ t0, hs.head? = some t0 → ∀ x ∈ hs, Same3 t0 x
 once : hs.Pairwise fun a b => (tT a).num ≠ (tT b).num
theorem sd_rd {kt : Nat → Int} {rt t : ByteArray} (h : sdE kt rt t = none) : rdE kt t = none := by
 unfold sdE at h
 split at h
 ·exact h
 ·rename_i hs; simpa using hs
theorem RIn.step {kt : Nat → Int} {rt t : ByteArray} {i : Nat} {r : RO} (h : RIn kt r.hs) : RIn kt (r.step kt rt i t).hs := by
 unfold RO.step
 split
 ·exact h
 ·rename_i hsd
  split
  ·rename_i hj
   cases hh : r.hs with
   | nil =>
    refine ⟨fun x hx => ?_, fun t0 h0 x hx => ?_, ?_⟩
    ·obtain rfl : x = t := by simpa using hx
     exact sd_rd hsd
    ·obtain rfl : x = t := by simpa using hx
     obtain rfl : x = t0 := by simpa using h0
     exact ⟨rfl, rfl, rfl⟩
    ·show List.Pairwise _ [t]
     simp
   | cons y l =>
    rw [hh] at h hj
    simp only [jnK] at hj
    split at hj
    ·rename_i hS
     split at hj
     ·cases hj
     ·rename_i hn
      refine ⟨fun x hx => ?_, fun t0 h0 x hx => ?_, ?_⟩
      ·rcases List.mem_append.1 hx with hx | hx
       ·exact h.rd x hx
       ·rw [List.mem_singleton.1 hx]; exact sd_rd hsd
      ·obtain rfl : y = t0 := by simpa using h0
       rcases List.mem_append.1 hx with hx | hx
       ·exact h.same y rfl x hx
       ·rw [List.mem_singleton.1 hx]; exact hS
      ·show List.Pairwise _ ((y :: l) ++ [t])
       refine List.pairwise_append.2 ⟨h.once, by simp, fun a ha b hb => ?_⟩
       rw [List.mem_singleton.1 hb]
       intro e
       exact hn (List.any_eq_true.2 ⟨a, ha, decide_eq_true e⟩)
    ·cases hj
  ·exact h
theorem RIn.run {kt : Nat → Int} {rt : ByteArray} : ∀ (l : List ByteArray) (i : Nat) (r : RO), RIn kt r.hs → RIn kt (RO.run kt rt i l r).hs
 | [], _, _, h => h
 | t :: l, i, r, h => RIn.run l (i + 1) (r.step kt rt i t) h.step
theorem RIn.new (kt : Nat → Int) : RIn kt RO.new.hs := ⟨fun x hx => (by cases hx), fun t0 h => (by cases h), List.Pairwise.nil⟩
theorem RIn.set {kt : Nat → Int} {hs : List ByteArray} {t0 : ByteArray} (h : RIn kt hs) (h0 : hs.head? = some t0) : RSet kt t0 hs := ⟨h0, h.rd, h.same t0 h0, h.once⟩
theorem RSet.mem0 {kt : Nat → Int} {t0 : ByteArray} {hs : List ByteArray} (h : RSet kt t0 hs) : t0 ∈ hs := List.mem_of_mem_head? h.head
theorem RSet.eq {kt : Nat → Int} {t0 : ByteArray} {hs : List ByteArray} (h : RSet kt t0 hs) {x : ByteArray} (hx : x ∈ hs) : LEq (tT t0).L (tT x).L := same_list (bytes_ok (rd_none (h.rd t0 h.mem0)).2.1) (bytes_ok (rd_none (h.rd x hx)).2.1) (h.same x hx).2.1
def Cov (t : ByteArray) (n : Nat) : Prop := (tT t).first ≤ n ∧ n < (tT t).first + nB t
theorem cov_rng {kt : Nat → Int} {t : ByteArray} {n : Nat} (h : rdE kt t = none) (hc : Cov t n) : (tT t).num * (tT t).L.cnt / (tT t).L.V ≤ n ∧ n < ((tT t).num + 1) * (tT t).L.cnt / (tT t).L.V := by
 obtain ⟨_, h1, _⟩ := rng_fit h
 have h2 : (tT t).first = (tT t).num * (tT t).L.cnt / (tT t).L.V := rfl
 unfold Cov at hc
 omega
theorem pw_get {α : Type} {R : α → α → Prop} {l : List α} (h : l.Pairwise R) {i j : Nat} {a b : α} (ha : l[i]? = some a) (hb : l[j]? = some b) (hij : i < j) : R a b := by
 obtain ⟨h1, e1⟩ := List.getElem?_eq_some_iff.1 ha
 obtain ⟨h2, e2⟩ := List.getElem?_eq_some_iff.1 hb
 have := List.pairwise_iff_getElem.1 h i j h1 h2 hij
 rw [e1, e2] at this
 exact this
theorem RSet.one {kt : Nat → Int} {t0 : ByteArray} {hs : List ByteArray} (h : RSet kt t0 hs) {i j : Nat} {a b : ByteArray} {n : Nat} (ha : hs[i]? = some a) (hb : hs[j]? = some b) (ca : Cov a n) (cb : Cov b n) : i = j := by
 have ma := List.mem_of_getElem? ha
 have mb := List.mem_of_getElem? hb
 have ra := cov_rng (h.rd a ma) ca
 have rb := cov_rng (h.rd b mb) cb
 have ea := h.eq ma
 have eb := h.eq mb
 rw [ea.cnt, ea.V] at ra
 rw [eb.cnt, eb.V] at rb
 have hnum : (tT a).num = (tT b).num := by
  rcases Nat.lt_trichotomy (tT a).num (tT b).num with hl | hl | hl
  ·have := rng_mono (cnt := (tT t0).L.cnt) (V := (tT t0).L.V) hl
   omega
  ·exact hl
  ·have := rng_mono (cnt := (tT t0).L.cnt) (V := (tT t0).L.V) hl
   omega
 rcases Nat.lt_trichotomy i j with hl | hl | hl
 ·exact absurd hnum (pw_get h.once ha hb hl)
 ·exact hl
 ·exact absurd hnum.symm (pw_get h.once hb ha hl)
theorem fold_no {n : Nat} : ∀ (hs : List ByteArray) (b : Nat → ByteArray), (∀ t ∈ hs, ¬ Cov t n) → hs.foldl (fun b t => laid b (tT t).first (nB t) (pc (tRest t) (tT t).L.C)) b n = b n
 | [], _, _ => rfl
 | x :: r, b, h => by
  rw [List.foldl_cons, fold_no r _ (fun t ht => h t (List.mem_cons_of_mem _ ht))]
  unfold laid
  exact if_neg (h x List.mem_cons_self)
theorem fold_yes {n : Nat} : ∀ (hs : List ByteArray) (b : Nat → ByteArray) (i : Nat) (t : ByteArray), hs[i]? = some t → Cov t n → (∀ j u, hs[j]? = some u → Cov u n → j = i) → hs.foldl (fun b t => laid b (tT t).first (nB t) (pc (tRest t) (tT t).L.C)) b n = pc (tRest t) (tT t).L.C (n - (tT t).first)
 | [], _, i, t, h, _, _ => by simp at h
 | x :: r, b, 0, t, h, hc, hu => by
  obtain rfl : x = t := by simpa using h
  rw [List.foldl_cons, fold_no r _ (fun u hm hcu => by
   obtain ⟨j, hj⟩ := List.getElem?_of_mem hm
   have := hu (j + 1) u (by simpa using hj) hcu
   omega)]
  unfold laid
  exact if_pos hc
 | x :: r, b, i + 1, t, h, hc, hu => by
  rw [List.foldl_cons]
  exact fold_yes r _ i t (by simpa using h) hc (fun j u hj hcu => by
   have := hu (j + 1) u (by simpa using hj) hcu
   omega)
def covB (hs : List ByteArray) (n : Nat) : Bool := hs.any fun t => decide ((tT t).first ≤ n ∧ n < (tT t).first + nB t)
theorem RSet.bl_yes {kt : Nat → Int} {t0 : ByteArray} {hs : List ByteArray} (h : RSet kt t0 hs) {i n : Nat} {t : ByteArray} (ht : hs[i]? = some t) (hc : Cov t n) : blH hs n = pc (tRest t) (tT t).L.C (n - (tT t).first) := fold_yes hs noT i t ht hc (fun _ _ hj hcu => h.one hj ht hcu hc)
theorem bl_no {hs : List ByteArray} {n : Nat} (h : ∀ t ∈ hs, ¬ Cov t n) : blH hs n = ⟨#[]⟩ := fold_no hs noT h
theorem covB_yes {hs : List ByteArray} {n : Nat} {t : ByteArray} (ht : t ∈ hs) (hc : Cov t n) : covB hs n = true := List.any_eq_true.2 ⟨t, ht, decide_eq_true (show (tT t).first ≤ n ∧ n < (tT t).first + nB t from hc)⟩
theorem covB_no {hs : List ByteArray} {n : Nat} (h : ∀ t ∈ hs, ¬ Cov t n) : covB hs n = false := by
 unfold covB
 rw [List.any_eq_false]
 intro t ht e
 have e3 := of_decide_eq_true e
 exact h t ht e3
theorem RSet.bl_size {kt : Nat → Int} {t0 : ByteArray} {hs : List ByteArray} (h : RSet kt t0 hs) (n : Nat) : (covB hs n = true → (blH hs n).size = (tT t0).L.C) ∧ (covB hs n = false → blH hs n = ⟨#[]⟩) := by
 constructor
 ·intro e
  obtain ⟨t, ht, e2⟩ := List.any_eq_true.1 e
  have hc : Cov t n := by have e3 := of_decide_eq_true e2; exact e3
  obtain ⟨i, hi⟩ := List.getElem?_of_mem ht
  rw [h.bl_yes hi hc]
  have he := (h.eq ht).C
  have hc1 : n - (tT t).first < (tRest t).size / (tT t).L.C := by
   have h2 : n < (tT t).first + nB t := hc.2
   unfold nB at h2
   have := hc.1
   omega
  have hC1 : 1 ≤ (tT t).L.C := (ck_ok (rd_none (h.rd t ht)).2.1 : Told1 (tT t)).c1
  rw [← he]
  unfold pc
  rw [ByteArray.size_extract]
  have h3 : (n - (tT t).first + 1) * (tT t).L.C ≤ (tRest t).size := Nat.le_trans (Nat.mul_le_mul_right _ hc1) (Nat.div_mul_le_self _ _)
  rw [Nat.min_eq_left h3, Nat.succ_mul]
  omega
 ·intro e
  refine bl_no (fun t ht hc => ?_)
  rw [covB_yes ht hc] at e
  cases e
theorem RSet.good {kt : Nat → Int} {t0 : ByteArray} {hs : List ByteArray} (h : RSet kt t0 hs) (lv : ByteArray) (n : Nat) : goodB kt (tT t0).L.C lv n (blH hs n) = (covB hs n && decide (leafT (ofT kt) (blH hs n) = pc lv 32 n)) := by
 unfold goodB
 cases hc : covB hs n with
 | true =>
  have := (h.bl_size n).1 hc
  simp [this]
 | false =>
  have h1 := (h.bl_size n).2 hc
  have hC1 : 1 ≤ (tT t0).L.C := (ck_ok (rd_none (h.rd t0 h.mem0)).2.1 : Told1 (tT t0)).c1
  rw [h1]
  simp
  intro e
  have : (⟨#[]⟩ : ByteArray).size = 0 := rfl
  omega
def hsL (h : Nat → Bool) : Nat → List Nat
 | 0 => []
 | i + 1 => if h i = true then hsL h i ++ [i] else hsL h i
theorem hsL_len (h : Nat → Bool) : ∀ i, (hsL h i).length ≤ i
 | 0 => by simp [hsL]
 | i + 1 => by
  rw [hsL]
  have := hsL_len h i
  split
  ·simp; omega
  ·omega
theorem hsL_mem (h : Nat → Bool) : ∀ n x, x ∈ hsL h n → x < n ∧ h x = true
 | 0, x, hx => by simp [hsL] at hx
 | n + 1, x, hx => by
  rw [hsL] at hx
  split at hx
  ·rename_i e
   rcases List.mem_append.1 hx with hx | hx
   ·have := hsL_mem h n x hx; exact ⟨by omega, this.2⟩
   ·simp at hx; subst hx; exact ⟨by omega, e⟩
  ·have := hsL_mem h n x hx; exact ⟨by omega, this.2⟩
theorem knL_take (h : Nat → Bool) (k : Nat) : ∀ n, knL h k n = (hsL h n).take k
 | 0 => by simp [knL, hsL]
 | n + 1 => by
  have ih := knL_take h k n
  rw [knL, hsL]
  by_cases e : h n = true
  ·rw [if_pos e]
   by_cases l : (hsL h n).length < k
   ·rw [if_pos ⟨e, by rw [ih, List.length_take]; omega⟩, ih, List.take_of_length_le (by omega), List.take_of_length_le (by simp; omega)]
   ·rw [if_neg (fun hc => by have := hc.2; rw [ih, List.length_take] at this; omega), ih, List.take_append_of_le_length (by omega)]
  ·rw [if_neg e, if_neg (fun hc => e hc.1), ih]
theorem gt_take (l : List Nat) (k i : Nat) (hi : i < k) : gt (l.take k) i = gt l i := by
 unfold gt
 rw [List.getD_eq_getElem?_getD, List.getD_eq_getElem?_getD, List.getElem?_take, if_pos hi]
def resT (B : Nat → ByteArray) (p : Nat → Nat) (k c x : Nat) : ByteArray := txtN c fun l => sm (wt p k x) (fun i l => bN (B (p i)) l) l k
theorem resT_at (B : Nat → ByteArray) (p : Nat → Nat) (k c j : Nat) (hj : j < k) (hB : ∀ i, i < k → (B (p i)).size = c) (hp : ∀ i, i < k → p i < 256) (hd : ∀ i j, i < k → j < k → i ≠ j → p i ≠ p j) : B (p j) = resT B p k c (p j) := by
 apply bN_ext
 ·rw [hB j hj]; exact (txtN_size c _).symm
 ·intro l hl
  rw [hB j hj] at hl
  refine Eq.trans ?_ (bN_txtN c (fun l => sm (wt p k (p j)) (fun i l => bN (B (p i)) l) l k) l hl (sm_wt_lt _ _ _ _ _ _)).symm
  show bN (B (p j)) l = sm (wt p k (p j)) (fun i l => bN (B (p i)) l) l k
  rw [sm_gf (wt p k (p j)) (fun i l => bN (B (p i)) l) l (GF.wt (fun i => m8 (p i)) k (m8 (p j))) (fun i => m8 (bN (B (p i)) l)) k (fun i hi => (wt_gf p (fun i => m8 (p i)) k (fun a ha => m8_val _ (hp a ha)) (p j) (m8 (p j)) (m8_val _ (hp j hj)) i hi).symm) (fun i _ => m8_val _ (bN_lt _ _)) k (Nat.le_refl _),
   Fld.sm_at GF (fun i => m8 (p i)) (fun i => m8 (bN (B (p i)) l)) k (fun i j hi hj hne e => hd i j hi hj hne (m8_inj _ _ (hp i hi) (hp j hj) e)) j hj k (Nat.le_refl _), if_pos hj, m8_val _ (bN_lt _ _)]
theorem filled_ref (B : Nat → ByteArray) (h : Nat → Bool) (k n c : Nat) (hn : n ≤ 255) (hK : (knL h k n).length = k) (hB : ∀ i, i < n → h i = true → (B i).size = c) (x : Nat) (hx : x < n) :
  filled B (gt (knL h k n)) (gt (wnL h k n)) k (wnL h k n).length c x = .string (resT B (gt (knL h k n)) k c x) := by
 have hin : ∀ i, i < k → gt (knL h k n) i < n ∧ h (gt (knL h k n) i) = true := fun i hi => knL_mem h k n _ (gt_mem (knL h k n) i (by rw [hK]; exact hi))
 have hlt : ∀ i, i < k → gt (knL h k n) i < 256 := fun i hi => by have := hin i hi; omega
 have hne : ∀ i j, i < k → j < k → i ≠ j → gt (knL h k n) i ≠ gt (knL h k n) j := fun i j hi hj e => by
  rcases Nat.lt_or_gt_of_ne e with e | e
  ·have := gt_lt _ (knL_lt h k n) i j e (by rw [hK]; exact hj); omega
  ·have := gt_lt _ (knL_lt h k n) j i e (by rw [hK]; exact hi); omega
 have hkn : ∀ j, j < k → B (gt (knL h k n) j) = resT B (gt (knL h k n)) k c (gt (knL h k n) j) := fun j hj => resT_at B _ k c j hj (fun i hi => hB _ (hin i hi).1 (hin i hi).2) hlt hne
 unfold filled
 refine puts_hit _ _ _ (fun x => .string (resT B (gt (knL h k n)) k c x)) x _ (fun j hj => rfl) ?_
 rcases cover h k x n hx with h1 | h1
 ·right
  refine puts_hit _ _ _ (fun x => .string (resT B (gt (knL h k n)) k c x)) x _ (fun j hj => congrArg Value.string (hkn j hj)) (.inl ?_)
  obtain ⟨j, hj, e⟩ := gt_of_mem _ _ h1
  exact ⟨j, by rw [hK] at hj; exact hj, e⟩
 ·left; exact gt_of_mem _ _ h1
set_option maxHeartbeats 2000000
def RRef (o : Out) (K M : Int) (v vb : Value) (w : World) : Prop := Calls Tryz.prog 255 #[.int .i64 K, .int .i64 M, v, vb] w fun e w' => ∃ x y, e = .returned (.tuple #[x, y]) ∧ RefOut w o x y w'
def tS (S : Nat → ByteArray) (l : List Nat) : List Value := l.map fun p => .string (S p)
theorem tS_snoc (S : Nat → ByteArray) (l : List Nat) (i : Nat) : tS S (l ++ [i]) = tS S l ++ [.string (S i)] := by simp [tS]
theorem tS_get (S : Nat → ByteArray) (l : List Nat) (i : Nat) (h : i < l.length) : (tS S l)[i]? = some (.string (S (gt l i))) := by
 simp [tS, gt, h]
theorem own_tS {w : World} {B : Nat} {a : Option Addr} {c L : Nat} {S : Nat → ByteArray} {l : List Nat} (h : w.ownsRow B 9 1 (.slice a L c) L (tS S l)) (hl : l.length = L) (h0 : 0 < L) : ∃ g, a = some ⟨g, 0, none⟩ ∧ g < w.heap.size ∧ L ≤ c ∧ ∀ i, i < L → w.cell? ⟨g, i, none⟩ = some (.string (S (gt l i))) := by
 rcases h.2 with ⟨e, e0⟩ | ⟨g, cap, cur, hv, hg, hh, hc, rest⟩
 ·omega
 ·simp only [Value.slice.injEq] at hv
  obtain ⟨rfl, _, rfl⟩ := hv
  exact ⟨g, rfl, (Array.getElem?_eq_some_iff.1 hh).1, hc, fun i hi => by rw [h.cellAt i (by omega), tS_get S l i (by omega)]⟩
theorem own_vI {w : World} {B : Nat} {a : Option Addr} {c L : Nat} {l : List Nat} (h : w.ownsRow B 3 1 (.slice a L c) L (vI l)) (hl : l.length = L) (h0 : 0 < L) : ∃ g, a = some ⟨g, 0, none⟩ ∧ g < w.heap.size ∧ L ≤ c ∧ ∀ i, i < L → w.cell? ⟨g, i, none⟩ = some (.int .i64 ((gt l i : Nat) : Int)) := by
 rcases h.2 with ⟨e, e0⟩ | ⟨g, cap, cur, hv, hg, hh, hc, rest⟩
 ·omega
 ·simp only [Value.slice.injEq] at hv
  obtain ⟨rfl, _, rfl⟩ := hv
  exact ⟨g, rfl, (Array.getElem?_eq_some_iff.1 hh).1, hc, fun i hi => by rw [h.cellAt i (by omega), vI_get l i (by omega)]⟩
theorem rref_main (o : Out) (S : Nat → ByteArray) (h : Nat → Bool) (k m n N b o1 cap b2 o2 cap2 c : Nat) (w : World) (hk1 : 1 ≤ k) (hkm : k + m ≤ 255) (hn : n = k + m) (hc : c ≤ 1000000000000) (hN : N ≤ n) (hS : ∀ i, i < N → h i = true → (S i).size = c)
  (hcase : (o = .bad 4 N ∧ N < n ∧ h N = true ∧ (S N).size ≠ c ∧ 0 < (hsL h N).length) ∨ (N = n ∧ ∃ L : Nat, (hsL h n).length = L ∧ L < k ∧ o = .bad 14 L) ∨ (N = n ∧ (knL h k n).length = k ∧ o = .good n (resT S (gt (knL h k n)) k c)))
  (hb : b < w.heap.size) (hC : ∀ i, i < n → w.cell? ⟨b, o1 + i, none⟩ = some (.string (S i))) (hb2 : b2 < w.heap.size) (hC2 : ∀ i, i < n → w.cell? ⟨b2, o2 + i, none⟩ = some (.bool (h i))) :
  RRef o k m (.slice (some ⟨b, o1, none⟩) n cap) (.slice (some ⟨b2, o2, none⟩) n cap2) w := by
 have HC : Hid _ := hC
 have HC2 : Hid _ := hC2
 have HS : Hid _ := hS
 have HCA : Hid _ := hcase
 have HNI : Hid (((k : Int) + (m : Int)) = (n : Int)) := by show ((k : Int) + (m : Int)) = (n : Int); omega
 have hn255 : n ≤ 255 := by omega
 have hkn : k ≤ n := by omega
 clear hC hC2 hS hcase
 have hne : ((n : Int) != (k : Int) + (m : Int)) = false := by rw [bne_eq_false_iff_eq]; omega
 have HN : Hid _ := hn
 clear hn
 obtain ⟨i00, hi3, hz0, hz1, hz2⟩ := info_parts info3
 obtain ⟨i01, hi9, hy0, hy1, hy2⟩ := info_parts info9
 unfold RRef
 go_enter Tryz.func255, Tryz.ntmps255
 go_wp2_with fail
 refine (pt_ok k m w hk1 hkm).mono ?_
 rintro e w1 ⟨rfl, rfl⟩
 go_wp2
 go_loopw [13, 11, 12] (fun iv v1 v2 wr => ∃ i L : Nat, i ≤ N ∧ iv = .int .i64 i ∧ (hsL h i).length = L ∧ wr.ownsRow w1.heap.size 3 1 v1 L (vI (hsL h i)) ∧ wr.ownsRow w1.heap.size 9 1 v2 L (tS S (hsL h i)) ∧ Apt v1 v2 ∧ Below w1.heap.size w1 wr) (fun iv _ _ _ => n - (intOf iv).toNat)
 case atStart => exact ⟨0, 0, by omega, rfl, rfl, World.ownsRow_nil _ _ _ _, World.ownsRow_nil _ _ _ _, fun g a _ => by simp [Value.ownBlock] at a, Below.refl _ _⟩
 case round =>
  obtain ⟨i, L, hi, rfl, hLe, ho1, ho2, hap, hbl⟩ := hrel
  obtain ⟨a1, cp1, hu⟩ := own_shapeq ho1
  subst hu
  obtain ⟨a2, cp2, hu⟩ := own_shapeq ho2
  subst hu
  have hLi : L ≤ i := by rw [← hLe]; exact hsL_len h i
  have HLE : Hid _ := hLe
  have HO1 : Hid (wr.ownsRow w1.heap.size 3 1 (.slice a1 L cp1) L (vI (hsL h i))) := ho1
  have HO2 : Hid (wr.ownsRow w1.heap.size 9 1 (.slice a2 L cp2) L (tS S (hsL h i))) := ho2
  have HAP : Hid (Apt (.slice a1 L cp1) (.slice a2 L cp2)) := hap
  have HBL : Hid (Below w1.heap.size w1 wr) := hbl
  clear hLe ho1 ho2 hap hbl
  by_cases hlt : i < N
  ·have hin : (i : Int) < (k : Int) + (m : Int) := by rw [HNI.out]; omega
   have hin2 : (i : Int) < (n : Int) := by omega
   have c1 : wr.cell? ⟨b2, o2 + i, none⟩ = some (.bool (h i)) := (HBL.out.cell (p := ⟨b2, o2 + i, none⟩) hb2).trans (HC2.out i (by omega))
   by_cases hh : h i = true
   ·rw [hh] at c1
    have c2 : wr.cell? ⟨b, o1 + i, none⟩ = some (.string (S i)) := (HBL.out.cell (p := ⟨b, o1 + i, none⟩) hb).trans (HC.out i (by omega))
    have HK1 : Hid (hsL h (i + 1) = hsL h i ++ [i]) := by show hsL h (i + 1) = _; rw [hsL, if_pos hh]
    have hsi := HS.out i hlt hh
    by_cases hL0 : 0 < L
    ·obtain ⟨g2, ha2, _, _, hcl⟩ := own_tS HO2.out HLE.out hL0
     subst ha2
     have c3 : wr.cell? ⟨g2, 0, none⟩ = some (.string (S (gt (hsL h i) 0))) := hcl 0 hL0
     have hmem := hsL_mem h i _ (gt_mem (hsL h i) 0 (by rw [HLE.out]; exact hL0))
     have hs2 := HS.out (gt (hsL h i) 0) (by omega) hmem.2
     have hne2 : (((S i).size : Int) != ((S (gt (hsL h i) 0)).size : Int)) = false := by rw [bne_eq_false_iff_eq, hsi, hs2]
     have hd : (0 : Int) < (L : Int) := by omega
     have hi0' : (0 : Int) ≤ (i : Int) := by omega
     clear hcl hmem hs2
     go_wp2
     go_quiet (fail)
     have P1 : Hid ((wr.drewN nq).ownsRow w1.heap.size 3 1 (.slice a1 L cp1) L (vI (hsL h i))) := own_below HO1.out (below_drewN (Below.refl _ _) nq)
     have P2 : Hid ((wr.drewN nq).ownsRow w1.heap.size 9 1 (.slice (some ⟨g2, 0, none⟩) L cp2) L (tS S (hsL h i))) := own_below HO2.out (below_drewN (Below.refl _ _) nq)
     have PB : Hid (Below w1.heap.size w1 (wr.drewN nq)) := below_drewN HBL.out nq
     obtain ⟨wq, hwq⟩ : ∃ wq, wq = wr.drewN nq := ⟨_, rfl⟩
     rw [← hwq] at P1 P2 PB ⊢
     clear hwq HO1 HO2 HBL c1 c2 c3
     have hB' : w1.heap.size ≤ (wq.alloc (Obj.cells #[Value.int IntKind.i64 ((i : Nat) : Int)] 3)).heap.size := by have := PB.out.size; simp; omega
     go_wp2_with (at_builtin; refine wpList_append_own_at _ rfl (.tmp 71) (.tmp 73) 39 rfl w1.heap.size 3 i00 (.int .i64 0) 1 8 Tryz.underlying39 hi3 hz0 hz1 hz2 rfl (by decide) _ L (vI (hsL h i)) rfl (P1.out.alloc _) ⟨wq.heap.size, 0, none⟩ 1 1 [.int .i64 ((i : Nat) : Int)] rfl rfl (cell_one_new _ _ _) (one_cell _) ?kb ?kc hB' ?_)
     case kb => unfold maxLen; omega
     case kc => omega
     intro v' w' hown' hgrow _ hblk
     have Q2 : Hid (w'.ownsRow w1.heap.size 9 1 (.slice (some ⟨g2, 0, none⟩) L cp2) L (tS S (hsL h i))) := (P2.out.alloc (Obj.cells #[Value.int IntKind.i64 ((i : Nat) : Int)] 3)).kept hgrow HAP.out.ne
     have QA : Hid (Apt v' (.slice (some ⟨g2, 0, none⟩) L cp2)) := Apt.step HAP.out (P2.out.alloc (Obj.cells #[Value.int IntKind.i64 ((i : Nat) : Int)] 3)) (by simpa using hblk)
     have QB : Hid (Below w1.heap.size w1 w') := (PB.out.alloc PB.out.size _).grown hgrow hB' (fun g hg => (own_ltq P1.out g hg).1)
     have Q1 : Hid (w'.ownsRow w1.heap.size 3 1 v' (L + 1) (vI (hsL h (i + 1)))) := by show w'.ownsRow _ _ _ _ _ _; rw [HK1.out, vI_snoc]; exact hown'
     have c2 : w'.cell? ⟨b, o1 + i, none⟩ = some (.string (S i)) := (QB.out.cell (p := ⟨b, o1 + i, none⟩) hb).trans (HC.out i (by omega))
     clear hown' hgrow hblk P1 P2 PB hB' HAP
     have hB' : w1.heap.size ≤ (w'.alloc (Obj.cells #[Value.string (S i)] 9)).heap.size := by have := QB.out.size; simp; omega
     go_wp2_with (at_builtin; refine wpList_append_own_at _ rfl (.tmp 75) (.tmp 80) 42 rfl w1.heap.size 9 i01 (.string ⟨#[]⟩) 1 16 Tryz.underlying42 hi9 hy0 hy1 hy2 rfl (by decide) _ L (tS S (hsL h i)) rfl (Q2.out.alloc _) ⟨w'.heap.size, 0, none⟩ 1 1 [.string (S i)] rfl rfl (cell_one_new _ _ _) (str_one _) ?kb ?kc hB' ?_)
     case kb => unfold maxLen; omega
     case kc => omega
     intro v'' w'' hown' hgrow _ hblk
     have R1 : Hid (w''.ownsRow w1.heap.size 3 1 v' (L + 1) (vI (hsL h (i + 1)))) := (Q1.out.alloc (Obj.cells #[Value.string (S i)] 9)).kept hgrow QA.out.symm.ne
     have RA : Hid (Apt v'' v') := Apt.step QA.out.symm (Q1.out.alloc (Obj.cells #[Value.string (S i)] 9)) (by simpa using hblk)
     have RB : Hid (Below w1.heap.size w1 w'') := (QB.out.alloc QB.out.size _).grown hgrow hB' (fun g hg => (own_ltq Q2.out g hg).1)
     have R2 : Hid (w''.ownsRow w1.heap.size 9 1 v'' (L + 1) (tS S (hsL h (i + 1)))) := by show w''.ownsRow _ _ _ _ _ _; rw [HK1.out, tS_snoc]; exact hown'
     clear hown' hgrow hblk Q1 Q2 QA QB hB' c2
     go_wp2
     go_roundw
     case rel => exact ⟨i + 1, L + 1, by omega, by go_num, by rw [HK1.out]; simp [HLE.out], R1.out, R2.out, RA.out.symm, RB.out⟩
     case measure => simp [intOf]; omega
    ·have hd : decide ((0 : Int) < (L : Int)) = false := by simp; omega
     have hi0' : (0 : Int) ≤ (i : Int) := by omega
     go_wp2
     go_quiet (fail)
     have P1 : Hid ((wr.drewN nq).ownsRow w1.heap.size 3 1 (.slice a1 L cp1) L (vI (hsL h i))) := own_below HO1.out (below_drewN (Below.refl _ _) nq)
     have P2 : Hid ((wr.drewN nq).ownsRow w1.heap.size 9 1 (.slice a2 L cp2) L (tS S (hsL h i))) := own_below HO2.out (below_drewN (Below.refl _ _) nq)
     have PB : Hid (Below w1.heap.size w1 (wr.drewN nq)) := below_drewN HBL.out nq
     obtain ⟨wq, hwq⟩ : ∃ wq, wq = wr.drewN nq := ⟨_, rfl⟩
     rw [← hwq] at P1 P2 PB ⊢
     clear hwq HO1 HO2 HBL c1 c2
     have hB' : w1.heap.size ≤ (wq.alloc (Obj.cells #[Value.int IntKind.i64 ((i : Nat) : Int)] 3)).heap.size := by have := PB.out.size; simp; omega
     go_wp2_with (at_builtin; refine wpList_append_own_at _ rfl (.tmp 71) (.tmp 73) 39 rfl w1.heap.size 3 i00 (.int .i64 0) 1 8 Tryz.underlying39 hi3 hz0 hz1 hz2 rfl (by decide) _ L (vI (hsL h i)) rfl (P1.out.alloc _) ⟨wq.heap.size, 0, none⟩ 1 1 [.int .i64 ((i : Nat) : Int)] rfl rfl (cell_one_new _ _ _) (one_cell _) ?kb ?kc hB' ?_)
     case kb => unfold maxLen; omega
     case kc => omega
     intro v' w' hown' hgrow _ hblk
     have Q2 : Hid (w'.ownsRow w1.heap.size 9 1 (.slice a2 L cp2) L (tS S (hsL h i))) := (P2.out.alloc (Obj.cells #[Value.int IntKind.i64 ((i : Nat) : Int)] 3)).kept hgrow HAP.out.ne
     have QA : Hid (Apt v' (.slice a2 L cp2)) := Apt.step HAP.out (P2.out.alloc (Obj.cells #[Value.int IntKind.i64 ((i : Nat) : Int)] 3)) (by simpa using hblk)
     have QB : Hid (Below w1.heap.size w1 w') := (PB.out.alloc PB.out.size _).grown hgrow hB' (fun g hg => (own_ltq P1.out g hg).1)
     have Q1 : Hid (w'.ownsRow w1.heap.size 3 1 v' (L + 1) (vI (hsL h (i + 1)))) := by show w'.ownsRow _ _ _ _ _ _; rw [HK1.out, vI_snoc]; exact hown'
     have c2 : w'.cell? ⟨b, o1 + i, none⟩ = some (.string (S i)) := (QB.out.cell (p := ⟨b, o1 + i, none⟩) hb).trans (HC.out i (by omega))
     clear hown' hgrow hblk P1 P2 PB hB' HAP
     have hB' : w1.heap.size ≤ (w'.alloc (Obj.cells #[Value.string (S i)] 9)).heap.size := by have := QB.out.size; simp; omega
     go_wp2_with (at_builtin; refine wpList_append_own_at _ rfl (.tmp 75) (.tmp 80) 42 rfl w1.heap.size 9 i01 (.string ⟨#[]⟩) 1 16 Tryz.underlying42 hi9 hy0 hy1 hy2 rfl (by decide) _ L (tS S (hsL h i)) rfl (Q2.out.alloc _) ⟨w'.heap.size, 0, none⟩ 1 1 [.string (S i)] rfl rfl (cell_one_new _ _ _) (str_one _) ?kb ?kc hB' ?_)
     case kb => unfold maxLen; omega
     case kc => omega
     intro v'' w'' hown' hgrow _ hblk
     have R1 : Hid (w''.ownsRow w1.heap.size 3 1 v' (L + 1) (vI (hsL h (i + 1)))) := (Q1.out.alloc (Obj.cells #[Value.string (S i)] 9)).kept hgrow QA.out.symm.ne
     have RA : Hid (Apt v'' v') := Apt.step QA.out.symm (Q1.out.alloc (Obj.cells #[Value.string (S i)] 9)) (by simpa using hblk)
     have RB : Hid (Below w1.heap.size w1 w'') := (QB.out.alloc QB.out.size _).grown hgrow hB' (fun g hg => (own_ltq Q2.out g hg).1)
     have R2 : Hid (w''.ownsRow w1.heap.size 9 1 v'' (L + 1) (tS S (hsL h (i + 1)))) := by show w''.ownsRow _ _ _ _ _ _; rw [HK1.out, tS_snoc]; exact hown'
     clear hown' hgrow hblk Q1 Q2 QA QB hB' c2
     go_wp2
     go_roundw
     case rel => exact ⟨i + 1, L + 1, by omega, by go_num, by rw [HK1.out]; simp [HLE.out], R1.out, R2.out, RA.out.symm, RB.out⟩
     case measure => simp [intOf]; omega
   ·have hf : h i = false := by simpa using hh
    rw [hf] at c1
    have HK1 : Hid (hsL h (i + 1) = hsL h i) := by show hsL h (i + 1) = _; rw [hsL, if_neg hh]
    go_wp2
    go_roundw
    case rel => exact ⟨i + 1, L, by omega, by go_num, by rw [HK1.out]; exact HLE.out, by rw [HK1.out]; exact HO1.out, by rw [HK1.out]; exact HO2.out, HAP.out, HBL.out⟩
    case measure => simp [intOf]; omega
  ·have e : i = N := by omega
   subst e
   rcases HCA.out with ⟨rfl, hNn, hNh, hNs, hNl⟩ | ⟨hNn, L', hL', hNl, rfl⟩ | ⟨hNn, hNl, rfl⟩
   ·have hL0 : 0 < L := by rw [← HLE.out]; exact hNl
    have hin : (i : Int) < (k : Int) + (m : Int) := by rw [HNI.out]; omega
    have hin2 : (i : Int) < (n : Int) := by omega
    have c1 : wr.cell? ⟨b2, o2 + i, none⟩ = some (.bool (h i)) := (HBL.out.cell (p := ⟨b2, o2 + i, none⟩) hb2).trans (HC2.out i (by omega))
    rw [hNh] at c1
    have c2 : wr.cell? ⟨b, o1 + i, none⟩ = some (.string (S i)) := (HBL.out.cell (p := ⟨b, o1 + i, none⟩) hb).trans (HC.out i (by omega))
    obtain ⟨g2, ha2, _, _, hcl⟩ := own_tS HO2.out HLE.out hL0
    subst ha2
    have c3 : wr.cell? ⟨g2, 0, none⟩ = some (.string (S (gt (hsL h i) 0))) := hcl 0 hL0
    have hmem := hsL_mem h i _ (gt_mem (hsL h i) 0 (by rw [HLE.out]; exact hL0))
    have hs2 := HS.out (gt (hsL h i) 0) (by omega) hmem.2
    have hne2 : (((S i).size : Int) != ((S (gt (hsL h i) 0)).size : Int)) = true := by rw [bne_iff_ne, hs2]; omega
    have hd : (0 : Int) < (L : Int) := by omega
    have hi0' : (0 : Int) ≤ (i : Int) := by omega
    clear hcl hmem hs2
    go_wp2
    go_quiet (fail)
    go_wp2_with fail
    refine (at_any 4 i _).mono ?_
    rintro e w2 ⟨rfl, rfl⟩
    go_wp2
    go_ret2
    exact ⟨_, _, rfl, refBad w1 (wr.drewN nq) 4 i (below_drewN HBL.out nq)⟩
   ·have hout : (k : Int) + (m : Int) ≤ (i : Int) := by rw [HNI.out]; omega
    have hLL : L' = L := by rw [← hL', ← hNn]; exact HLE.out
    clear hL'
    subst hLL
    have hLk : (L' : Int) < (k : Int) := by omega
    go_wp2_with fail
    refine (at_any 14 L' _).mono ?_
    rintro e w2 ⟨rfl, rfl⟩
    go_wp2
    go_ret2
    exact ⟨_, _, rfl, refBad w1 wr 14 L' HBL.out⟩
   ·have hout : (k : Int) + (m : Int) ≤ (i : Int) := by rw [HNI.out]; omega
    have hkL : k ≤ L := by
     have h1 := hNl
     rw [knL_take, List.length_take, ← hNn, HLE.out] at h1
     omega
    have hLk : (k : Int) ≤ (L : Int) := by omega
    obtain ⟨g1, ha1, hg1, hcp1, hcl1⟩ := own_vI HO1.out HLE.out (by omega)
    obtain ⟨g2, ha2, hg2, hcp2, hcl2⟩ := own_tS HO2.out HLE.out (by omega)
    subst ha1
    subst ha2
    have hgt : ∀ j, j < k → gt (hsL h i) j = gt (knL h k n) j := fun j hj => by rw [knL_take, gt_take _ _ _ hj, hNn]
    have CP : Hid (Cl wr g1 k (pI (gt (knL h k n)))) := fun j hj => by rw [hcl1 j (by omega), hgt j hj]; rfl
    have CB : Hid (∀ j, j < k → wr.cell? ⟨g2, 0 + j, none⟩ = some (.string (S (gt (knL h k n) j)))) := fun j hj => by rw [Nat.zero_add, hcl2 j (by omega), hgt j hj]
    have hkc1 : (k : Int) ≤ (cp1 : Int) := by omega
    have hkc2 : (k : Int) ≤ (cp2 : Int) := by omega
    have HKM : Hid (∀ j, j < k → gt (knL h k n) j < n ∧ h (gt (knL h k n) j) = true) := fun j hj => knL_mem h k n _ (gt_mem (knL h k n) j (by rw [hNl]; exact hj))
    obtain ⟨p, hp⟩ : ∃ p, gt (knL h k n) = p := ⟨_, rfl⟩
    rw [hp] at CP CB HKM
    have HP : Hid _ := hp
    have HVA : Hid (∀ W x, x < n → Below wr.heap.size wr W → Calls Tryz.prog 236 #[.slice (some ⟨g1, 0, none⟩) k cp1, .slice (some ⟨g2, 0, none⟩) k cp2, .int .i64 ((x : Nat) : Int)] W fun e w' => e = .returned (.string (resT S p k c x)) ∧ Below W.heap.size W w') := fun W x hx hW =>
     value_any p (fun j => S (p j)) k x g1 cp1 g2 0 cp2 c W (by omega) (by omega) (by omega) (fun j hj => by have := (HKM.out j hj).1; omega) hc (fun j hj => HS.out (p j) (by have := (HKM.out j hj).1; omega) (HKM.out j hj).2) (Nat.lt_of_lt_of_le hg1 hW.size) (Cl.below CP.out hW hg1) (Nat.lt_of_lt_of_le hg2 hW.size) (fun j hj => (hW.cell (p := ⟨g2, 0 + j, none⟩) hg2).trans (CB.out j hj))
    clear hp hcl1 hcl2 hgt CP CB HKM HO1 HO2 HAP hNl
    have hnm : ∀ x : Nat, x < n → (x : Int) < (k : Int) + (m : Int) := fun x hx => by rw [HNI.out]; omega
    have HNM : Hid _ := hnm
    clear hnm
    obtain ⟨w3, hw3⟩ : ∃ w3, w3 = wr := ⟨_, rfl⟩
    rw [← hw3] at HVA HBL ⊢
    clear hw3
    go_wp2
    go_loopw [15, 14] (fun jv v wq => ∃ j : Nat, j ≤ n ∧ jv = .int .i64 j ∧ wq.ownsRow w3.heap.size 9 1 v j (tV (resT S p k c) j) ∧ Below w3.heap.size w3 wq) (fun jv _ _ => n - (intOf jv).toNat)
    case atStart => exact ⟨0, by omega, rfl, World.ownsRow_nil _ _ _ _, Below.refl _ _⟩
    case round =>
     obtain ⟨j, hj, rfl, hown, hbl⟩ := hrel
     obtain ⟨ua, uc, hu⟩ := own_shapeq hown
     subst hu
     have HO : Hid (wr.ownsRow w3.heap.size 9 1 (.slice ua j uc) j (tV (resT S p k c) j)) := hown
     have HB : Hid (Below w3.heap.size w3 wr) := hbl
     clear hown hbl
     by_cases hlj : j < n
     ·have hjkm := HNM.out j hlj
      go_wp2_with fail
      refine Calls.mono (HVA.out wr j hlj HB.out) ?_
      rintro e w4 ⟨rfl, hb4⟩
      have HTX : Hid (resT S p k c j = resT S p k c j) := rfl
      have HO4 : Hid (w4.ownsRow w3.heap.size 9 1 (.slice ua j uc) j (tV (resT S p k c) j)) := own_below HO.out hb4
      have HB4 : Hid (Below w3.heap.size w3 w4) := HB.out.trans (hb4.mono HB.out.size)
      obtain ⟨t, ht⟩ : ∃ t, resT S p k c j = t := ⟨_, rfl⟩
      have HT : Hid _ := ht
      rw [ht]
      clear ht HTX HO HB hb4
      have hB' : w3.heap.size ≤ (w4.alloc (Obj.cells #[Value.string t] 9)).heap.size := by have := HB4.out.size; simp; omega
      go_wp2_with (at_builtin; refine wpList_append_own_at _ rfl (.tmp 106) (.tmp 108) 42 rfl w3.heap.size 9 i01 (.string ⟨#[]⟩) 1 16 Tryz.underlying42 hi9 hy0 hy1 hy2 rfl (by decide) _ j (tV (resT S p k c) j) rfl (HO4.out.alloc _) ⟨w4.heap.size, 0, none⟩ 1 1 [.string t] rfl rfl (cell_one_new _ _ _) (str_one _) ?kb ?kc hB' ?_)
      case kb => unfold maxLen; omega
      case kc => omega
      intro v' w' hown' hgrow _ hblk
      have hbl' : Below w3.heap.size w3 w' := (HB4.out.alloc HB4.out.size _).grown hgrow hB' (fun g hg => (own_ltq HO4.out g hg).1)
      have ho' : w'.ownsRow w3.heap.size 9 1 v' (j + 1) (tV (resT S p k c) (j + 1)) := by rw [tV_snocq, HT.out]; exact hown'
      clear hown' hgrow hblk HO4 HB4 hB'
      go_wp2
      go_roundw
      case rel => exact ⟨j + 1, by omega, by go_num, ho', hbl'⟩
      case measure => simp [intOf]; omega
     ·have e : j = n := by omega
      have hjo : (k : Int) + (m : Int) ≤ (j : Int) := by rw [HNI.out]; omega
      go_wp2
      go_ret2
      exact ⟨_, _, rfl, rfl, by rw [HP.out, ← e]; exact own_baseq HO.out HBL.out.size, HBL.out.trans (HB.out.mono HBL.out.size)⟩
end Go.Proofs.YtadinjaocnlglaaGreatDoor
