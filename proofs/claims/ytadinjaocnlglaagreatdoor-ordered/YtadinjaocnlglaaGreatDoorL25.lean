/-
  Rows of objects (a name, data) that are owned; the walk of vaultkeep's some.
  The order of texts; a list that is sorted by name, and one more object put in its place.
-/
import Derived.Test.YtadinjaocnlglaaGreatDoorL23
import Derived.Deep.RegionLaw
namespace Go.Proofs.YtadinjaocnlglaaGreatDoor
open Go.RowKit
set_option maxRecDepth 100000
set_option maxHeartbeats 1000000
/-- a text, or its first n bytes -/
def smT (s : ByteArray) (n : Nat) : ByteArray := if n < s.size then s.extract 0 n else s
theorem smT_size (s : ByteArray) (n : Nat) : (smT s n).size ≤ n := by
  unfold smT
  split
  · rw [ByteArray.size_extract]; omega
  · omega
theorem some_any (s : ByteArray) (n : Nat) (N : Int) (w : World) (hN : N = (n : Int)) (hn : n ≤ 1000) :
    Calls Tryz.prog 55 #[.string s, .int .i64 N] w fun e w' => e = .returned (.string (smT s n)) ∧ w' = w := by
  subst hN
  by_cases hc : n < s.size
  · have E : Hid (smT s n = s.extract 0 n) := if_pos hc
    go_enter Tryz.func55, Tryz.ntmps55
    go_wp2
    go_ret
    rw [E.out]
    exact ⟨rfl, rfl⟩
  · have E : Hid (smT s n = s) := if_neg hc
    go_enter Tryz.func55, Tryz.ntmps55
    go_wp2
    go_ret
    rw [E.out]
    exact ⟨rfl, rfl⟩
abbrev Ob := ByteArray × ByteArray
def fC (F : Nat → Ob) (i : Nat) : Value := if i % 2 = 0 then .string (F (i / 2)).1 else .string (F (i / 2)).2
def objF (F : Nat → Ob) (n : Nat) : List Value := (List.range (n * 2)).map (fC F)
/-- a list of one's own that holds the first n of these objects -/
def OwnF (w : World) (B : Nat) (v : Value) (n : Nat) (F : Nat → Ob) : Prop := w.ownsRow B 72 2 v n (objF F n)
def updF (F : Nat → Ob) (k : Nat) (o : Ob) : Nat → Ob := fun i => if i = k then o else F i
theorem objF_len (F : Nat → Ob) (n : Nat) : (objF F n).length = n * 2 := by simp [objF]
theorem objF_get (F : Nat → Ob) (n i : Nat) (h : i < n * 2) : (objF F n)[i]? = some (fC F i) := by simp [objF, h]
theorem fC_even (F : Nat → Ob) (i : Nat) : fC F (i * 2) = .string (F i).1 := by
  unfold fC; rw [if_pos (by omega), show i * 2 / 2 = i by omega]
theorem fC_odd (F : Nat → Ob) (i : Nat) : fC F (i * 2 + 1) = .string (F i).2 := by
  unfold fC; rw [if_neg (by omega), show (i * 2 + 1) / 2 = i by omega]
theorem objF_congr (F G : Nat → Ob) (n : Nat) (h : ∀ i, i < n → F i = G i) : objF F n = objF G n := by
  apply List.map_congr_left
  intro i hi
  have := List.mem_range.1 hi
  unfold fC
  rw [h (i / 2) (by omega)]
theorem objF_next (F : Nat → Ob) (n : Nat) (o : Ob) : objF (updF F n o) (n + 1) = objF F n ++ [.string o.1, .string o.2] := by
  have e : (n + 1) * 2 = n * 2 + 1 + 1 := by omega
  have h1 : objF (updF F n o) n = objF F n := objF_congr _ _ _ (fun i hi => by simp [updF]; omega)
  unfold objF at h1 ⊢
  rw [e, List.range_succ, List.range_succ, List.map_append, List.map_append, h1]
  simp only [List.map_cons, List.map_nil, fC_even, fC_odd, updF, if_pos, List.append_assoc, List.singleton_append]
theorem objF_one (F : Nat → Ob) (n : Nat) : ∀ u ∈ objF F n, u.oneCell' = true := by
  intro u hu
  obtain ⟨i, _, rfl⟩ := List.mem_map.1 hu
  unfold fC
  split <;> rfl
theorem OwnF.congr {w : World} {B n : Nat} {v : Value} {F G : Nat → Ob} (h : OwnF w B v n F) (hc : ∀ i, i < n → F i = G i) : OwnF w B v n G := by
  unfold OwnF at *
  rw [← objF_congr F G n hc]; exact h
theorem OwnF.at {w : World} {B n : Nat} {v : Value} {F : Nat → Ob} (h : OwnF w B v n F) (h0 : 0 < n) : ∃ g cap, v = .slice (some ⟨g, 0, none⟩) n cap ∧ B ≤ g ∧ g < w.heap.size ∧ n ≤ cap := by
  rcases h.2 with ⟨_, h2⟩ | ⟨g, cap, cur, rfl, hb, hh, hc, _⟩
  · omega
  · exact ⟨g, cap, rfl, hb, (Array.getElem?_eq_some_iff.1 hh).1, hc⟩
theorem OwnF.c0 {w : World} {B n g cap : Nat} {F : Nat → Ob} (h : OwnF w B (.slice (some ⟨g, 0, none⟩) n cap) n F) (i : Nat) (hi : i < n) : w.cell? ⟨g, i * 2, none⟩ = some (.string (F i).1) := by
  have := h.cells (g := g) rfl (i * 2) _ (by rw [objF_get F n _ (by omega), fC_even])
  rw [Addr.add_lit] at this
  simpa using this
theorem OwnF.c1 {w : World} {B n g cap : Nat} {F : Nat → Ob} (h : OwnF w B (.slice (some ⟨g, 0, none⟩) n cap) n F) (i : Nat) (hi : i < n) : w.cell? ⟨g, i * 2 + 1, none⟩ = some (.string (F i).2) := by
  have := h.cells (g := g) rfl (i * 2 + 1) _ (by rw [objF_get F n _ (by omega), fC_odd])
  rw [Addr.add_lit] at this
  simpa using this
theorem OwnF.free {w : World} {B n g cap : Nat} {F : Nat → Ob} (h : OwnF w B (.slice (some ⟨g, 0, none⟩) n cap) n F) (k : Nat) : w.frozen? ⟨g, k, none⟩ = false := by
  rcases h.2 with ⟨h2, _⟩ | ⟨g', cap', cur, hv, hb, hh, hc, _⟩
  · cases h2
  · cases hv; exact frozen_of_row _ _ _ _ 72 hh
theorem OwnF.low {w w' : World} {B n b : Nat} {v : Value} {F : Nat → Ob} (h : OwnF w B v n F) (hlt : ∀ r, v.ownBlock = some r → r < b) (hb : Below b w w') : OwnF w' B v n F := own_low h hlt hb
theorem OwnF.put {w : World} {B n g cap : Nat} {F : Nat → Ob} (h : OwnF w B (.slice (some ⟨g, 0, none⟩) n cap) n F) (k : Nat) (hk : k < n) (o : Ob) :
    OwnF ((w.setCell ⟨g, k * 2, none⟩ (.string o.1)).setCell ⟨g, k * 2 + 1, none⟩ (.string o.2)) B (.slice (some ⟨g, 0, none⟩) n cap) n (updF F k o) := by
  rcases h.2 with ⟨h2, _⟩ | ⟨g', cap', cur, hv, hb, hh, hc1, hc2, hc3, hc4⟩
  · cases h2
  · cases hv
    refine ⟨objF_len _ _, .inr ⟨g, cap, _, rfl, hb, set_heap _ _ _ _ _ _ _ (set_heap _ _ _ _ _ _ _ hh), hc1, hc2, by simpa using hc3, ?_⟩⟩
    apply List.ext_getElem?
    intro i
    have hcur : ∀ j, j < n * 2 → cur[j]? = some (fC F j) := fun j hj => by
      have := congrArg (fun l => l[j]?) hc4
      simp only [objF_get F n j hj] at this
      rw [← this, List.getElem?_take, if_pos hj]
      simp
    by_cases hi : i < n * 2
    · rw [objF_get _ _ _ hi, List.getElem?_take, if_pos hi]
      have hsz : n * 2 ≤ cur.size := by omega
      simp only [Array.getElem?_toList, Array.getElem?_setIfInBounds, Array.size_setIfInBounds]
      by_cases e1 : k * 2 + 1 = i
      · subst e1
        rw [if_pos rfl, if_pos (by omega), fC_odd]
        simp [updF]
      · rw [if_neg e1]
        by_cases e0 : k * 2 = i
        · subst e0
          rw [if_pos rfl, if_pos (by omega), fC_even]
          simp [updF]
        · rw [if_neg e0, hcur i hi]
          have : i / 2 ≠ k := by omega
          simp [fC, updF, this]
    · rw [List.getElem?_take, if_neg hi, List.getElem?_eq_none (by rw [objF_len]; omega)]
theorem info36 : (Tryz.prog.info? 72).map (fun i => (i.zero, i.size, i.bytes)) = some (some (.agg #[.string ⟨#[]⟩, .string ⟨#[]⟩]), 2, 32) := by kernel_rfl
end Go.Proofs.YtadinjaocnlglaaGreatDoor
namespace Go.Proofs.YtadinjaocnlglaaGreatDoor
open Go.RowKit
set_option maxRecDepth 100000
theorem bl_irr : ∀ a : List UInt8, Op.bytesLess a a = false
  | [] => rfl
  | x :: r => by simp [Op.bytesLess, bl_irr r]
theorem bl_total : ∀ a b : List UInt8, Op.bytesLess a b = false → a ≠ b → Op.bytesLess b a = true
  | [], [], _, h => absurd rfl h
  | [], y :: s, h, _ => by simp [Op.bytesLess] at h
  | x :: r, [], _, _ => rfl
  | x :: r, y :: s, h, hne => by
    simp only [Op.bytesLess, Bool.or_eq_false_iff, decide_eq_false_iff_not, Bool.and_eq_false_iff, beq_eq_false_iff_ne] at h
    simp only [Op.bytesLess, Bool.or_eq_true, decide_eq_true_eq, Bool.and_eq_true, beq_iff_eq]
    obtain ⟨h1, h2⟩ := h
    by_cases e : y = x
    · right
      refine ⟨e, bl_total r s ?_ (fun e2 => hne (by rw [e, e2]))⟩
      rcases h2 with h2 | h2
      · exact absurd e.symm h2
      · exact h2
    · left
      have h1' : ¬ x.toNat < y.toNat := h1
      have e' : ¬ y.toNat = x.toNat := fun q => e (UInt8.toNat_inj.1 q)
      show y.toNat < x.toNat
      omega
theorem bl_trans : ∀ a b c : List UInt8, Op.bytesLess a b = true → Op.bytesLess b c = true → Op.bytesLess a c = true
  | _, [], _, h, _ => by simp [Op.bytesLess] at h
  | _, y :: s, [], _, h => by simp [Op.bytesLess] at h
  | [], y :: s, z :: t, _, _ => rfl
  | x :: r, y :: s, z :: t, h1, h2 => by
    simp only [Op.bytesLess, Bool.or_eq_true, decide_eq_true_eq, Bool.and_eq_true, beq_iff_eq] at h1 h2 ⊢
    have e (p q : UInt8) : p < q ↔ p.toNat < q.toNat := Iff.rfl
    rcases h1 with h1 | ⟨rfl, h1⟩
    · rcases h2 with h2 | ⟨rfl, h2⟩
      · left; rw [e] at *; omega
      · exact .inl h1
    · rcases h2 with h2 | ⟨rfl, h2⟩
      · exact .inl h2
      · exact .inr ⟨rfl, bl_trans r s t h1 h2⟩
/-- one text comes ahead of another -/
def tlt (a b : ByteArray) : Prop := Op.bytesLess a.toList b.toList = true
/-- good objects, sorted by name -/
structure Srt (q : Nat) (F : Nat → Ob) : Prop where
  lt : ∀ i j, i < j → j < q → tlt (F i).1 (F j).1
  sz : ∀ i, i < q → 1 ≤ (F i).1.size ∧ (F i).1.size ≤ 10 ∧ (F i).2.size ≤ 12
theorem Srt.ne {q : Nat} {F : Nat → Ob} (h : Srt q F) (i j : Nat) (hi : i < q) (hj : j < q) (hne : i ≠ j) : (F i).1 ≠ (F j).1 := by
  intro e
  rcases Nat.lt_or_gt_of_ne hne with h1 | h1
  · have := h.lt i j h1 hj
    rw [e] at this
    unfold tlt at this
    rw [bl_irr] at this
    cases this
  · have := h.lt j i h1 hi
    rw [e] at this
    unfold tlt at this
    rw [bl_irr] at this
    cases this
/-- x put at place k -/
def insF (F : Nat → Ob) (k : Nat) (x : Ob) : Nat → Ob := fun i => if i < k then F i else if i = k then x else F (i - 1)
theorem Srt.ins {q : Nat} {F : Nat → Ob} (h : Srt q F) (k : Nat) (x : Ob) (hk : k ≤ q) (h1 : 1 ≤ x.1.size) (h2 : x.1.size ≤ 10) (h3 : x.2.size ≤ 12) (hlo : ∀ j, j < k → tlt (F j).1 x.1) (hhi : ∀ j, k ≤ j → j < q → tlt x.1 (F j).1) : Srt (q + 1) (insF F k x) := by
  constructor
  · intro i j hij hj
    unfold insF
    by_cases a1 : i < k
    · rw [if_pos a1]
      by_cases b1 : j < k
      · rw [if_pos b1]; exact h.lt i j hij (by omega)
      · rw [if_neg b1]
        by_cases b2 : j = k
        · rw [if_pos b2]; exact hlo i a1
        · rw [if_neg b2]; exact h.lt i (j - 1) (by omega) (by omega)
    · rw [if_neg a1, if_neg (show ¬ j < k by omega), if_neg (show ¬ j = k by omega)]
      by_cases a2 : i = k
      · rw [if_pos a2]; exact hhi (j - 1) (by omega) (by omega)
      · rw [if_neg a2]; exact h.lt (i - 1) (j - 1) (by omega) (by omega)
  · intro i hi
    unfold insF
    by_cases a1 : i < k
    · rw [if_pos a1]; exact h.sz i (by omega)
    · rw [if_neg a1]
      by_cases a2 : i = k
      · rw [if_pos a2]; exact ⟨h1, h2, h3⟩
      · rw [if_neg a2]; exact h.sz (i - 1) (by omega)
theorem Srt.below {q : Nat} {F : Nat → Ob} (h : Srt q F) (k : Nat) (x : ByteArray) (hk : 0 < k) (hq : k ≤ q) (h1 : tlt (F (k - 1)).1 x) : ∀ j, j < k → tlt (F j).1 x := by
  intro j hj
  by_cases e : j = k - 1
  · rw [e]; exact h1
  · exact bl_trans _ _ _ (h.lt j (k - 1) (by omega) (by omega)) h1
/-- the places above j hold what lay one lower -/
def shF (F : Nat → Ob) (q : Nat) (x : Ob) (j : Nat) : Nat → Ob := fun i => if i ≤ j then (if i = q then x else F i) else F (i - 1)
theorem shF_start (F : Nat → Ob) (q : Nat) (x : Ob) (i : Nat) (hi : i < q + 1) : updF F q x i = shF F q x q i := by
  unfold updF shF
  rw [if_pos (show i ≤ q by omega)]
theorem shF_step (F : Nat → Ob) (q j : Nat) (x : Ob) (h0 : 0 < j) (hj : j ≤ q) (i : Nat) : updF (shF F q x j) j (shF F q x j (j - 1)) i = shF F q x (j - 1) i := by
  have e : shF F q x j (j - 1) = F (j - 1) := by unfold shF; rw [if_pos (by omega), if_neg (by omega)]
  rw [e]
  unfold updF shF
  by_cases h : i = j
  · subst h; rw [if_pos rfl, if_neg (by omega)]
  · rw [if_neg h]
    by_cases h2 : i ≤ j
    · rw [if_pos h2, if_neg (show ¬ i = q by omega), if_pos (show i ≤ j - 1 by omega)]
    · rw [if_neg h2, if_neg (show ¬ i ≤ j - 1 by omega)]
theorem shF_end (F : Nat → Ob) (q k : Nat) (x : Ob) (hk : k ≤ q) (i : Nat) : updF (shF F q x k) k x i = insF F k x i := by
  unfold updF shF insF
  by_cases h : i = k
  · subst h; rw [if_pos rfl, if_neg (by omega), if_pos rfl]
  · rw [if_neg h]
    by_cases h2 : i < k
    · rw [if_pos (by omega), if_neg (by omega), if_pos h2]
    · rw [if_neg (by omega), if_neg h2, if_neg h]
end Go.Proofs.YtadinjaocnlglaaGreatDoor
