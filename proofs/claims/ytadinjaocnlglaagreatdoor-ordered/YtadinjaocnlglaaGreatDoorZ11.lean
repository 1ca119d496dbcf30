/-
  The walks of stripe.Restore, vault.Restore, where they refuse nothing.
  Plain: what Restore puts together is the whole stripe, wherever k places are told as known.
  The walks of lent, list, still, sameTexts.
-/
import Derived.Test.YtadinjaocnlglaaGreatDoorZ10
import Derived.WalkKit
import Derived.WalkSpells
import Derived.WalkLawsBesides
import Derived.BigRegion
import Derived.BigQuiet
import Derived.Deep.QuietTactic
import Derived.Deep.RegionWith
import Derived.Deep.RegionHeld3
namespace Go.Proofs.YtadinjaocnlglaaGreatDoor
open Go.RowKit
set_option maxRecDepth 100000
def gt (l : List Nat) : Nat → Nat := fun i => l.getD i 0
theorem vI_get (l : List Nat) (i : Nat) (h : i < l.length) : (vI l)[i]? = some (.int .i64 ((gt l i : Nat) : Int)) := by
  simp [vI, gt, h]
/-- what was gathered, as a list of points -/
theorem own_cells {w : World} {B : Nat} {v : Value} {l : List Nat} (h : w.ownsRow B 3 1 v l.length (vI l)) (h0 : 0 < l.length) : ∃ g cap, v = .slice (some ⟨g, 0, none⟩) l.length cap ∧ g < w.heap.size ∧ Cl w g l.length (pI (gt l)) := by
  rcases h.2 with ⟨_, h'⟩ | ⟨g, cap, cur, hv, _, hh, _⟩
  · omega
  · subst hv
    refine ⟨g, cap, rfl, (Array.getElem?_eq_some_iff.1 hh).1, fun i hi => ?_⟩
    rw [h.cellAt i (by omega), vI_get l i hi]
    rfl
theorem own_pts {w : World} {B : Nat} {v : Value} {l : List Nat} (h : w.ownsRow B 3 1 v l.length (vI l)) : Pts w v l.length (gt l) := by
  rcases h.2 with ⟨h1, h'⟩ | ⟨g, cap, cur, hv, _, hh, _⟩
  · exact .inl ⟨h1, h'⟩
  · subst hv
    refine .inr ⟨g, cap, rfl, (Array.getElem?_eq_some_iff.1 hh).1, fun i hi => ?_⟩
    rw [h.cellAt i (by omega), vI_get l i hi]
    rfl
theorem knL_mem (h : Nat → Bool) (k : Nat) : ∀ n x, x ∈ knL h k n → x < n ∧ h x = true
  | 0, x, hx => by simp [knL] at hx
  | n + 1, x, hx => by
    rw [knL] at hx
    split at hx
    · rename_i hc
      rcases List.mem_append.1 hx with hx | hx
      · have := knL_mem h k n x hx; exact ⟨by omega, this.2⟩
      · simp at hx; subst hx; exact ⟨by omega, hc.1⟩
    · have := knL_mem h k n x hx; exact ⟨by omega, this.2⟩
theorem wnL_mem (h : Nat → Bool) (k : Nat) : ∀ n x, x ∈ wnL h k n → x < n
  | 0, x, hx => by simp [wnL] at hx
  | n + 1, x, hx => by
    rw [wnL] at hx
    split at hx
    · have := wnL_mem h k n x hx; omega
    · rcases List.mem_append.1 hx with hx | hx
      · have := wnL_mem h k n x hx; omega
      · simp at hx; omega
theorem gt_mem (l : List Nat) (i : Nat) (h : i < l.length) : gt l i ∈ l := by
  unfold gt; rw [List.getD_eq_getElem?_getD, List.getElem?_eq_getElem h]; exact List.getElem_mem h
set_option maxHeartbeats 1000000 in
theorem restore_ok (S : Nat → ByteArray) (h : Nat → Bool) (k m c b cap b2 cap2 i0 : Nat) (w : World) (hk1 : 1 ≤ k) (hkm : k + m ≤ 255) (hc : c ≤ 140737488351232) (hi0 : i0 < k + m) (h1 : h i0 = true) (h2 : ∀ j, j < i0 → h j = false) (hS : ∀ i, i < k + m → h i = true → (S i).size = c) (hK : (knL h k (k + m)).length = k)
    (hb : b < w.heap.size) (hb2 : b2 < w.heap.size) (hC : Cl w b (k + m) (tI S)) (hB : Cl w b2 (k + m) (bI h)) :
    Calls Tryz.prog 221 #[.int .i64 k, .int .i64 m, .slice (some ⟨b, 0, none⟩) (k + m) cap, .slice (some ⟨b2, 0, none⟩) (k + m) cap2] w fun e w' => ∃ g, e = .returned (.tuple #[.slice (some ⟨g, 0, none⟩) (k + m) (k + m), .nilIface]) ∧ w.heap.size ≤ g ∧
      Rw w' g (k + m) 9 (filled S (gt (knL h k (k + m))) (gt (wnL h k (k + m))) k (wnL h k (k + m)).length c) ∧ Below w.heap.size w w' := by
  have HL : Hid _ := checkLengths_ok S h b (k + m) cap b2 cap2 c i0 w (by omega) hi0 h1 h2 hS hC hB
  have hml := wnL_len h k (k + m)
  obtain ⟨n, hn⟩ : ∃ n, n = k + m := ⟨_, rfl⟩
  have hni : ((k : Int) + (m : Int)) = (n : Int) := by omega
  rw [← hn] at hS hK hC hB HL hi0 hml ⊢
  have hn255 : n ≤ 255 := by omega
  have HNI : Hid _ := hni
  have hkn : k ≤ n := by omega
  have HS : Hid _ := hS
  have HK : Hid _ := hK
  have HC : Hid _ := hC
  have HB : Hid _ := hB
  clear hS hC hB hK h1 h2 hn
  go_enter Tryz.func221, Tryz.ntmps221
  go_wp2_with fail
  refine (checkParams_ok k m _ hk1 hkm).mono ?_
  rintro e w' ⟨rfl, rfl⟩
  go_wp2_with fail
  refine (Calls.mono HL.out ?_)
  rintro e w1 ⟨rfl, q, hq⟩
  have HQ : Hid _ := hq
  have hC1 : Cl w1 b n (tI S) := by rw [hq]; exact HC.out
  have hB1 : Cl w1 b2 n (bI h) := by rw [hq]; exact HB.out
  have hBel : Below w'.heap.size w' w1 := by rw [hq]; exact below_drewN (Below.refl _ _) q
  have hs1 : w1.heap.size = w'.heap.size := by rw [hq]; rfl
  have HC1 : Hid _ := hC1
  have HB1 : Hid _ := hB1
  have HS1 : Hid _ := hs1
  clear hC1 hB1 hq hs1 hni
  go_wp2_with fail
  refine (split_any h b2 n cap2 k w1 (by omega) (by omega) (by rw [HS1.out]; exact hb2) HB1.out).mono ?_
  rintro e w2 ⟨v1, v2, rfl, ho1, ho2, hB2⟩
  have hp2 := own_pts ho2
  obtain ⟨g1, cap1, hv1, hg1, hc1⟩ := own_cells ho1 (by rw [HK.out]; omega)
  rw [HK.out] at hv1 hc1
  subst hv1
  have HP2 : Hid _ := hp2
  have HC1' : Hid _ := hc1
  clear hp2 hc1 ho1 ho2
  have hbb : b < w2.heap.size := by have := HS1.out; have := hB2.size; omega
  have hC2 : Cl w2 b n (tI S) := Cl.below HC1.out hB2 (by rw [HS1.out]; exact hb)
  have HC2 : Hid _ := hC2
  clear hC2
  go_wp2_with fail
  refine (fill_any S (gt (knL h k n)) (gt (wnL h k n)) n k (wnL h k n).length c b cap g1 cap1 v2 w2 (by omega) (by omega) hkn hml (by omega) hc (fun i hi => ?_) (fun i hi => ?_) (fun i hi => ?_) hbb hg1 HC2.out HC1'.out HP2.out).mono ?_
  · have := knL_mem h k n _ (gt_mem (knL h k n) i (by rw [HK.out]; exact hi)); exact HS.out _ this.1 this.2
  · exact (knL_mem h k n _ (gt_mem (knL h k n) i (by rw [HK.out]; exact hi))).1
  · exact wnL_mem h k n _ (gt_mem (wnL h k n) i hi)
  rintro e w3 ⟨rfl, hR3, hB3⟩
  go_wp2
  go_ret2
  exact ⟨w2.heap.size, rfl, Nat.le_trans hBel.size hB2.size, hR3, (hBel.trans (hB2.mono hBel.size)).trans (hB3.mono (Nat.le_trans hBel.size hB2.size))⟩
end Go.Proofs.YtadinjaocnlglaaGreatDoor
namespace Go.Proofs.YtadinjaocnlglaaGreatDoor
open Go.RowKit
set_option maxRecDepth 100000
theorem puts_hit (z : Nat → Value) (idx : Nat → Nat) (val T : Nat → Value) (x : Nat) : ∀ m, (∀ j, j < m → val j = T (idx j)) → ((∃ j, j < m ∧ idx j = x) ∨ z x = T x) → puts z idx val m x = T x
  | 0, _, h => by
    rcases h with ⟨j, hj, _⟩ | h
    · omega
    · exact h
  | m + 1, hv, h => by
    rw [puts, updV]
    by_cases e : x = idx m
    · rw [if_pos e, hv m (by omega), e]
    · rw [if_neg e]
      refine puts_hit z idx val T x m (fun j hj => hv j (by omega)) ?_
      rcases h with ⟨j, hj, hx⟩ | h
      · refine .inl ⟨j, ?_, hx⟩
        by_cases e2 : j = m
        · subst e2; exact absurd hx.symm e
        · omega
      · exact .inr h
theorem knL_lt (h : Nat → Bool) (k : Nat) : ∀ n, (knL h k n).Pairwise (· < ·)
  | 0 => by simp [knL]
  | n + 1 => by
    rw [knL]
    split
    · refine List.pairwise_append.2 ⟨knL_lt h k n, by simp, fun a ha b hb => ?_⟩
      simp at hb; rw [hb]; exact (knL_mem h k n a ha).1
    · exact knL_lt h k n
theorem gt_lt (l : List Nat) (hl : l.Pairwise (· < ·)) (i j : Nat) (hij : i < j) (hj : j < l.length) : gt l i < gt l j := by
  unfold gt
  rw [List.getD_eq_getElem?_getD, List.getD_eq_getElem?_getD, List.getElem?_eq_getElem hj, List.getElem?_eq_getElem (by omega : i < l.length)]
  exact List.pairwise_iff_getElem.1 hl i j (by omega) hj hij
theorem gt_of_mem (l : List Nat) (x : Nat) (h : x ∈ l) : ∃ j, j < l.length ∧ gt l j = x := by
  obtain ⟨j, hj, e⟩ := List.mem_iff_getElem.1 h
  refine ⟨j, hj, ?_⟩
  unfold gt
  rw [List.getD_eq_getElem?_getD, List.getElem?_eq_getElem hj]
  exact e
theorem cover (h : Nat → Bool) (k x : Nat) : ∀ n, x < n → x ∈ knL h k n ∨ x ∈ wnL h k n
  | 0, hx => by omega
  | n + 1, hx => by
    rw [knL, wnL]
    by_cases e : x = n
    · subst e
      by_cases hc : h x = true ∧ (knL h k x).length < k
      · rw [if_pos hc]; left; simp
      · rw [if_neg hc, if_neg hc]; right; simp
    · have := cover h k x n (by omega)
      by_cases hc : h n = true ∧ (knL h k n).length < k
      · rw [if_pos hc, if_pos hc]
        rcases this with h1 | h1
        · left; exact List.mem_append.2 (.inl h1)
        · right; exact h1
      · rw [if_neg hc, if_neg hc]
        rcases this with h1 | h1
        · left; exact h1
        · right; exact List.mem_append.2 (.inl h1)
/-- how many places below n are told -/
def cnt (h : Nat → Bool) : Nat → Nat
  | 0 => 0
  | n + 1 => cnt h n + (if h n = true then 1 else 0)
theorem knL_cnt (h : Nat → Bool) (k : Nat) : ∀ n, (knL h k n).length = min k (cnt h n)
  | 0 => by simp [knL, cnt]
  | n + 1 => by
    rw [knL, cnt]
    have := knL_cnt h k n
    by_cases h1 : h n = true
    · rw [if_pos h1]
      by_cases h2 : (knL h k n).length < k
      · rw [if_pos ⟨h1, h2⟩, List.length_append, this]; simp; omega
      · rw [if_neg (fun x => h2 x.2), this]; omega
    · rw [if_neg h1, if_neg (fun x => h1 x.1), this]; omega
def updB (h : Nat → Bool) (x : Nat) (b : Bool) : Nat → Bool := fun j => if j = x then b else h j
theorem cnt_all (n : Nat) : cnt (fun _ => true) n = n := by
  induction n with
  | zero => rfl
  | succ n ih => rw [cnt, ih]; rfl
theorem cnt_same (h g : Nat → Bool) : ∀ n, (∀ j, j < n → h j = g j) → cnt h n = cnt g n
  | 0, _ => rfl
  | n + 1, e => by rw [cnt, cnt, cnt_same h g n (fun j hj => e j (by omega)), e n (by omega)]
theorem cnt_upd (h : Nat → Bool) (x : Nat) : ∀ n, cnt h n ≤ cnt (updB h x false) n + 1
  | 0 => by simp [cnt]
  | n + 1 => by
    rw [cnt, cnt]
    by_cases e : n = x
    · have : cnt (updB h x false) n = cnt h n := cnt_same _ _ n (fun j hj => if_neg (by omega))
      rw [this]; split <;> omega
    · have := cnt_upd h x n
      rw [show updB h x false n = h n from if_neg e]
      omega
theorem cnt_first (h : Nat → Bool) : ∀ n, 0 < cnt h n → ∃ i, i < n ∧ h i = true ∧ ∀ j, j < i → h j = false
  | 0, p => by simp [cnt] at p
  | n + 1, p => by
    rw [cnt] at p
    by_cases q : 0 < cnt h n
    · obtain ⟨i, hi, h1, h2⟩ := cnt_first h n q; exact ⟨i, by omega, h1, h2⟩
    · have hz : cnt h n = 0 := by omega
      have h1 : h n = true := by
        by_cases e : h n = true
        · exact e
        · rw [if_neg e] at p; omega
      refine ⟨n, by omega, h1, fun j hj => ?_⟩
      have aux : ∀ m, j < m → m ≤ n → cnt h m = 0 → h j = false := by
        intro m
        induction m with
        | zero => intro hm; omega
        | succ m ih =>
          intro hm hle hc
          rw [cnt] at hc
          by_cases e : j = m
          · subst e
            by_cases e2 : h j = true
            · rw [if_pos e2] at hc; omega
            · simpa using e2
          · exact ih (by omega) (by omega) (by omega)
      exact aux n hj (Nat.le_refl _) hz
/-- ALL BLOCKS COME BACK -/
theorem filled_all (S B : Nat → ByteArray) (h : Nat → Bool) (k m c : Nat) (hkm : k + m ≤ 255) (hS : ∀ i, i < k → (S i).size = c) (hB : ∀ i, i < k + m → h i = true → B i = allS S k c i) (hK : (knL h k (k + m)).length = k) (x : Nat) (hx : x < k + m) :
    filled B (gt (knL h k (k + m))) (gt (wnL h k (k + m))) k (wnL h k (k + m)).length c x = .string (allS S k c x) := by
  have hkn : ∀ i, i < k → B (gt (knL h k (k + m)) i) = allS S k c (gt (knL h k (k + m)) i) := fun i hi => by
    have := knL_mem h k (k + m) _ (gt_mem (knL h k (k + m)) i (by rw [hK]; exact hi)); exact hB _ this.1 this.2
  have hlt : ∀ i, i < k → gt (knL h k (k + m)) i < 256 := fun i hi => by
    have := knL_mem h k (k + m) _ (gt_mem (knL h k (k + m)) i (by rw [hK]; exact hi)); omega
  have hne : ∀ i j, i < k → j < k → i ≠ j → gt (knL h k (k + m)) i ≠ gt (knL h k (k + m)) j := fun i j hi hj e => by
    rcases Nat.lt_or_gt_of_ne e with e | e
    · have := gt_lt _ (knL_lt h k (k + m)) i j e (by rw [hK]; exact hj); omega
    · have := gt_lt _ (knL_lt h k (k + m)) j i e (by rw [hK]; exact hi); omega
  unfold filled
  refine puts_hit _ _ _ (fun x => .string (allS S k c x)) x _ (fun j hj => ?_) ?_
  · have hq : gt (wnL h k (k + m)) j < 256 := by have := wnL_mem h k (k + m) _ (gt_mem (wnL h k (k + m)) j hj); omega
    exact congrArg Value.string (vl_back S k c (gt (knL h k (k + m))) (gt (wnL h k (k + m))) j _ (by omega) hS hq hlt hne hkn)
  · rcases cover h k x (k + m) hx with h1 | h1
    · right
      refine puts_hit _ _ _ (fun x => .string (allS S k c x)) x _ (fun j hj => congrArg Value.string (hkn j hj)) (.inl ?_)
      obtain ⟨j, hj, e⟩ := gt_of_mem _ _ h1
      exact ⟨j, by rw [hK] at hj; exact hj, e⟩
    · left; exact gt_of_mem _ _ h1
end Go.Proofs.YtadinjaocnlglaaGreatDoor
namespace Go.Proofs.YtadinjaocnlglaaGreatDoor
open Go.RowKit
set_option maxHeartbeats 1000000
set_option maxRecDepth 100000
/-- "behind" -/
def bhdT : ByteArray := ⟨#[98, 101, 104, 105, 110, 100]⟩
/-- a list with something behind it -/
def lF (L : Nat → ByteArray) (n : Nat) : Nat → Value := fun i => .string (if i < n then L i else bhdT)
/-- a list that is handed over -/
structure LentAt (w : World) (x g1 g2 n : Nat) (nl : Bool) (L : Nat → ByteArray) : Prop where
  obj : w.heap[x]? = some (.cells #[.slice (some ⟨g1, 0, none⟩) (n + 8) (n + 8), .slice (some ⟨g2, 0, none⟩) (n + 8) (n + 8), .int .i64 n, .bool nl] 204 (0, 0))
  all : Rw w g1 (n + 8) 9 (lF L n)
  want : Rw w g2 (n + 8) 9 (lF L n)
  ne : g1 ≠ g2
/-- the texts of a list that came in -/
def In (w : World) (a : Option Addr) (n : Nat) (L : Nat → ByteArray) : Prop := ∀ i, i < n → ∃ b off, a = some ⟨b, off, none⟩ ∧ b < w.heap.size ∧ w.cell? ⟨b, off + i, none⟩ = some (.string (L i))
theorem In.below {w w' : World} {a : Option Addr} {n : Nat} {L : Nat → ByteArray} (h : In w a n L) (hb : Below w.heap.size w w') : In w' a n L := fun i hi => by
  obtain ⟨b, off, ha, hl, hc⟩ := h i hi
  exact ⟨b, off, ha, Nat.lt_of_lt_of_le hl hb.size, (hb.cell (p := ⟨b, off + i, none⟩) hl).trans hc⟩
theorem eql_nil (a : Option Addr) (n cap : Nat) (W : World) : (binOp .eql 42 (.slice a n cap) (.slice none 0 0)).run Tryz.prog W = .ok (.bool a.isNone) W := by cases a <;> kernel_rfl
theorem lent_any (L : Nat → ByteArray) (a : Option Addr) (n cap : Nat) (w : World) (hn : n ≤ 4398046511104) (hI : In w a n L) :
    Calls Tryz.prog 59 #[.slice a n cap] w fun e w' => ∃ g1 g2, e = .returned (.pointer (some ⟨w.heap.size, 0, none⟩)) ∧ w.heap.size < g1 ∧ w.heap.size < g2 ∧ LentAt w' w.heap.size g1 g2 n a.isNone L ∧ Below w.heap.size w w' := by
  have HI : Hid (In w a n L) := hI
  clear hI
  obtain ⟨m, hm, hmk⟩ : ∃ m, m = n + 8 ∧ ∀ W : World, (Instr.makeSlice 42 (.int .i64 ((n : Int) + 8)) (.int .i64 ((n : Int) + 8))).run Tryz.prog W = .ok (.slice (some ⟨W.heap.size, 0, none⟩) m m) (W.alloc (.cells (madeCells #[.string ⟨#[]⟩] m) 9)) := by
    refine ⟨n + 8, rfl, fun W => ?_⟩
    rw [show ((n : Int) + 8) = ((n + 8 : Nat) : Int) by omega]
    exact run_make_row' (P := Tryz.prog) 42 9 (.string ⟨#[]⟩) 16 Tryz.underlying42 info9 rfl .i64 .i64 (n + 8) (by omega) (by omega) W
  have HM : Hid _ := hm
  have hmb : m ≤ 4398046511112 := by omega
  clear hm
  have hnil := fun W => eql_nil a n cap W
  go_enter Tryz.func59, Tryz.ntmps59
  go_wp2
  obtain ⟨x, hx⟩ : ∃ x, x = w.heap.size := ⟨_, rfl⟩
  obtain ⟨w0, hw0⟩ : ∃ w0, w0 = (((w.alloc (Obj.cells #[Value.slice (some { block := w.heap.size + 1, off := 0 }) m m, Value.slice (some { block := w.heap.size + 1 + 1, off := 0 }) m m, Value.int IntKind.i64 ↑n, Value.bool a.isNone] 204)).alloc (Obj.cells (madeCells #[Value.string { data := #[] }] m) 9)).alloc (Obj.cells (madeCells #[Value.string { data := #[] }] m) 9)) := ⟨_, rfl⟩
  have hz0 : w0.heap.size = w.heap.size + 3 := by rw [hw0]; simp
  have hB0 : Below w.heap.size w w0 := by rw [hw0]; exact ((((Below.refl _ w).alloc (Nat.le_refl _) _)).alloc (by simp) _).alloc (by simp; omega) _
  have hO0 : w0.heap[w.heap.size]? = some (.cells #[.slice (some ⟨w.heap.size + 1, 0, none⟩) m m, .slice (some ⟨w.heap.size + 1 + 1, 0, none⟩) m m, .int .i64 n, .bool a.isNone] 204 (0, 0)) := by
    rw [hw0, Below.heap_alloc _ _ _ (by simp; omega), Below.heap_alloc _ _ _ (by simp)]; exact heap_alloc_new _ _
  have hA0 : Rw w0 (w.heap.size + 1) m 9 (fun _ => .string ⟨#[]⟩) := by
    have h1 := Rw.made (w.alloc (Obj.cells #[Value.slice (some { block := w.heap.size + 1, off := 0 }) m m, Value.slice (some { block := w.heap.size + 1 + 1, off := 0 }) m m, Value.int IntKind.i64 ↑n, Value.bool a.isNone] 204)) m 9 (.string ⟨#[]⟩)
    have e : (w.alloc (Obj.cells #[Value.slice (some { block := w.heap.size + 1, off := 0 }) m m, Value.slice (some { block := w.heap.size + 1 + 1, off := 0 }) m m, Value.int IntKind.i64 ↑n, Value.bool a.isNone] 204)).heap.size = w.heap.size + 1 := by simp
    rw [e] at h1
    rw [hw0]; exact h1.alloc _
  have hW0 : Rw w0 (w.heap.size + 1 + 1) m 9 (fun _ => .string ⟨#[]⟩) := by
    have h1 := Rw.made ((w.alloc (Obj.cells #[Value.slice (some { block := w.heap.size + 1, off := 0 }) m m, Value.slice (some { block := w.heap.size + 1 + 1, off := 0 }) m m, Value.int IntKind.i64 ↑n, Value.bool a.isNone] 204)).alloc (Obj.cells (madeCells #[Value.string { data := #[] }] m) 9)) m 9 (.string ⟨#[]⟩)
    have e : ((w.alloc (Obj.cells #[Value.slice (some { block := w.heap.size + 1, off := 0 }) m m, Value.slice (some { block := w.heap.size + 1 + 1, off := 0 }) m m, Value.int IntKind.i64 ↑n, Value.bool a.isNone] 204)).alloc (Obj.cells (madeCells #[Value.string { data := #[] }] m) 9)).heap.size = w.heap.size + 1 + 1 := by simp
    rw [e] at h1
    rw [hw0]; exact h1
  rw [← hw0]
  obtain ⟨g1, hg1⟩ : ∃ g1, g1 = w.heap.size + 1 := ⟨_, rfl⟩
  obtain ⟨g2, hg2⟩ : ∃ g2, g2 = w.heap.size + 1 + 1 := ⟨_, rfl⟩
  rw [← hg2] at hO0 hW0 ⊢
  rw [← hg1] at hO0 hA0 ⊢
  have k1 : w.heap.size < g1 := by omega
  have k2 : w.heap.size < g2 := by omega
  have k3 : g1 ≠ g2 := by omega
  rw [← hx] at hO0 hB0 k1 k2 ⊢
  have HX : Hid _ := hx
  clear hw0 hg1 hg2 hz0 hx
  go_loopw [4] (fun kv wr => ∃ k : Nat, k ≤ m ∧ kv = .int .i64 k ∧ wr.heap[x]? = some (.cells #[.slice (some ⟨g1, 0, none⟩) m m, .slice (some ⟨g2, 0, none⟩) m m, .int .i64 n, .bool a.isNone] 204 (0, 0)) ∧ Rw wr g1 m 9 (part' k (lF L n) (.string ⟨#[]⟩)) ∧ Rw wr g2 m 9 (part' k (lF L n) (.string ⟨#[]⟩)) ∧ Below x w wr) (fun kv _ => m - (intOf kv).toNat)
  case atStart => exact ⟨0, by omega, rfl, hO0, hA0.to (fun j _ => (part_0 _ _ j).symm), hW0.to (fun j _ => (part_0 _ _ j).symm), hB0⟩
  case round =>
    obtain ⟨k, hk, rfl, hO, hA, hW, hB⟩ := hrel
    have o0 : wr.cell? ⟨x, 0, none⟩ = some (.slice (some ⟨g1, 0, none⟩) m m) := cell_of_row _ _ _ _ 204 _ hO
    have o1 : wr.cell? ⟨x, 1, none⟩ = some (.slice (some ⟨g2, 0, none⟩) m m) := cell_of_row _ _ _ _ 204 _ hO
    by_cases hlt : k < m
    · have c1 := hA.cell k hlt
      have f1 := hA.free k
      have n1 : x ≠ g1 := by omega
      have n2 : x ≠ g2 := by omega
      have HA1 : Hid (Rw (wr.setCell ⟨g1, k, none⟩ (.string bhdT)) g1 m 9 (updV (part' k (lF L n) (.string ⟨#[]⟩)) k (.string bhdT))) := hA.put k _
      have HW1 : Hid (Rw (wr.setCell ⟨g1, k, none⟩ (.string bhdT)) g2 m 9 (part' k (lF L n) (.string ⟨#[]⟩))) := hW.other _ _ (by simp; omega)
      have HO1 : Hid ((wr.setCell ⟨g1, k, none⟩ (.string bhdT)).heap[x]? = some (.cells #[.slice (some ⟨g1, 0, none⟩) m m, .slice (some ⟨g2, 0, none⟩) m m, .int .i64 n, .bool a.isNone] 204 (0, 0))) := by
        show (wr.setCell ⟨g1, k, none⟩ (.string bhdT)).heap[x]? = _
        rw [heap_setCell_other wr ⟨g1, k, none⟩ x _ (by simpa using n1)]; exact hO
      have HB1 : Hid (Below x w (wr.setCell ⟨g1, k, none⟩ (.string bhdT))) := hB.setCell (by simp; omega) _
      have hk0 : (0 : Int) ≤ (k : Int) := by omega
      have hkm : (k : Int) < (m : Int) := by omega
      by_cases hkn : k < n
      · obtain ⟨b, off, ha, hbl, hc⟩ := HI.out k hkn
        subst ha
        have hkn' : (k : Int) < (n : Int) := by omega
        clear hA hW hO hB
        go_wp2
        rw [show ({ data := #[98, 101, 104, 105, 110, 100] } : ByteArray) = bhdT from rfl]
        obtain ⟨w1, hw1⟩ : ∃ w1, w1 = wr.setCell ⟨g1, k, none⟩ (.string bhdT) := ⟨_, rfl⟩
        rw [← hw1] at HA1 HW1 HO1 HB1 ⊢
        clear hw1 c1 f1 o0 o1
        have c1 := HA1.out.cell k hlt
        have f1 := HA1.out.free k
        have o0 : w1.cell? ⟨x, 0, none⟩ = some (.slice (some ⟨g1, 0, none⟩) m m) := cell_of_row _ _ _ _ 204 _ HO1.out
        have ci : w1.cell? ⟨b, off + k, none⟩ = some (.string (L k)) := (HB1.out.cell (p := ⟨b, off + k, none⟩) (by have := HX.out; show b < x; omega)).trans hc
        clear hc
        go_region
        have hV : lF L n k = .string (L k) := by unfold lF; rw [if_pos hkn]
        have HV : Hid _ := hV
        have HA2 : Hid (Rw (w1.setCell ⟨g1, k, none⟩ (.string (L k))).drew g1 m 9 (part' (k + 1) (lF L n) (.string ⟨#[]⟩))) := ((HA1.out.put k _).to (fun j _ => by rw [← part_step, hV]; unfold updV; split <;> rfl)).drew
        have HW2 : Hid (Rw (w1.setCell ⟨g1, k, none⟩ (.string (L k))).drew g2 m 9 (part' k (lF L n) (.string ⟨#[]⟩))) := (HW1.out.other _ _ (by simp; omega)).drew
        have HO2 : Hid ((w1.setCell ⟨g1, k, none⟩ (.string (L k))).drew.heap[x]? = some (.cells #[.slice (some ⟨g1, 0, none⟩) m m, .slice (some ⟨g2, 0, none⟩) m m, .int .i64 n, .bool (some (⟨b, off, none⟩ : Addr)).isNone] 204 (0, 0))) := by
          show (w1.setCell ⟨g1, k, none⟩ (.string (L k))).heap[x]? = _
          rw [heap_setCell_other w1 ⟨g1, k, none⟩ x _ (by simpa using n1)]; exact HO1.out
        have HB2 : Hid (Below x w (w1.setCell ⟨g1, k, none⟩ (.string (L k))).drew) := (HB1.out.setCell (by simp; omega) _).drew
        obtain ⟨w2, hw2⟩ : ∃ w2, w2 = (w1.setCell ⟨g1, k, none⟩ (.string (L k))).drew := ⟨_, rfl⟩
        rw [← hw2] at HA2 HW2 HO2 HB2 ⊢
        clear hw2 c1 f1 o0 ci HA1 HW1 HO1 HB1
        go_wp2
        have c1 := HA2.out.cell k hlt
        rw [show part' (k + 1) (lF L n) (.string ⟨#[]⟩) k = .string (L k) by unfold part'; rw [if_pos (by omega), hV]] at c1
        have c2 := HW2.out.cell k hlt
        have f2 := HW2.out.free k
        have o0 : w2.cell? ⟨x, 0, none⟩ = some (.slice (some ⟨g1, 0, none⟩) m m) := cell_of_row _ _ _ _ 204 _ HO2.out
        have o1 : w2.cell? ⟨x, 1, none⟩ = some (.slice (some ⟨g2, 0, none⟩) m m) := cell_of_row _ _ _ _ 204 _ HO2.out
        clear hV
        go_region
        have hA3 : Rw ((w2.setCell ⟨g2, k, none⟩ (.string (L k))).drew) g1 m 9 (part' (k + 1) (lF L n) (.string ⟨#[]⟩)) := (HA2.out.other _ _ (by simp; omega)).drew
        have hW3 : Rw ((w2.setCell ⟨g2, k, none⟩ (.string (L k))).drew) g2 m 9 (part' (k + 1) (lF L n) (.string ⟨#[]⟩)) := ((HW2.out.put k _).to (fun j _ => by rw [← part_step]; congr 1; exact (HV.out).symm)).drew
        have hO3 : ((w2.setCell ⟨g2, k, none⟩ (.string (L k))).drew).heap[x]? = some (.cells #[.slice (some ⟨g1, 0, none⟩) m m, .slice (some ⟨g2, 0, none⟩) m m, .int .i64 n, .bool (some (⟨b, off, none⟩ : Addr)).isNone] 204 (0, 0)) := by
          show (w2.setCell ⟨g2, k, none⟩ (.string (L k))).heap[x]? = _
          rw [heap_setCell_other w2 ⟨g2, k, none⟩ x _ (by simpa using n2)]; exact HO2.out
        have hB3 : Below x w ((w2.setCell ⟨g2, k, none⟩ (.string (L k))).drew) := (HB2.out.setCell (by simp; omega) _).drew
        clear c1 c2 f2 o0 o1
        go_wp2
        go_roundw
        case rel => exact ⟨k + 1, by omega, by go_num, hO3, hA3, hW3, hB3⟩
        case measure => simp [intOf]; omega
      · have hkn' : ¬ (k : Int) < (n : Int) := by omega
        have hd : decide ((k : Int) < (n : Int)) = false := by simp; omega
        have hV : lF L n k = .string bhdT := by unfold lF; rw [if_neg hkn]
        have HV : Hid _ := hV
        clear hA hW hO hB
        go_wp2
        rw [show ({ data := #[98, 101, 104, 105, 110, 100] } : ByteArray) = bhdT from rfl]
        have HA2 : Hid (Rw (wr.setCell ⟨g1, k, none⟩ (.string bhdT)) g1 m 9 (part' (k + 1) (lF L n) (.string ⟨#[]⟩))) := HA1.out.to (fun j _ => by rw [← part_step, hV])
        obtain ⟨w1, hw1⟩ : ∃ w1, w1 = wr.setCell ⟨g1, k, none⟩ (.string bhdT) := ⟨_, rfl⟩
        rw [← hw1] at HA2 HW1 HO1 HB1 ⊢
        clear hw1 c1 f1 o0 o1 HA1
        have c1 := HA2.out.cell k hlt
        rw [show part' (k + 1) (lF L n) (.string ⟨#[]⟩) k = .string bhdT by unfold part'; rw [if_pos (by omega), hV]] at c1
        have c2 := HW1.out.cell k hlt
        have f2 := HW1.out.free k
        have o0 : w1.cell? ⟨x, 0, none⟩ = some (.slice (some ⟨g1, 0, none⟩) m m) := cell_of_row _ _ _ _ 204 _ HO1.out
        have o1 : w1.cell? ⟨x, 1, none⟩ = some (.slice (some ⟨g2, 0, none⟩) m m) := cell_of_row _ _ _ _ 204 _ HO1.out
        clear hV
        go_region
        have hA3 : Rw ((w1.setCell ⟨g2, k, none⟩ (.string (bhdT))).drew) g1 m 9 (part' (k + 1) (lF L n) (.string ⟨#[]⟩)) := (HA2.out.other _ _ (by simp; omega)).drew
        have hW3 : Rw ((w1.setCell ⟨g2, k, none⟩ (.string (bhdT))).drew) g2 m 9 (part' (k + 1) (lF L n) (.string ⟨#[]⟩)) := ((HW1.out.put k _).to (fun j _ => by rw [← part_step]; congr 1; exact (HV.out).symm)).drew
        have hO3 : ((w1.setCell ⟨g2, k, none⟩ (.string (bhdT))).drew).heap[x]? = some (.cells #[.slice (some ⟨g1, 0, none⟩) m m, .slice (some ⟨g2, 0, none⟩) m m, .int .i64 n, .bool a.isNone] 204 (0, 0)) := by
          show (w1.setCell ⟨g2, k, none⟩ (.string (bhdT))).heap[x]? = _
          rw [heap_setCell_other w1 ⟨g2, k, none⟩ x _ (by simpa using n2)]; exact HO1.out
        have hB3 : Below x w ((w1.setCell ⟨g2, k, none⟩ (.string (bhdT))).drew) := (HB1.out.setCell (by simp; omega) _).drew
        clear c1 c2 f2 o0 o1
        go_wp2
        go_roundw
        case rel => exact ⟨k + 1, by omega, by go_num, hO3, hA3, hW3, hB3⟩
        case measure => simp [intOf]; omega
    · have e : k = m := by omega
      subst e
      have hm := HM.out
      go_wp2
      go_ret
      subst hm
      have hxx := HX.out
      subst hxx
      exact ⟨g1, g2, rfl, k1, k2, ⟨hO, hA.to (fun j hj => by simp [part', hj]), hW.to (fun j hj => by simp [part', hj]), k3⟩, hB⟩
/-- a list of texts that may be nil -/
def Lt (w : World) (v : Value) (n : Nat) (L : Nat → ByteArray) : Prop := (v = .slice none 0 0 ∧ n = 0) ∨ ∃ b cap, v = .slice (some ⟨b, 0, none⟩) n cap ∧ n ≤ cap ∧ b < w.heap.size ∧ Cl w b n (tI L)
theorem list_any (L : Nat → ByteArray) (x g1 g2 n : Nat) (nl : Bool) (w : World) (hn : n ≤ 4398046511104) (hL : LentAt w x g1 g2 n nl L) (hnl : nl = true → n = 0) :
    Calls Tryz.prog 61 #[.pointer (some ⟨x, 0, none⟩)] w fun e w' => ∃ v, e = .returned v ∧ (∃ q, w' = w.drewN q) ∧ ((v = .slice none 0 0 ∧ n = 0) ∨ v = .slice (some ⟨g1, 0, none⟩) n (n + 8)) := by
  have o0 : w.cell? ⟨x, 0, none⟩ = some (.slice (some ⟨g1, 0, none⟩) (n + 8) (n + 8)) := cell_of_row _ _ _ _ 204 _ hL.obj
  have o2 : w.cell? ⟨x, 2, none⟩ = some (.int .i64 n) := cell_of_row _ _ _ _ 204 _ hL.obj
  have o3 : w.cell? ⟨x, 3, none⟩ = some (.bool nl) := cell_of_row _ _ _ _ 204 _ hL.obj
  clear hL
  cases nl with
  | true =>
    obtain rfl : n = 0 := hnl rfl
    clear hnl
    go_enter Tryz.func61, Tryz.ntmps61
    go_wp2
    go_ret
    exact ⟨_, rfl, ⟨0, rfl⟩, .inl ⟨rfl, trivial⟩⟩
  | false =>
    clear hnl
    go_enter Tryz.func61, Tryz.ntmps61
    go_wp2
    go_quiet (fail)
    go_wp2
    go_ret
    exact ⟨_, rfl, ⟨_, rfl⟩, .inr rfl⟩
theorem same_anyq (A B : Nat → ByteArray) (n b cap b2 cap2 : Nat) (w : World) (hn : n ≤ 9000000000000) (hA : Cl w b n (tI A)) (hB : Cl w b2 n (tI B)) (h : ∀ i, i < n → A i = B i) :
    Calls Tryz.prog 99 #[.slice (some ⟨b, 0, none⟩) n cap, .slice (some ⟨b2, 0, none⟩) n cap2] w fun e w' => e = .returned (.bool true) ∧ ∃ q, w' = w.drewN q := by
  have HA : Hid _ := hA
  have HB : Hid _ := hB
  have H : Hid _ := h
  clear hA hB h
  go_enter Tryz.func99, Tryz.ntmps99
  go_wp2
  go_loopw [5] (fun iv wr => ∃ i q : Nat, i ≤ n ∧ iv = .int .i64 i ∧ wr = w.drewN q) (fun iv _ => n - (intOf iv).toNat)
  case atStart => exact ⟨0, 0, by omega, rfl, rfl⟩
  case round =>
    obtain ⟨i, q, hi, rfl, hq⟩ := hrel
    by_cases hlt : i < n
    · have c1 : wr.cell? ⟨b, i, none⟩ = some (.string (A i)) := by rw [hq]; exact HA.out i hlt
      have c2 : wr.cell? ⟨b2, i, none⟩ = some (.string (A i)) := by rw [hq, H.out i hlt]; exact HB.out i hlt
      have HQ : Hid _ := hq
      clear hq
      have hi0' : (0 : Int) ≤ (i : Int) := by omega
      have hin' : (i : Int) < (n : Int) := by omega
      go_wp2
      go_quiet (fail)
      go_wp2
      go_roundw
      case rel => exact ⟨i + 1, _, by omega, by go_num, by rw [HQ.out, World.drewN_drewN]⟩
      case measure => simp [intOf]; omega
    · go_wp2
      go_ret
      exact ⟨rfl, q, rfl⟩
theorem same_0 (a1 a2 : Option Addr) (c1 c2 : Nat) (w : World) :
    Calls Tryz.prog 99 #[.slice a1 0 c1, .slice a2 0 c2] w fun e w' => e = .returned (.bool true) ∧ ∃ q, w' = w.drewN q := by
  go_enter Tryz.func99, Tryz.ntmps99
  go_wp2
  refine wp_loop_rounds 1 ?_
  rw [rounds_succ]
  go_wp2
  go_ret
  exact ⟨rfl, 0, rfl⟩
/-- "gone" -/
def gn : ByteArray := ⟨#[103, 111, 110, 101]⟩
theorem still_any (L : Nat → ByteArray) (x g1 g2 n B : Nat) (nl : Bool) (w : World) (hn : n ≤ 4398046511104) (hL : LentAt w x g1 g2 n nl L) (hB : B ≤ g1) (hx : x ≠ g1) :
    Calls Tryz.prog 62 #[.pointer (some ⟨x, 0, none⟩)] w fun e w' => e = .returned (.bool true) ∧ Below B w w' ∧ ∀ q, q ≠ g1 → w'.heap[q]? = w.heap[q]? := by
  obtain ⟨m, hm⟩ : ∃ m, m = n + 8 := ⟨_, rfl⟩
  have hmb : m ≤ 4398046511112 := by omega
  have hO : w.heap[x]? = some (.cells #[.slice (some ⟨g1, 0, none⟩) m m, .slice (some ⟨g2, 0, none⟩) m m, .int .i64 n, .bool nl] 204 (0, 0)) := by rw [hm]; exact hL.obj
  have o0 : w.cell? ⟨x, 0, none⟩ = some (.slice (some ⟨g1, 0, none⟩) m m) := cell_of_row _ _ _ _ 204 _ hO
  have o1 : w.cell? ⟨x, 1, none⟩ = some (.slice (some ⟨g2, 0, none⟩) m m) := cell_of_row _ _ _ _ 204 _ hO
  have HA : Hid (Rw w g1 m 9 (lF L n)) := by show Rw w g1 m 9 (lF L n); rw [hm]; exact hL.all
  have HW : Hid (Rw w g2 m 9 (lF L n)) := by show Rw w g2 m 9 (lF L n); rw [hm]; exact hL.want
  have HO : Hid _ := hO
  clear hL hm hO
  go_enter Tryz.func62, Tryz.ntmps62
  go_wp2
  go_quiet (first | (go_at_call 99; exact Calls.quiet_of (same_anyq (fun i => if i < n then L i else bhdT) (fun i => if i < n then L i else bhdT) m g1 m g2 m _ (by omega) (HA.out.drewN _).cl (HW.out.drewN _).cl (fun _ _ => rfl))))
  obtain ⟨w1, hq⟩ : ∃ w1, w1 = w.drewN nq := ⟨_, rfl⟩
  rw [← hq]
  have HA1 : Hid (Rw w1 g1 m 9 (lF L n)) := by show Rw w1 g1 m 9 (lF L n); rw [hq]; exact HA.out.drewN nq
  have HO1 : Hid (w1.heap[x]? = some (.cells #[.slice (some ⟨g1, 0, none⟩) m m, .slice (some ⟨g2, 0, none⟩) m m, .int .i64 n, .bool nl] 204 (0, 0))) := by show w1.heap[x]? = _; rw [hq]; exact HO.out
  have HQ1 : Hid (∀ q, q ≠ g1 → w1.heap[q]? = w.heap[q]?) := by intro q _; rw [hq]; rfl
  have HB1 : Hid (Below B w w1) := by show Below B w w1; rw [hq]; exact below_drewN (Below.refl _ _) nq
  clear hq o0 o1 HA HW HO
  go_wp2
  go_loopw [4] (fun kv wr => ∃ (k : Nat) (f : Nat → Value), k ≤ m ∧ kv = .int .i64 k ∧ wr.heap[x]? = some (.cells #[.slice (some ⟨g1, 0, none⟩) m m, .slice (some ⟨g2, 0, none⟩) m m, .int .i64 n, .bool nl] 204 (0, 0)) ∧ Rw wr g1 m 9 f ∧ Below B w wr ∧ ∀ q, q ≠ g1 → wr.heap[q]? = w.heap[q]?) (fun kv _ => m - (intOf kv).toNat)
  case atStart => exact ⟨0, _, by omega, rfl, HO1.out, HA1.out, HB1.out, HQ1.out⟩
  case round =>
    obtain ⟨k, f, hk, rfl, hO, hA, hBr, hQr⟩ := hrel
    have o0 : wr.cell? ⟨x, 0, none⟩ = some (.slice (some ⟨g1, 0, none⟩) m m) := cell_of_row _ _ _ _ 204 _ hO
    by_cases hlt : k < m
    · have c1 := hA.cell k hlt
      have f1 := hA.free k
      have HO3 : Hid ((wr.setCell ⟨g1, k, none⟩ (.string gn)).heap[x]? = some (.cells #[.slice (some ⟨g1, 0, none⟩) m m, .slice (some ⟨g2, 0, none⟩) m m, .int .i64 n, .bool nl] 204 (0, 0))) := by
        show (wr.setCell ⟨g1, k, none⟩ (.string gn)).heap[x]? = _
        rw [heap_setCell_other wr ⟨g1, k, none⟩ x _ (by simpa using hx)]; exact hO
      have HA3 : Hid (Rw (wr.setCell ⟨g1, k, none⟩ (.string gn)) g1 m 9 (updV f k (.string gn))) := hA.put k _
      have HB3 : Hid (Below B w (wr.setCell ⟨g1, k, none⟩ (.string gn))) := hBr.setCell (by simpa using hB) _
      have HQ3 : Hid (∀ q, q ≠ g1 → (wr.setCell ⟨g1, k, none⟩ (.string gn)).heap[q]? = w.heap[q]?) := fun q hq => by rw [heap_setCell_other wr ⟨g1, k, none⟩ q _ (by simpa using hq)]; exact hQr q hq
      clear hO hA hBr hQr
      go_wp2
      go_roundw
      case rel => exact ⟨k + 1, _, by omega, by go_num, HO3.out, HA3.out, HB3.out, HQ3.out⟩
      case measure => simp [intOf]; omega
    · go_wp2
      go_ret
      exact ⟨rfl, hBr, hQr⟩
end Go.Proofs.YtadinjaocnlglaaGreatDoor
