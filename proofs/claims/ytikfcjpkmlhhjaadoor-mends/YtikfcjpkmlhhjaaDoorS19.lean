/-
  What the walk of Mends leans on: lists of texts that are owned.
-/
import Derived.Test.YtikfcjpkmlhhjaaDoorS18
import Derived.Maps.AppendAt
namespace Go.Proofs.YtikfcjpkmlhhjaaDoor
open Go.RowKit
theorem size0 : (⟨#[0]⟩ : ByteArray).size = 1 := rfl
def szOf : Value → Nat
  | .string s => s.size
  | _ => 0
theorem smT_size (s : ByteArray) (n : Nat) : (smT s n).size ≤ n := by
  unfold smT; split
  · simp; omega
  · omega
theorem smT_full (s : ByteArray) (n : Nat) (h : n ≤ s.size) : (smT s n).size = n := by
  unfold smT; split
  · simp; omega
  · omega
theorem str_one (t : ByteArray) : ∀ u ∈ [Value.string t], u.oneCell' = true := by
  intro u hu; simp at hu; subst hu; rfl
theorem strs_one (L : List ByteArray) : ∀ u ∈ L.map Value.string, u.oneCell' = true := by
  intro u hu; obtain ⟨t, _, rfl⟩ := List.mem_map.1 hu; rfl
def nth (D : List ByteArray) (i : Nat) : ByteArray := D.getD i ⟨#[]⟩
theorem nth_mem (D : List ByteArray) (i : Nat) (h : i < D.length) : nth D i ∈ D := by
  unfold nth; rw [List.getD_eq_getElem?_getD, List.getElem?_eq_getElem h]; exact List.getElem_mem h
theorem own_strs {w : World} {B n : Nat} {v : Value} {L : List ByteArray} (h : w.ownsRow B 9 1 v n (L.map Value.string)) (h0 : 0 < n) (hL : L.length = n) :
    ∃ g cap, v = .slice (some ⟨g, 0, none⟩) n cap ∧ B ≤ g ∧ g < w.heap.size ∧ Cl w g n (tI (nth L)) := by
  rcases h.2 with ⟨_, h'⟩ | ⟨g, cap, cur, hv, hb, hh, _⟩
  · omega
  · subst hv
    refine ⟨g, cap, rfl, hb, (Array.getElem?_eq_some_iff.1 hh).1, fun i hi => ?_⟩
    rw [h.cellAt i (by omega)]
    have hi' : i < L.length := by omega
    simp [tI, nth, hi']
/-- the texts F, as a list -/
def lst (F : Nat → ByteArray) (n : Nat) : List ByteArray := (List.range n).map F
theorem lst_len (F : Nat → ByteArray) (n : Nat) : (lst F n).length = n := by simp [lst]
theorem cl_news {w : World} {g n : Nat} {F : Nat → ByteArray} (h : Cl w g n (tI F)) : ∀ j u, ((lst F n).map Value.string)[j]? = some u → w.cell? ((⟨g, 0, none⟩ : Addr).add j) = some u := by
  intro j u hj
  by_cases hjn : j < n
  · have e : ((⟨g, 0, none⟩ : Addr).add j) = ⟨g, j, none⟩ := by simp [Addr.add]; exact fun h => h.symm
    rw [e, h j hjn, ← hj]
    simp [lst, tI, hjn]
  · simp [lst, hjn] at hj
theorem nth_all (S : Nat → ByteArray) (k x n i : Nat) (hi : i < k + x) : nth (lst S k ++ lst (vl (fun i => i) (fun i => k + i) k n S) x) i = allS S k n i := by
  unfold nth allS
  by_cases h : i < k
  · rw [if_pos h, List.getD_eq_getElem?_getD, List.getElem?_append_left (by rw [lst_len]; exact h)]
    simp [lst, h]
  · rw [if_neg h, List.getD_eq_getElem?_getD, List.getElem?_append_right (by rw [lst_len]; omega), lst_len]
    have h2 : i - k < x := by omega
    simp [lst, h2]
theorem Cl.put {w : World} {b n : Nat} {v : Nat → Value} (h : Cl w b n v) (a : Addr) (u : Value) (hne : b ≠ a.block) : Cl (w.setCell a u) b n v := fun i hi => (World.cell?_of_block (a := ⟨b, i, none⟩) (heap_setCell_other w a b u hne)).trans (h i hi)
def updT (F : Nat → ByteArray) (z : Nat) (t : ByteArray) : Nat → ByteArray := fun j => if j = z then t else F j
theorem updT_ne (F : Nat → ByteArray) (z : Nat) (t : ByteArray) (j : Nat) (h : j ≠ z) : updT F z t j = F j := if_neg h
theorem tI_upd (F : Nat → ByteArray) (z : Nat) (t : ByteArray) (j : Nat) : updV (tI F) z (.string t) j = tI (updT F z t) j := by
  unfold updV tI updT
  by_cases h : j = z
  · rw [if_pos h, if_pos h]
  · rw [if_neg h, if_neg h]
theorem info4 : (Tryd.prog.info? 4).map (fun i => (i.zero, i.size, i.bytes)) = some (some (.bool false), 1, 1) := by kernel_rfl
end Go.Proofs.YtikfcjpkmlhhjaaDoor
