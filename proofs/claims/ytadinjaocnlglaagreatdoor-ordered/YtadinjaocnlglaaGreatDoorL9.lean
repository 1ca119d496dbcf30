/-
  The walks of strings.Join without a separator, and of layout.Volumes.
-/
import Derived.Test.YtadinjaocnlglaaGreatDoorL8
namespace Go.Proofs.YtadinjaocnlglaaGreatDoor
open Go.RowKit
set_option maxRecDepth 100000
set_option maxHeartbeats 2000000
/-- texts, one behind the other -/
def jL (F : Nat → ByteArray) (n : Nat) : List UInt8 := ((List.range n).map fun i => (F i).data.toList).flatten
def jT (F : Nat → ByteArray) (n : Nat) : ByteArray := ⟨(jL F n).toArray⟩
theorem jL_len (F : Nat → ByteArray) (c : Nat) : ∀ n, (∀ i, i < n → (F i).size ≤ c) → (jL F n).length ≤ n * c
  | 0, _ => by simp [jL]
  | n + 1, h => by
    have ih := jL_len F c n (fun i hi => h i (by omega))
    have h1 := h n (by omega)
    have e : jL F (n + 1) = jL F n ++ (F n).data.toList := by simp [jL, List.range_succ]
    rw [e, List.length_append, dl, Nat.succ_mul]
    omega
theorem jT_size (F : Nat → ByteArray) (c n : Nat) (h : ∀ i, i < n → (F i).size ≤ c) : (jT F n).size ≤ n * c := by
  have := jL_len F c n h
  show (jL F n).toArray.size ≤ n * c
  simpa using this
theorem join_flat : ∀ xs : List (List UInt8), Lib.join xs [] = xs.flatten
  | [] => rfl
  | x :: r => by rw [Lib.join_cons]; simp [Lib.joinTail]
theorem sjoin_any (F : Nat → ByteArray) (b o n cap c : Nat) (w : World) (hb : b < w.heap.size) (hcap : n ≤ cap) (hn : n ≤ 1000000) (hc : c ≤ 1000000) (hF : ∀ i, i < n → (F i).size ≤ c) (hC : ∀ i, i < n → w.cell? ⟨b, o + i, none⟩ = some (.string (F i))) :
    Calls Tryz.prog 184 #[.slice (some ⟨b, o, none⟩) n cap, .string ⟨#[]⟩] w fun e w' => e = .returned (.string (jT F n)) ∧ Below w.heap.size w w' := by
  rcases Nat.eq_zero_or_pos n with h0 | h0
  · subst h0
    exact (join_none _ cap ⟨#[]⟩ w).mono fun e w' ⟨h1, h2⟩ => ⟨h1, by rw [h2]; exact Below.refl _ _⟩
  · have hl : ((List.range n).map F).length = n := by simp
    have hj : Lib.join (((List.range n).map F).map (·.data.toList)) (⟨#[]⟩ : ByteArray).data.toList = jL F n := by
      show Lib.join _ [] = _
      rw [join_flat, List.map_map]
      rfl
    have h := join_some b o cap ((List.range n).map F) ⟨#[]⟩ w (fun j x hx => by
      have hjn : j < n := by have := (List.getElem?_eq_some_iff.1 hx).1; rwa [hl] at this
      simp [hjn] at hx
      rw [← hx]; exact hC j hjn) hb (by rw [hl]; omega) (by rw [hl]; exact hcap) (by
      rw [hj]
      have h1 := jL_len F c n hF
      have h2 : n * c ≤ 1000000 * 1000000 := Nat.mul_le_mul hn hc
      omega)
    rw [hl, hj] at h
    exact h
def volM : ByteArray := ⟨#[86, 79, 76, 49]⟩
/-- what a volume tells ahead of its check -/
def toldT (root l : ByteArray) (n : Nat) (L : Nat → ByteArray) (v : Nat) : ByteArray := volM ++ root ++ l ++ vint v ++ jT L n
/-- a volume -/
def volT (D : ByteArray → ByteArray) (root l : ByteArray) (n : Nat) (L B : Nat → ByteArray) (V v : Nat) : ByteArray :=
  toldT root l n L v ++ D (⟨#[3]⟩ ++ toldT root l n L v) ++ jT (fun i => B (v * n / V + i)) ((v + 1) * n / V - v * n / V)
end Go.Proofs.YtadinjaocnlglaaGreatDoor
