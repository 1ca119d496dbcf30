/-
  What Close gives, told plainly; the walk of layout.Volumes over a list of blocks of one's own.
-/
import Derived.Test.YtadinjaocnlglaaGreatDoorL11
import Derived.Test.YtadinjaocnlglaaGreatDoorL20
namespace Go.Proofs.YtadinjaocnlglaaGreatDoor
open Go.RowKit Go.Maps
set_option maxRecDepth 100000
set_option maxHeartbeats 1000000
/-- the i-th text of a list -/
def bkS (l : List Value) (i : Nat) : ByteArray := match l[i]? with | some (.string x) => x | _ => ⟨#[]⟩
def nmT (T : List (List UInt8)) (j : Nat) : ByteArray := ⟨(T.getD j []).toArray⟩
def lnT (F : List UInt8 → List UInt8) (T : List (List UInt8)) (j : Nat) : Nat := match T[j]? with | some s => (F s).length | none => 0
def dtT (F : List UInt8 → List UInt8) (T : List (List UInt8)) : ByteArray := ⟨(datL F T T.length).toArray⟩
def bkT (K M C : Nat) (s : ByteArray) : Nat → ByteArray := bkS (blkV (strm (K * C) s) (K * C) K M C (nst (K * C) s.size))
def nbT (K M C : Nat) (s : ByteArray) : Nat := nst (K * C) s.size * (K + M)
def lsT (K M C V : Nat) (F : List UInt8 → List UInt8) (T : List (List UInt8)) : ByteArray := lstT K M C V T.length (nmT T) (lnT F T)
def rtT (kt : Nat → Int) (K M C V : Nat) (F : List UInt8 → List UInt8) (T : List (List UInt8)) : ByteArray := rootT (ofT kt) (lsT K M C V F T) (nbT K M C (dtT F T)) fun i => leafT (ofT kt) (bkT K M C (dtT F T) i)
def voT (kt : Nat → Int) (K M C V : Nat) (F : List UInt8 → List UInt8) (T : List (List UInt8)) : Nat → ByteArray :=
  volT (ofT kt) (rtT kt K M C V F T) (lsT K M C V F T) (nbT K M C (dtT F T)) (fun i => leafT (ofT kt) (bkT K M C (dtT F T) i)) (bkT K M C (dtT F T)) V
theorem pc_le (s : ByteArray) (z i : Nat) : (pc s z i).size ≤ z := by
  unfold pc
  rw [ByteArray.size_extract, Nat.succ_mul]
  omega
theorem vl_size (p q : Nat → Nat) (r c : Nat) (S : Nat → ByteArray) (i : Nat) : (vl p q r c S i).size = c := by
  unfold vl txtN; rw [strOfNums_size]; simp
theorem whl_txt (S : Nat → ByteArray) (k m c : Nat) (hS : ∀ j, (S j).size ≤ c) : ∀ u ∈ whl S k m c, ∃ x : ByteArray, u = .string x ∧ x.size ≤ c := by
  intro u hu
  rcases List.mem_append.1 hu with h | h
  · simp only [tV, List.mem_map] at h
    obtain ⟨i, _, rfl⟩ := h
    exact ⟨_, rfl, hS i⟩
  · simp only [tV, List.mem_map] at h
    obtain ⟨i, _, rfl⟩ := h
    exact ⟨_, rfl, Nat.le_of_eq (vl_size _ _ _ _ _ _)⟩
theorem blkV_txt (t : ByteArray) (z K M C : Nat) : ∀ n, ∀ u ∈ blkV t z K M C n, ∃ x : ByteArray, u = .string x ∧ x.size ≤ C
  | 0, u, h => by simp [blkV] at h
  | n + 1, u, h => by
    rcases List.mem_append.1 h with h | h
    · exact blkV_txt t z K M C n u h
    · exact whl_txt _ K M C (fun j => pc_le _ _ _) u h
theorem bkS_get (l : List Value) (c : Nat) (hl : ∀ u ∈ l, ∃ x : ByteArray, u = .string x ∧ x.size ≤ c) (i : Nat) (hi : i < l.length) : l[i]? = some (.string (bkS l i)) ∧ (bkS l i).size ≤ c := by
  have h := List.getElem?_eq_getElem hi
  obtain ⟨x, hx, hc⟩ := hl _ (List.getElem_mem hi)
  unfold bkS
  rw [h, hx]
  exact ⟨rfl, hc⟩
theorem volumes_own (kt : Nat → Int) (K M C V nE capE nB B : Nat) (aE : Option Addr) (v : Value) (l : List Value) (Nm : Nat → ByteArray) (Ln : Nat → Nat) (w : World) (hK : K ≤ 100000) (hM : M ≤ 100000) (hC : C ≤ 100000) (hV1 : 1 ≤ V) (hV : V ≤ 1000) (hnE : nE ≤ 1000)
    (hN : ∀ j, (Nm j).size ≤ 1000) (hLn : ∀ j, Ln j ≤ 100000) (hE : ∀ j, j < nE → ∃ b, aE = some ⟨b, 0, none⟩ ∧ b < w.heap.size ∧ w.cell? ⟨b, j * 2, none⟩ = some (.string (Nm j)) ∧ w.cell? ⟨b, j * 2 + 1, none⟩ = some (.int .i64 (Ln j)))
    (hnB : nB ≤ 10000) (hv : w.ownsRow B 9 1 v nB l) (hnil : nB = 0 → v = .slice none 0 0) (hl : ∀ u ∈ l, ∃ x : ByteArray, u = .string x ∧ x.size ≤ 1000) (hG : Gd kt w) :
    Calls Tryz.prog 124 #[.agg #[.int .i64 K, .int .i64 M, .int .i64 C, .int .i64 V], .slice aE nE capE, v] w fun e w' => ∃ gv, e = .returned (.tuple #[.slice (some ⟨gv, 0, none⟩) V V, .string (rootT (ofT kt) (lstT K M C V nE Nm Ln) nB fun i => leafT (ofT kt) (bkS l i))]) ∧ w.heap.size ≤ gv ∧ Rw w' gv V 9 (tX (volT (ofT kt) (rootT (ofT kt) (lstT K M C V nE Nm Ln) nB fun i => leafT (ofT kt) (bkS l i)) (lstT K M C V nE Nm Ln) nB (fun i => leafT (ofT kt) (bkS l i)) (bkS l) V)) ∧ Below w.heap.size w w' := by
  rcases Nat.eq_zero_or_pos nB with h0 | h0
  · subst h0
    rw [hnil rfl]
    exact volumes_nil kt K M C V nE capE aE Nm Ln (bkS l) w hK hM hC hV1 hV hnE hN hLn hE hG
  · have hl1 : l.length = nB := by have := hv.1; omega
    obtain ⟨g, cap, rfl, hB, hc⟩ := own_cellsAdd hv h0
    rcases hv.2 with ⟨h, _⟩ | ⟨g', cap', cur, h, _, hh, hcap, _⟩
    · cases h
    · cases h
      refine volumes_some kt K M C V nE capE nB cap g aE Nm Ln (bkS l) w hK hM hC hV1 hV hnE hN hLn hE h0 hnB hcap (fun i hi => (bkS_get l 1000 hl i (by omega)).2) (Array.getElem?_eq_some_iff.1 hh).1 (fun i hi => ?_) hG
      have := hc i _ (bkS_get l 1000 hl i (by omega)).1
      rw [Addr.add_lit] at this
      simpa [tI] using this
theorem entC_get (F : List UInt8 → List UInt8) : ∀ (T : List (List UInt8)) (j : Nat), j < T.length → (entC F T T.length)[j * 2]? = some (.string (nmT T j)) ∧ (entC F T T.length)[j * 2 + 1]? = some (.int .i64 (lnT F T j))
  | [], j, h => by simp at h
  | s :: r, 0, _ => by simp [entC, nmT, lnT]
  | s :: r, j + 1, h => by
    have ih := entC_get F r j (by simpa using h)
    have e : entC F (s :: r) (s :: r).length = [.string ⟨s.toArray⟩, .int .i64 (F s).length] ++ entC F r r.length := by simp [entC]
    rw [e]
    have a1 : (j + 1) * 2 = 2 + j * 2 := by omega
    have a2 : (j + 1) * 2 + 1 = 2 + (j * 2 + 1) := by omega
    rw [a2, a1, List.getElem?_append_right (by simp), List.getElem?_append_right (by simp)]
    simpa [nmT, lnT] using ih
theorem ent_cells {w : World} {B nE cE : Nat} {aE : Option Addr} {F : List UInt8 → List UInt8} {T : List (List UInt8)} (hn : nE = T.length) (h : w.ownsRow B 70 2 (.slice aE nE cE) nE (entC F T T.length)) :
    ∀ j, j < nE → ∃ b, aE = some ⟨b, 0, none⟩ ∧ b < w.heap.size ∧ w.cell? ⟨b, j * 2, none⟩ = some (.string (nmT T j)) ∧ w.cell? ⟨b, j * 2 + 1, none⟩ = some (.int .i64 (lnT F T j)) := by
  intro j hj
  rcases h.2 with ⟨_, h2⟩ | ⟨g, cap, cur, hv, _, hh, _⟩
  · omega
  · cases hv
    obtain ⟨h1, h2⟩ := entC_get F T j (by omega)
    have c1 := h.cells (g := g) rfl _ _ h1
    have c2 := h.cells (g := g) rfl _ _ h2
    rw [Addr.add_lit] at c1 c2
    exact ⟨g, rfl, (Array.getElem?_eq_some_iff.1 hh).1, by simpa using c1, by simpa using c2⟩
end Go.Proofs.YtadinjaocnlglaaGreatDoor
