/-
  The walk of draft's sorted.
-/
import Derived.Test.YtadinjaocnlglaaGreatDoorL17
import Derived.Test.YtadinjaocnlglaaGreatDoorL18
import Derived.Sort.KeysCollected
namespace Go.Proofs.YtadinjaocnlglaaGreatDoor
open Go.RowKit Go.Maps
set_option maxRecDepth 100000
set_option maxHeartbeats 1000000
/-- each name of the map leads to an object that holds its data -/
def Obs (w : World) (D : DataW Nat) (F : List UInt8 → List UInt8) : Prop := ∀ s, s ∈ strKeys D → ∃ ob num v, D.atKey (.string s) .nil = .held ob ∧ w.heap[ob]? = some (.cells #[num, v] 261 (0, 0)) ∧ w.ownsRow 0 5 1 v (F s).length (Lib.byteCells (F s))
theorem Obs.low {w w' : World} {D : DataW Nat} {F : List UInt8 → List UInt8} {B : Nat} (h : Obs w D F) (hB : w.heap.size ≤ B) (hb : Below B w w') : Obs w' D F := fun s hs => by
  obtain ⟨ob, num, v, h1, h2, h3⟩ := h s hs
  have hl := (Array.getElem?_eq_some_iff.1 h2).1
  exact ⟨ob, num, v, h1, by rw [hb.block ob (by omega)]; exact h2, own_low h3 (fun r hr => Nat.lt_of_lt_of_le (own_lt h3 r hr) hB) hb⟩
theorem own_apart {w : World} {B B' n n' size size' : Nat} {e e' : TypeId} {v v' : Value} {xs xs' : List Value} (h : w.ownsRow B e size v n xs) (h' : w.ownsRow B' e' size' v' n' xs') (he : e ≠ e') : v.ownBlock = none ∨ v.ownBlock ≠ v'.ownBlock := by
  rcases h.2 with ⟨rfl, _⟩ | ⟨g, cap, cur, rfl, _, hg, _⟩
  · exact .inl rfl
  · refine .inr ?_
    rcases h'.2 with ⟨rfl, _⟩ | ⟨g', cap', cur', rfl, _, hg', _⟩
    · simp [Value.ownBlock]
    · intro e2
      simp only [Value.ownBlock, Option.some.injEq] at e2
      subst e2
      rw [hg] at hg'
      simp at hg'
      exact he hg'.2
theorem own_oth {w w' : World} {B b n size : Nat} {e : TypeId} {v : Value} {xs : List Value} {cs : Array Value} (h : w.ownsRow B e size v n xs) (he : e ≠ 5) (hb : w.heap[b]? = some (.cells cs 310 (0, 0))) (he2 : e ≠ 310) (ho : Oth b w w') : w'.ownsRow B e size v n xs := by
  refine ⟨h.1, ?_⟩
  rcases h.2 with h2 | ⟨g, cap, cur, rfl, hg, hh, rest⟩
  · exact .inl h2
  · refine .inr ⟨g, cap, cur, rfl, hg, ho.row hh ?_ he, rest⟩
    intro e3; subst e3; rw [hb] at hh; simp at hh; exact he2 hh.2.symm
theorem BN.row {b : Nat} {l : List UInt8} {w : World} (h : BN b l w) : ∃ cs, w.heap[b]? = some (.cells cs 310 (0, 0)) := by
  rcases h with ⟨_, v, hh, _⟩ | ⟨_, v, hh, _⟩
  · exact ⟨_, hh⟩
  · exact ⟨_, hh⟩
theorem bnAt_grown {b : Nat} {p : Value} {l : List Value} {w w' : World} {B n size : Nat} {e : TypeId} {v : Value} {xs : List Value} (h : Lib.BuilderAt 310 5 b b p l w) (hown : w.ownsRow B e size v n xs) (he : e ≠ 5) (he2 : e ≠ 310) (hg : w.grownBy w' v.ownBlock) : Lib.BuilderAt 310 5 b b p l w' := by
  obtain ⟨h1, u, hh, hu, hne⟩ := h
  refine ⟨h1, u, grown_row hg hh ?_, hu.kept hg (own_apart hu hown he.symm), hne⟩
  rcases hown.2 with ⟨rfl, _⟩ | ⟨g, cap, cur, rfl, _, hg', _⟩
  · simp [Value.ownBlock]
  · intro e3
    simp only [Value.ownBlock, Option.some.injEq] at e3
    subst e3
    rw [hg'] at hh
    simp at hh
    exact he2 hh.2
theorem BN.grown {b : Nat} {l : List UInt8} {w w' : World} {B n size : Nat} {e : TypeId} {v : Value} {xs : List Value} (h : BN b l w) (hown : w.ownsRow B e size v n xs) (he : e ≠ 5) (he2 : e ≠ 310) (hg : w.grownBy w' v.ownBlock) : BN b l w' := by
  rcases h with h | h
  · exact .inl (bnAt_grown h hown he he2 hg)
  · exact .inr (bnAt_grown h hown he he2 hg)
theorem bnAt_alloc {b : Nat} {p : Value} {l : List Value} {w : World} (h : Lib.BuilderAt 310 5 b b p l w) (o : Obj) : Lib.BuilderAt 310 5 b b p l (w.alloc o) := by
  obtain ⟨h1, u, hh, hu, hne⟩ := h
  exact ⟨h1, u, by rw [heap_alloc_old _ _ (Array.getElem?_eq_some_iff.1 hh).1]; exact hh, hu.alloc o, hne⟩
theorem BN.alloc {b : Nat} {l : List UInt8} {w : World} (h : BN b l w) (o : Obj) : BN b l (w.alloc o) := by
  rcases h with h | h
  · exact .inl (bnAt_alloc h o)
  · exact .inr (bnAt_alloc h o)
theorem bstr_oth (b : Nat) (l : List UInt8) (w : World) (h : BN b l w) :
    Calls Tryz.prog 201 #[.pointer (some ⟨b, 0, none⟩)] w fun e w' => e = .returned (.string ⟨l.toArray⟩) ∧ Below b w w' ∧ Oth b w w' := by
  obtain ⟨cs, hcs⟩ := h.row
  refine (bstr_k b b l w (Lib.IsBuilderF.of h) (Nat.le_of_lt (Array.getElem?_eq_some_iff.1 hcs).1)).mono ?_
  rintro e w' ⟨he, _, h2, h3⟩
  exact ⟨he, h2, h3⟩
/-- what the list of entries holds of so many names -/
def entC (F : List UInt8 → List UInt8) (T : List (List UInt8)) (i : Nat) : List Value := (T.take i).flatMap fun s => [.string ⟨s.toArray⟩, .int .i64 (F s).length]
def datL (F : List UInt8 → List UInt8) (T : List (List UInt8)) (i : Nat) : List UInt8 := (T.take i).flatMap F
theorem take_next (T : List (List UInt8)) (i : Nat) (s : List UInt8) (h : T[i]? = some s) : T.take (i + 1) = T.take i ++ [s] := by
  rw [List.take_add_one, h]; rfl
theorem entC_next (F : List UInt8 → List UInt8) (T : List (List UInt8)) (i : Nat) (s : List UInt8) (h : T[i]? = some s) : entC F T (i + 1) = entC F T i ++ [.string ⟨s.toArray⟩, .int .i64 (F s).length] := by
  simp [entC, take_next T i s h]
theorem datL_next (F : List UInt8 → List UInt8) (T : List (List UInt8)) (i : Nat) (s : List UInt8) (h : T[i]? = some s) : datL F T (i + 1) = datL F T i ++ F s := by
  simp [datL, take_next T i s h]
theorem flat_le {α : Type} (G : α → List UInt8) (c : Nat) : ∀ T : List α, (∀ s ∈ T, (G s).length ≤ c) → (T.flatMap G).length ≤ T.length * c
  | [], _ => by simp
  | s :: r, h => by
    have ih := flat_le G c r (fun x hx => h x (by simp [hx]))
    have h1 := h s (by simp)
    rw [List.flatMap_cons, List.length_append, List.length_cons, Nat.succ_mul]
    omega
theorem datL_len (F : List UInt8 → List UInt8) (T : List (List UInt8)) (i : Nat) (h : ∀ s ∈ T, (F s).length ≤ 4096) (hT : T.length ≤ 16) : (datL F T i).length ≤ 65536 := by
  have h1 := flat_le F 4096 (T.take i) (fun s hs => h s (List.mem_of_mem_take hs))
  have h2 : (T.take i).length ≤ 16 := by rw [List.length_take]; omega
  unfold datL
  have : (T.take i).length * 4096 ≤ 16 * 4096 := Nat.mul_le_mul_right _ h2
  omega
theorem cells_new (w : World) (cs : List Value) (t : TypeId) (j : Nat) (u : Value) (h : cs[j]? = some u) : (w.alloc (.cells cs.toArray t)).cell? ((⟨w.heap.size, 0, none⟩ : Addr).add j) = some u := by
  rw [Addr.add_lit]
  rw [cell_of_row _ _ _ _ t _ (heap_alloc_new w (.cells cs.toArray t))]
  simpa using h
theorem info103 : (Tryz.prog.info? 70).map (fun i => (i.zero, i.size, i.bytes)) = some (some (.agg #[.string ⟨#[]⟩, .int .i64 0]), 2, 24) := by kernel_rfl
end Go.Proofs.YtadinjaocnlglaaGreatDoor
