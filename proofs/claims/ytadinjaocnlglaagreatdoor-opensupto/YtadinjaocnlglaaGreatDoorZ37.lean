/-
  The document's Vault in the memory.
  The document's joins.
  The document's Open as data, against the program's.
-/
import Derived.Test.YtadinjaocnlglaaGreatDoorZ36
namespace Go.Proofs.YtadinjaocnlglaaGreatDoor
open Go.RowKit
set_option maxRecDepth 100000
set_option maxHeartbeats 4000000
theorem info169 : (Tryz.prog.info? 169).map (fun i => (i.zero, i.size, i.bytes)) = some (some (.pointer none), 1, 8) := by kernel_rfl
def ptV (l : List Nat) : List Value := l.map fun h => .pointer (some ⟨h, 0, none⟩)
theorem own_ptr (w : World) (x : Nat) : (w.alloc (.cells #[.pointer (some ⟨x, 0, none⟩)] 169)).ownsRow w.heap.size 169 1 (.slice (some ⟨w.heap.size, 0, none⟩) 1 1) 1 [.pointer (some ⟨x, 0, none⟩)] :=
 ⟨rfl, .inr ⟨w.heap.size, 1, #[.pointer (some ⟨x, 0, none⟩)], rfl, Nat.le_refl _, heap_alloc_new _ _, Nat.le_refl _, by unfold maxLen; omega, rfl, rfl⟩⟩
theorem fld_appP {w : World} {B r k : Nat} {ty : TypeId} {cs : Array Value} {v : Value} {xs : List Nat} (x : Nat) (hr : w.heap[r]? = some (.cells cs ty (0, 0))) (hty : ty ≠ 169) (ho : w.ownsRow B 169 1 v xs.length (ptV xs)) (hB : B ≤ w.heap.size) (hx : xs.length ≤ 100000000) :
  ∃ v' w2, (Builtin.append_ #[207, 207] 207 #[v, .slice (some ⟨w.heap.size, 0, none⟩) 1 1]).run Tryz.prog (w.alloc (.cells #[.pointer (some ⟨x, 0, none⟩)] 169)) = .ok v' w2 ∧ (w2.setCell ⟨r, k, none⟩ v').ownsRow B 169 1 v' (xs ++ [x]).length (ptV (xs ++ [x])) ∧ w2.heap[r]? = some (.cells cs ty (0, 0)) ∧ (w2.setCell ⟨r, k, none⟩ v').heap[r]? = some (.cells (cs.setIfInBounds k v') ty (0, 0))
   ∧ (∀ j, j < w.heap.size → j ≠ r → v.ownBlock ≠ some j → (w2.setCell ⟨r, k, none⟩ v').heap[j]? = w.heap[j]?) ∧ (B ≤ r → ∀ w0, Below B w0 w → Below B w0 (w2.setCell ⟨r, k, none⟩ v')) := by
 obtain ⟨i0, hi0, z0, z1, z2⟩ := info_parts info169
 have hrl : r < w.heap.size := (Array.getElem?_eq_some_iff.1 hr).1
 have hra : (w.alloc (.cells #[.pointer (some ⟨x, 0, none⟩)] 169)).heap[r]? = some (.cells cs ty (0, 0)) := by rw [heap_alloc_old _ _ hrl]; exact hr
 have hsz : (w.alloc (.cells #[.pointer (some ⟨x, 0, none⟩)] 169)).heap.size = w.heap.size + 1 := by simp
 obtain ⟨v', w2, hrun, ho2, hg, hb⟩ := app_rows 207 Tryz.underlying207 hi0 z0 z1 z2 rfl (by decide) (ho.alloc (.cells #[.pointer (some ⟨x, 0, none⟩)] 169)) (own_ptr w x) (by intro u hu; simp at hu; subst hu; rfl) (by omega) (by omega) (by simp; omega)
 have hne : v.ownBlock ≠ some r := fun e => by
  obtain ⟨cur, hcur⟩ := own_type ho r e
  rw [hr] at hcur
  simp only [Option.some.injEq, Obj.cells.injEq] at hcur
  exact hty hcur.2.1
 have hr2 : w2.heap[r]? = some (.cells cs ty (0, 0)) := by
  rw [hg.block r (by omega) (fun e => hne e.symm)]; exact hra
 have hne' : v'.ownBlock ≠ some r := fun e => by
  rcases hb with h | h
  ·exact hne (h.symm.trans e)
  ·rw [h, hsz] at e; have := Option.some.inj e; omega
 refine ⟨v', w2, hrun, ?_, hr2, set_heap _ _ _ _ _ _ _ hr2, fun j hj h1 h2 => ?_, fun hBr w0 hw0 => ?_⟩
 ·have e2 : ptV (xs ++ [x]) = ptV xs ++ [.pointer (some ⟨x, 0, none⟩)] := by simp [ptV]
  rw [e2, List.length_append]
  exact own_kept ho2 (fun y hy => set_other _ _ _ _ _ (fun e => hne' (by rw [← e]; exact hy)))
 ·rw [set_other _ _ _ _ _ h1, hg.block j (by omega) (fun e => h2 e.symm), heap_alloc_old _ _ hj]
 ·have h1 : Below B w0 (w.alloc (.cells #[.pointer (some ⟨x, 0, none⟩)] 169)) := hw0.alloc hB _
  exact (h1.grown hg (by omega) (fun y hy => own_ge ho y hy)).setCell (p := ⟨r, k, none⟩) hBr _
theorem fld_appN {w : World} {B r k : Nat} {ty : TypeId} {cs : Array Value} {v : Value} {xs : List Nat} (x : Nat) (hr : w.heap[r]? = some (.cells cs ty (0, 0))) (hty : ty ≠ 3) (ho : w.ownsRow B 3 1 v xs.length (unV xs)) (hB : B ≤ w.heap.size) (hx : xs.length ≤ 100000000) :
  ∃ v' w2, (Builtin.append_ #[39, 39] 39 #[v, .slice (some ⟨w.heap.size, 0, none⟩) 1 1]).run Tryz.prog (w.alloc (.cells #[.int .i64 x] 3)) = .ok v' w2 ∧ (w2.setCell ⟨r, k, none⟩ v').ownsRow B 3 1 v' (xs ++ [x]).length (unV (xs ++ [x])) ∧ w2.heap[r]? = some (.cells cs ty (0, 0)) ∧ (w2.setCell ⟨r, k, none⟩ v').heap[r]? = some (.cells (cs.setIfInBounds k v') ty (0, 0))
   ∧ (∀ j, j < w.heap.size → j ≠ r → v.ownBlock ≠ some j → (w2.setCell ⟨r, k, none⟩ v').heap[j]? = w.heap[j]?) ∧ (v'.ownBlock = v.ownBlock ∨ v'.ownBlock = some (w.heap.size + 1)) ∧ (B ≤ r → ∀ w0, Below B w0 w → Below B w0 (w2.setCell ⟨r, k, none⟩ v')) := by
 obtain ⟨i0, hi0, z0, z1, z2⟩ := info_parts info3
 have hrl : r < w.heap.size := (Array.getElem?_eq_some_iff.1 hr).1
 have hva : (w.alloc (.cells #[.int .i64 x] 3)).ownsRow B 3 1 v xs.length (unV xs) := ho.alloc _
 have hra : (w.alloc (.cells #[.int .i64 x] 3)).heap[r]? = some (.cells cs ty (0, 0)) := by rw [heap_alloc_old _ _ hrl]; exact hr
 have hsz : (w.alloc (.cells #[.int .i64 x] 3)).heap.size = w.heap.size + 1 := by simp
 obtain ⟨v', w2, hrun, ho2, hg, hb⟩ := app_rows 39 Tryz.underlying39 hi0 z0 z1 z2 rfl (by decide) hva (own_one w x) (by intro u hu; simp at hu; subst hu; rfl) (by omega) (by omega) (by omega)
 have hne : v.ownBlock ≠ some r := fun e => by
  obtain ⟨cur, hcur⟩ := own_type ho r e
  rw [hr] at hcur
  simp only [Option.some.injEq, Obj.cells.injEq] at hcur
  exact hty hcur.2.1
 have hr2 : w2.heap[r]? = some (.cells cs ty (0, 0)) := by
  rw [hg.block r (by omega) (fun e => hne e.symm)]; exact hra
 have hne' : v'.ownBlock ≠ some r := fun e => by
  rcases hb with h | h
  ·exact hne (h.symm.trans e)
  ·rw [h] at e; have := Option.some.inj e; omega
 refine ⟨v', w2, hrun, ?_, hr2, set_heap _ _ _ _ _ _ _ hr2, fun j hj h1 h2 => ?_, by rw [hsz] at hb; exact hb, fun hBr w0 hw0 => ?_⟩
 ·have e1 : (xs ++ [x]).length = xs.length + 1 := by simp
  have e2 : unV (xs ++ [x]) = unV xs ++ [.int .i64 (x : Nat)] := by simp [unV]
  rw [e1, e2]
  exact own_kept ho2 (fun y hy => set_other _ _ _ _ _ (fun e => hne' (by rw [← e]; exact hy)))
 ·rw [set_other _ _ _ _ _ h1, hg.block j (by omega) (fun e => h2 e.symm), heap_alloc_old _ _ hj]
 ·have h1 : Below B w0 (w.alloc (.cells #[.int .i64 x] 3)) := hw0.alloc hB _
  exact (h1.grown hg (by omega) (fun y hy => own_ge ho y hy)).setCell (p := ⟨r, k, none⟩) hBr _
theorem RHd.keep {kt : Nat → Int} {B : Nat} {t : ByteArray} {h : Nat} {w w' : World} (H : RHd kt B t h w) (hk : ∀ (j : Nat) (cur : Array Value) (ty : TypeId), w.heap[j]? = some (.cells cur ty (0, 0)) → (ty = 174 ∨ ty = 70 ∨ ty = 9) → w'.heap[j]? = w.heap[j]?) : RHd kt B t h w' := by
 obtain ⟨h0, h1, vE, vL, vB, hr, oE, oL, oB⟩ := H
 refine ⟨h0, h1, vE, vL, vB, by rw [hk h _ _ hr (.inl rfl)]; exact hr, own_kept oE (fun q hq => ?_), own_kept oL (fun q hq => ?_), own_kept oB (fun q hq => ?_)⟩
 ·obtain ⟨cur, hc⟩ := own_type oE q hq
  exact hk q _ _ hc (.inr (.inl rfl))
 ·obtain ⟨cur, hc⟩ := own_type oL q hq
  exact hk q _ _ hc (.inr (.inr rfl))
 ·obtain ⟨cur, hc⟩ := own_type oB q hq
  exact hk q _ _ hc (.inr (.inr rfl))
theorem RHd.base {kt : Nat → Int} {B B' : Nat} {t : ByteArray} {h : Nat} {w : World} (H : RHd kt B t h w) (hb : B' ≤ B) : RHd kt B' t h w := by
 obtain ⟨h0, h1, vE, vL, vB, hr, oE, oL, oB⟩ := H
 exact ⟨h0, Nat.le_trans hb h1, vE, vL, vB, hr, own_base oE hb, own_base oL hb, own_base oB hb⟩
theorem RRd.head {kt : Nat → Int} {w : World} {t : ByteArray} {p v : Value} {w' : World} (H : RRd w t (rdE kt t) p v w') (h : rdE kt t = none) : v = .slice none 0 0 ∧ ∃ g, p = .pointer (some ⟨g, 0, none⟩) ∧ RHd kt w.heap.size t g w' := by
 obtain ⟨e, c, g, vE, vL, vB, st, hp, hI⟩ := H.good h
 exact ⟨e, g, hp, h, hI.lh, vE, vL, vB, hI.row, hI.oE, hI.oL, hI.oB⟩
def Kp250 (w w' : World) : Prop := ∀ (j : Nat) (cur : Array Value), w.heap[j]? = some (.cells cur 250 (0, 0)) → w'.heap[j]? = w.heap[j]?
theorem Kp250.below {w w' : World} (h : Below w.heap.size w w') : Kp250 w w' := fun j _ hj => h.block j (Array.getElem?_eq_some_iff.1 hj).1
theorem Kp250.trans {a b c : World} (h : Kp250 a b) (h2 : Kp250 b c) : Kp250 a c := fun j cur hj => by rw [h2 j cur (by rw [h j cur hj]; exact hj), h j cur hj]
theorem Kp250.own {w w' : World} {B n : Nat} {v : Value} {xs : List Value} (h : Kp250 w w') (ho : w.ownsRow B 250 2 v n xs) : w'.ownsRow B 250 2 v n xs := own_kept ho (fun q hq => by
 obtain ⟨cur, hc⟩ := own_type ho q hq
 exact h q cur hc)
structure RV (kt : Nat → Int) (w0 : World) (v : Nat) (vH vU : Value) (hs : List (ByteArray × Nat)) (un : List Nat) (w : World) : Prop where
 row : w.heap[v]? = some (.cells #[vH, vU] 209 (0, 0))
 oH : w.ownsRow w0.heap.size 169 1 vH (hs.map Prod.snd).length (ptV (hs.map Prod.snd))
 oU : w.ownsRow w0.heap.size 3 1 vU un.length (unV un)
 hd : ∀ x ∈ hs, RHd kt w0.heap.size x.1 x.2 w
 lv : w0.heap.size ≤ v
 bel : Below w0.heap.size w0 w
theorem RV.low {kt : Nat → Int} {w0 : World} {v : Nat} {vH vU : Value} {hs : List (ByteArray × Nat)} {un : List Nat} {w w' : World} (H : RV kt w0 v vH vU hs un w) (hb : Below w.heap.size w w') : RV kt w0 v vH vU hs un w' where
 row := by rw [hb.block v (Array.getElem?_eq_some_iff.1 H.row).1]; exact H.row
 oH := own_kept H.oH (fun q hq => hb.block q (own_lt H.oH q hq))
 oU := own_kept H.oU (fun q hq => hb.block q (own_lt H.oU q hq))
 hd := fun x hx => (H.hd x hx).below hb
 lv := H.lv
 bel := H.bel.trans (hb.mono H.bel.size)
theorem RV.head {kt : Nat → Int} {w0 : World} {v : Nat} {vH vU : Value} {hs : List (ByteArray × Nat)} {un : List Nat} {w : World} (H : RV kt w0 v vH vU hs un w) {t : ByteArray} {h : Nat} (hh : RHd kt w0.heap.size t h w) (hn : hs.length ≤ 100000000) :
  ∃ v' w2, (Builtin.append_ #[207, 207] 207 #[vH, .slice (some ⟨w.heap.size, 0, none⟩) 1 1]).run Tryz.prog (w.alloc (.cells #[.pointer (some ⟨h, 0, none⟩)] 169)) = .ok v' w2 ∧ RV kt w0 v v' vU (hs ++ [(t, h)]) un (w2.setCell ⟨v, 0, none⟩ v') ∧ w2.heap[v]? = some (.cells #[vH, vU] 209 (0, 0)) ∧ Kp250 w (w2.setCell ⟨v, 0, none⟩ v') := by
 obtain ⟨v', w2, hrun, ho, hr, hr2, hk, hbel⟩ := fld_appP (k := 0) h H.row (by decide) H.oH H.bel.size (by simpa using hn)
 have hkeep : ∀ (j : Nat) (cur : Array Value) (ty : TypeId), w.heap[j]? = some (.cells cur ty (0, 0)) → (ty = 174 ∨ ty = 70 ∨ ty = 9 ∨ ty = 3 ∨ ty = 250) → (w2.setCell ⟨v, 0, none⟩ v').heap[j]? = w.heap[j]? := fun j cur ty hj hty => by
  refine hk j (Array.getElem?_eq_some_iff.1 hj).1 (fun e => ?_) (fun e => ?_)
  ·rw [e, H.row] at hj
   simp only [Option.some.injEq, Obj.cells.injEq] at hj
   have := hj.2.1
   rcases hty with h | h | h | h | h <;> (rw [h] at this; exact absurd this (by decide))
  ·obtain ⟨cur2, hc⟩ := own_type H.oH j e
   rw [hj] at hc
   simp only [Option.some.injEq, Obj.cells.injEq] at hc
   have := hc.2.1
   rcases hty with h | h | h | h | h <;> (rw [h] at this; exact absurd this (by decide))
 refine ⟨v', w2, hrun, ⟨hr2, by rw [List.map_append]; exact ho, own_kept H.oU (fun q hq => ?_), fun x hx => ?_, H.lv, hbel H.lv _ H.bel⟩, hr, fun j cur hj => hkeep j cur 250 hj (by simp)⟩
 ·obtain ⟨cur, hc⟩ := own_type H.oU q hq
  exact hkeep q _ _ hc (by simp)
 ·have hx' : RHd kt w0.heap.size x.1 x.2 w := by
   rcases List.mem_append.1 hx with h | h
   ·exact H.hd x h
   ·rw [List.mem_singleton.1 h]; exact hh
  exact hx'.keep (fun j cur ty hj hty => hkeep j cur ty hj (by rcases hty with h | h | h <;> simp [h]))
theorem RV.miss {kt : Nat → Int} {w0 : World} {v : Nat} {vH vU : Value} {hs : List (ByteArray × Nat)} {un : List Nat} {w : World} (H : RV kt w0 v vH vU hs un w) (i : Nat) (hn : un.length ≤ 100000000) :
  ∃ v' w2, (Builtin.append_ #[39, 39] 39 #[vU, .slice (some ⟨w.heap.size, 0, none⟩) 1 1]).run Tryz.prog (w.alloc (.cells #[.int .i64 i] 3)) = .ok v' w2 ∧ RV kt w0 v vH v' hs (un ++ [i]) (w2.setCell ⟨v, 1, none⟩ v') ∧ w2.heap[v]? = some (.cells #[vH, vU] 209 (0, 0)) ∧ Kp250 w (w2.setCell ⟨v, 1, none⟩ v') := by
 obtain ⟨v', w2, hrun, ho, hr, hr2, hk, _, hbel⟩ := fld_appN (k := 1) i H.row (by decide) H.oU H.bel.size hn
 have hkeep : ∀ (j : Nat) (cur : Array Value) (ty : TypeId), w.heap[j]? = some (.cells cur ty (0, 0)) → (ty = 174 ∨ ty = 70 ∨ ty = 9 ∨ ty = 169 ∨ ty = 250) → (w2.setCell ⟨v, 1, none⟩ v').heap[j]? = w.heap[j]? := fun j cur ty hj hty => by
  refine hk j (Array.getElem?_eq_some_iff.1 hj).1 (fun e => ?_) (fun e => ?_)
  ·rw [e, H.row] at hj
   simp only [Option.some.injEq, Obj.cells.injEq] at hj
   have := hj.2.1
   rcases hty with h | h | h | h | h <;> (rw [h] at this; exact absurd this (by decide))
  ·obtain ⟨cur2, hc⟩ := own_type H.oU j e
   rw [hj] at hc
   simp only [Option.some.injEq, Obj.cells.injEq] at hc
   have := hc.2.1
   rcases hty with h | h | h | h | h <;> (rw [h] at this; exact absurd this (by decide))
 refine ⟨v', w2, hrun, ⟨hr2, own_kept H.oH (fun q hq => ?_), ho, fun x hx => ?_, H.lv, hbel H.lv _ H.bel⟩, hr, fun j cur hj => hkeep j cur 250 hj (by simp)⟩
 ·obtain ⟨cur, hc⟩ := own_type H.oH q hq
  exact hkeep q _ _ hc (by simp)
 ·exact (H.hd x hx).keep (fun j cur ty hj hty => hkeep j cur ty hj (by rcases hty with h | h | h <;> simp [h]))
theorem ptV_cell {w : World} {B n c : Nat} {a : Option Addr} {l : List Nat} (h : w.ownsRow B 169 1 (.slice a n c) n (ptV l)) {i x : Nat} (hx : l[i]? = some x) : ∃ g, a = some ⟨g, 0, none⟩ ∧ w.cell? ⟨g, i, none⟩ = some (.pointer (some ⟨x, 0, none⟩)) := by
 have hlen := h.1
 have hi : i < l.length := (List.getElem?_eq_some_iff.1 hx).1
 rcases h.2 with ⟨_, h2⟩ | ⟨g, cap, cur, hv, _, hh, _⟩
 ·simp [ptV] at hlen; omega
 ·cases hv
  have c1 := h.cells (g := g) rfl i (.pointer (some ⟨x, 0, none⟩)) (by simp [ptV, hx])
  rw [Addr.add_lit] at c1
  exact ⟨g, rfl, by simpa using c1⟩
theorem RHd.cells {kt : Nat → Int} {B : Nat} {t : ByteArray} {h : Nat} {w : World} (H : RHd kt B t h w) : w.cell? ⟨h, 6, none⟩ = some (.int .i64 ((tT t).num : Nat)) ∧ w.cell? ⟨h, 4, none⟩ = some (.string (tT t).root) := by
 obtain ⟨_, _, vE, vL, vB, hr, _⟩ := H
 exact ⟨cell_of_row _ _ _ _ 174 _ hr, cell_of_row _ _ _ _ 174 _ hr⟩
theorem head_of {α : Type} {l : List α} {j : Nat} {x : α} (h : l[j]? = some x) : ∃ y, y ∈ l.head? := by
 cases l with
 | nil => simp at h
 | cons y r => exact ⟨y, rfl⟩
def JnD (kt : Nat → Int) (w0 : World) (v : Nat) (vH vU : Value) (hs : List (ByteArray × Nat)) (un : List Nat) (t : ByteArray) (h i : Nat) (w : World) (e : Ending) (w' : World) : Prop :=
 ∃ r, e = .returned r ∧ Kp250 w w' ∧ ((r = .slice none 0 0 ∧ (∀ x ∈ hs.head?, Same3 x.1 t) ∧ (∀ x ∈ hs, (tT x.1).num ≠ (tT t).num) ∧ ∃ vH', RV kt w0 v vH' vU (hs ++ [(t, h)]) un w') ∨ ∃ k : Int, w'.ownsRow w0.heap.size 250 2 r 1 (mkL [(k, (i : Int))]) ∧ RV kt w0 v vH vU hs un w' ∧ ((k = 12 ∧ ∃ x ∈ hs.head?, ¬ Same3 x.1 t) ∨ (k = 13 ∧ (∃ x ∈ hs.head?, Same3 x.1 t) ∧ ∃ x ∈ hs, (tT x.1).num = (tT t).num)))
theorem rjoins (kt : Nat → Int) (w0 : World) (v : Nat) (vH vU : Value) (hs : List (ByteArray × Nat)) (un : List Nat) (t : ByteArray) (h i : Nat) (w : World) (H : RV kt w0 v vH vU hs un w) (hh : RHd kt w0.heap.size t h w) (hn : hs.length ≤ 100000000) :
  Calls Tryz.prog 106 #[.pointer (some ⟨v, 0, none⟩), .pointer (some ⟨h, 0, none⟩), .int .i64 i] w fun e w' => JnD kt w0 v vH vU hs un t h i w e w' := by
 have HV : Hid _ := H
 have HH : Hid (RHd kt w0.heap.size t h w) := hh
 have ho := H.oH
 obtain ⟨aH, cH, hvH⟩ := own_shape ho
 subst hvH
 obtain ⟨n, hnn⟩ : ∃ x, (hs.map Prod.snd).length = x := ⟨_, rfl⟩
 have hln : hs.length = n := by rw [← hnn]; simp
 have a0 : w.cell? ⟨v, 0, none⟩ = some (.slice aH n cH) := by rw [← hnn]; exact cell_of_row _ _ _ _ 209 _ H.row
 have HPT : Hid (∀ (X : World) (j : Nat) (x : ByteArray × Nat), RV kt w0 v (.slice aH (hs.map Prod.snd).length cH) vU hs un X → hs[j]? = some x → ∃ g, aH = some ⟨g, 0, none⟩ ∧ X.cell? ⟨g, j, none⟩ = some (.pointer (some ⟨x.2, 0, none⟩))) := fun X j x hX hx => ptV_cell hX.oH (by rw [List.getElem?_map, hx]; rfl)
 have HCV : Hid (∀ X : World, RV kt w0 v (.slice aH (hs.map Prod.snd).length cH) vU hs un X → X.cell? ⟨v, 0, none⟩ = some (.slice aH n cH)) := fun X hX => by rw [← hnn]; exact cell_of_row _ _ _ _ 209 _ hX.row
 have HNN : Hid _ := hnn
 clear H hh ho
 by_cases hne : hs = []
 ·have hn0 : n = 0 := by rw [← hln, hne]; rfl
  have hz : ¬ (0 : Int) < (n : Int) := by omega
  have HW : Hid _ := HV.out
  have HHW : Hid (RHd kt w0.heap.size t h w) := HH.out
  have HSM : Hid (∀ x ∈ hs.head?, Same3 x.1 t) := fun x hx => by rw [hne] at hx; cases hx
  have HB0 : Hid (Below w.heap.size w w) := Below.refl _ _
  clear hne hn0
  go_enter Tryz.func106, Tryz.ntmps106
  go_wp2_with fail
  go_loopw [7] (fun kv wr => ∃ k : Nat, k ≤ n ∧ kv = .int .i64 k ∧ (∀ j x, j < k → hs[j]? = some x → (tT x.1).num ≠ (tT t).num) ∧ RV kt w0 v (.slice aH (hs.map Prod.snd).length cH) vU hs un wr ∧ RHd kt w0.heap.size t h wr ∧ Below w.heap.size w wr) (fun kv _ => n - (intOf kv).toNat)
  case atStart => exact ⟨0, Nat.zero_le _, rfl, fun j x hj => by omega, HW.out, HHW.out, HB0.out⟩
  case round =>
   obtain ⟨k, hk, rfl, hE, hV2, hH2, hB0⟩ := hrel
   have HB1 : Hid (Below w.heap.size w wr) := hB0
   have HE : Hid _ := hE
   have HV2 : Hid _ := hV2
   have HH2 : Hid (RHd kt w0.heap.size t h wr) := hH2
   have b0 := HCV.out wr hV2
   clear hE hV2 hH2 hB0
   by_cases hlt : k < n
   ·exact absurd hlt (by omega)
   ·have hlt' : ¬ (k : Int) < (n : Int) := by omega
    have hke : k = n := by omega
    have HAL : Hid (∀ x ∈ hs, (tT x.1).num ≠ (tT t).num) := fun x hx => by
     obtain ⟨j, hj, e⟩ := List.getElem_of_mem hx
     exact HE.out j x (by omega) (by rw [List.getElem?_eq_getElem hj, e])
    obtain ⟨v', w2, hrun, hRV, hr2, hkp⟩ := RV.head HV2.out HH2.out hn
    rw [HNN.out] at hrun
    have ho' := hRV.oH
    obtain ⟨aH', cH', hvv⟩ := own_shape ho'
    subst hvv
    obtain ⟨n2, hn2⟩ : ∃ x, (List.map Prod.snd (hs ++ [(t, h)])).length = x := ⟨_, rfl⟩
    rw [hn2] at hrun hRV hkp
    have HKP : Hid (Kp250 w _) := (Kp250.below HB1.out).trans hkp
    clear hkp
    clear ho' hn2
    have RR : Hid _ := hrun
    have HRV : Hid _ := hRV
    have q0 : w2.cell? ⟨v, 0, none⟩ = some (.slice aH (hs.map Prod.snd).length cH) := cell_of_row _ _ _ _ 209 _ hr2
    have p0 := frozen_of_row w2 v 0 _ 209 hr2
    clear hrun hRV hr2 hke
    go_wp2_with (at_builtin; refine wpList_app rfl (.tmp 57) (.tmp 59) 207 rfl _ _ _ (by simp [Act.eval]) (by simp [Act.eval]) _ RR.out ?_)
    go_ret
    exact ⟨_, rfl, HKP.out, .inl ⟨rfl, HSM.out, HAL.out, _, HRV.out⟩⟩
 ·obtain ⟨y, hy⟩ : ∃ y, hs[0]? = some y := by
   cases hs with
   | nil => exact absurd rfl hne
   | cons y r => exact ⟨y, rfl⟩
  have hyh : hs.head? = some y := by rw [List.head?_eq_getElem?]; exact hy
  have hz : (0 : Int) < (n : Int) := by
   have : 0 < hs.length := (List.getElem?_eq_some_iff.1 hy).1
   omega
  obtain ⟨g0, rfl, c0⟩ := HPT.out w 0 y HV.out hy
  have HSA : Hid _ := rsame kt w0.heap.size y.1 t y.2 h w (HV.out.hd y (List.mem_of_getElem? hy)) HH.out
  have HYH : Hid _ := hyh
  clear hy hyh
  go_enter Tryz.func106, Tryz.ntmps106
  go_wp2_with fail
  refine Calls.mono HSA.out ?_
  rintro e w1 ⟨b, rfl, hb, hB1⟩
  have HW : Hid _ := HV.out.low hB1
  have HHW : Hid (RHd kt w0.heap.size t h w1) := HH.out.below hB1
  have HBB : Hid _ := hb
  have HB0 : Hid (Below w.heap.size w w1) := hB1
  clear hB1 hb c0 a0 HSA
  cases b with
  | false =>
   have HNS : Hid (¬ Same3 y.1 t) := fun h => (by have := HBB.out.2 h; cases this)
   go_wp2_with fail
   refine Calls.mono (at_own 12 i w1) ?_
   rintro e w6 ⟨r, rfl, ho, hB⟩
   obtain ⟨va, vc, rfl⟩ := own_shape ho
   have HO : Hid _ := own_base ho HW.out.bel.size
   have HB : Hid _ := HW.out.low hB
   have HKP : Hid (Kp250 w w6) := Kp250.below (HB0.out.trans (hB.mono HB0.out.size))
   clear ho hB
   go_wp2_with fail
   go_ret
   exact ⟨_, rfl, HKP.out, .inr ⟨12, HO.out, HB.out, .inl ⟨rfl, y, HYH.out, HNS.out⟩⟩⟩
  | true =>
   have HSM : Hid (∀ x ∈ hs.head?, Same3 x.1 t) := fun x hx => by
    rw [HYH.out] at hx
    cases hx
    exact HBB.out.1 rfl
   go_wp2_with fail
   go_loopw [7] (fun kv wr => ∃ k : Nat, k ≤ n ∧ kv = .int .i64 k ∧ (∀ j x, j < k → hs[j]? = some x → (tT x.1).num ≠ (tT t).num) ∧ RV kt w0 v (.slice (some ⟨g0, 0, none⟩) (hs.map Prod.snd).length cH) vU hs un wr ∧ RHd kt w0.heap.size t h wr ∧ Below w.heap.size w wr) (fun kv _ => n - (intOf kv).toNat)
   case atStart => exact ⟨0, Nat.zero_le _, rfl, fun j x hj => by omega, HW.out, HHW.out, HB0.out⟩
   case round =>
    obtain ⟨k, hk, rfl, hE, hV2, hH2, hB0⟩ := hrel
    have HB1 : Hid (Below w.heap.size w wr) := hB0
    have HE : Hid _ := hE
    have HV2 : Hid _ := hV2
    have HH2 : Hid (RHd kt w0.heap.size t h wr) := hH2
    have b0 := HCV.out wr hV2
    clear hE hV2 hH2 hB0
    by_cases hlt : k < n
    ·have hlt' : (k : Int) < (n : Int) := by omega
     obtain ⟨x, hx⟩ : ∃ x, hs[k]? = some x := ⟨_, List.getElem?_eq_getElem (by omega)⟩
     obtain ⟨g, hga, c0⟩ := HPT.out wr k x HV2.out hx
     cases hga
     have c1 := (HV2.out.hd x (List.mem_of_getElem? hx)).cells.1
     have c2 := HH2.out.cells.1
     have HX : Hid _ := hx
     obtain ⟨nx, hnx⟩ : ∃ y, (tT x.1).num = y := ⟨_, rfl⟩
     obtain ⟨nt, hnt⟩ : ∃ y, (tT t).num = y := ⟨_, rfl⟩
     rw [hnx] at c1
     rw [hnt] at c2
     have HNX : Hid _ := hnx
     have HNT : Hid _ := hnt
     clear hx hnx hnt
     by_cases hnum : nx = nt
     ·have q1 : ((nx : Int) == (nt : Int)) = true := by simp; omega
      have q2 : (nx : Int) = (nt : Int) := by omega
      go_wp2_with fail
      go_region
      obtain ⟨X2, hX2⟩ : ∃ X, wr.drew = X := ⟨_, rfl⟩
      have HV3 : Hid (RV kt w0 v (.slice (some ⟨g0, 0, none⟩) (hs.map Prod.snd).length cH) vU hs un X2) := by show RV _ _ _ _ _ _ _ _; rw [← hX2]; exact HV2.out.low ((Below.refl _ _).drew)
      have HBX : Hid (Below w.heap.size w X2) := by show Below _ _ _; rw [← hX2]; exact HB1.out.drew
      rw [hX2]
      clear hX2 b0 c0 c1 c2
      go_wp2_with fail
      refine Calls.mono (at_own 13 i X2) ?_
      rintro e w6 ⟨r, rfl, ho, hB⟩
      obtain ⟨va, vc, rfl⟩ := own_shape ho
      have HO : Hid _ := own_base ho HV3.out.bel.size
      have HB : Hid _ := HV3.out.low hB
      have HKP : Hid (Kp250 w w6) := Kp250.below (HBX.out.trans (hB.mono HBX.out.size))
      clear ho hB
      go_wp2_with fail
      go_ret
      obtain ⟨y, hy⟩ := head_of HX.out
      exact ⟨_, rfl, HKP.out, .inr ⟨13, HO.out, HB.out, .inr ⟨rfl, ⟨y, hy, HSM.out y hy⟩, x, List.mem_of_getElem? HX.out, by rw [HNX.out, HNT.out]; exact hnum⟩⟩⟩
     ·have q1 : ((nx : Int) == (nt : Int)) = false := by simp; omega
      have q2 : ¬ (nx : Int) = (nt : Int) := by omega
      have HNE : Hid (∀ j y, j < k + 1 → hs[j]? = some y → (tT y.1).num ≠ (tT t).num) := fun j y hj hy => by
       by_cases e : j = k
       ·rw [e, HX.out] at hy
        cases hy
        rw [HNX.out, HNT.out]; exact hnum
       ·exact HE.out j y (by omega) hy
      go_wp2_with fail
      go_region
      go_wp2_with fail
      go_roundw
      case rel => exact ⟨k + 1, by omega, by go_num, HNE.out, by first | exact HV2.out.low ((Below.refl _ _).drew) | exact HV2.out, by first | exact HH2.out.below ((Below.refl _ _).drew) | exact HH2.out, by first | exact HB1.out.drew | exact HB1.out⟩
      case measure => simp [intOf]; omega
    ·have hlt' : ¬ (k : Int) < (n : Int) := by omega
     have hke : k = n := by omega
     have HAL : Hid (∀ x ∈ hs, (tT x.1).num ≠ (tT t).num) := fun x hx => by
      obtain ⟨j, hj, e⟩ := List.getElem_of_mem hx
      exact HE.out j x (by omega) (by rw [List.getElem?_eq_getElem hj, e])
     obtain ⟨v', w2, hrun, hRV, hr2, hkp⟩ := RV.head HV2.out HH2.out hn
     rw [HNN.out] at hrun
     have ho' := hRV.oH
     obtain ⟨aH', cH', hvv⟩ := own_shape ho'
     subst hvv
     obtain ⟨n2, hn2⟩ : ∃ x, (List.map Prod.snd (hs ++ [(t, h)])).length = x := ⟨_, rfl⟩
     rw [hn2] at hrun hRV hkp
     have HKP : Hid (Kp250 w _) := (Kp250.below HB1.out).trans hkp
     clear hkp
     clear ho' hn2
     have RR : Hid _ := hrun
     have HRV : Hid _ := hRV
     have q0 : w2.cell? ⟨v, 0, none⟩ = some (.slice (some ⟨g0, 0, none⟩) (hs.map Prod.snd).length cH) := cell_of_row _ _ _ _ 209 _ hr2
     have p0 := frozen_of_row w2 v 0 _ 209 hr2
     clear hrun hRV hr2 hke
     go_wp2_with (at_builtin; refine wpList_app rfl (.tmp 57) (.tmp 59) 207 rfl _ _ _ (by simp [Act.eval]) (by simp [Act.eval]) _ RR.out ?_)
     go_ret
     exact ⟨_, rfl, HKP.out, .inl ⟨rfl, HSM.out, HAL.out, _, HRV.out⟩⟩
structure RO where
 un : List Nat
 hs : List ByteArray
 fs : Option (Nat × Nat)
 cl : Option (Nat × Nat)
def RO.new : RO := ⟨[], [], none, none⟩
def jnK : List ByteArray → ByteArray → Option Nat
 | [], _ => none
 | t0 :: r, t => if (tT t0).root = (tT t).root ∧ (tT t0).lst = (tT t).lst ∧ (tT t0).lv = (tT t).lv then (if (t0 :: r).any (fun x => decide ((tT x).num = (tT t).num)) then some 13 else none) else some 12
def RO.step (kt : Nat → Int) (rt : ByteArray) (i : Nat) (t : ByteArray) (s : RO) : RO :=
 match sdE kt rt t with
 | some e => { s with un := s.un ++ [i], fs := if i = 0 then some e else s.fs }
 | none => match jnK s.hs t with
  | none => { s with hs := s.hs ++ [t] }
  | some k => { s with cl := match s.cl with | none => some (k, i) | some c => some c }
def RO.run (kt : Nat → Int) (rt : ByteArray) : Nat → List ByteArray → RO → RO
 | _, [], s => s
 | i, t :: ts, s => RO.run kt rt (i + 1) ts (s.step kt rt i t)
theorem RO.run_snoc (kt : Nat → Int) (rt t : ByteArray) : ∀ (l : List ByteArray) (i : Nat) (s : RO), RO.run kt rt i (l ++ [t]) s = (RO.run kt rt i l s).step kt rt (i + l.length) t
 | [], i, s => rfl
 | x :: l, i, s => by
  show RO.run kt rt (i + 1) (l ++ [t]) (s.step kt rt i x) = _
  rw [RO.run_snoc kt rt t l (i + 1) (s.step kt rt i x)]
  show _ = (RO.run kt rt (i + 1) l (s.step kt rt i x)).step kt rt (i + (l.length + 1)) t
  rw [show i + 1 + l.length = i + (l.length + 1) by omega]
def blH (hs : List ByteArray) : Nat → ByteArray := hs.foldl (fun b t => laid b (tT t).first (nB t) (pc (tRest t) (tT t).L.C)) noT
structure OEq (r : RO) (s : OS) : Prop where
 un : s.un = r.un
 hd : s.hd = r.hs.head?
 rd : ∀ v, s.rd v = true ↔ ∃ x ∈ r.hs, (tT x).num = v
 bl : s.bl = blH r.hs
 cl : r.cl = none
theorem cl_stays (kt : Nat → Int) (rt : ByteArray) {e : Nat × Nat} : ∀ (l : List ByteArray) (i : Nat) (r : RO), r.cl = some e → r.hs ≠ [] → (RO.run kt rt i l r).cl = some e ∧ (RO.run kt rt i l r).hs ≠ []
 | [], i, r, h, hn => ⟨h, hn⟩
 | t :: l, i, r, h, hn => by
  refine cl_stays kt rt l (i + 1) _ ?_ ?_
  ·unfold RO.step
   split
   ·exact h
   ·split
    ·exact h
    ·show (match r.cl with | none => some _ | some c => some c) = some e
     rw [h]
  ·unfold RO.step
   split
   ·exact hn
   ·split
    ·simp
    ·exact hn
theorem step_eq {kt : Nat → Int} {rt t : ByteArray} {i : Nat} {r : RO} {s : OS} (h : OEq r s) : (∃ s', s.step kt rt i t = .ok s' ∧ OEq (r.step kt rt i t) s') ∨ (∃ k, s.step kt rt i t = .error (k, i) ∧ (r.step kt rt i t).cl = some (k, i) ∧ (r.step kt rt i t).hs ≠ []) := by
 unfold OS.step RO.step
 cases hs : sdE kt rt t with
 | some e =>
  left
  rw [if_pos (by rfl)]
  exact ⟨_, rfl, ⟨by show s.un ++ [i] = r.un ++ [i]; rw [h.un], h.hd, h.rd, h.bl, h.cl⟩⟩
 | none =>
  rw [if_neg (by simp)]
  rw [h.hd]
  cases hh : r.hs with
  | nil =>
   left
   refine ⟨_, rfl, ⟨h.un, ?_, ?_, ?_, h.cl⟩⟩
   ·show some t = ([] ++ [t]).head?
    rfl
   ·intro v
    show updB noR (tT t).num true v = true ↔ ∃ x ∈ [] ++ [t], (tT x).num = v
    unfold updB noR
    constructor
    ·intro e
     split at e
     ·rename_i e1; exact ⟨t, by simp, e1.symm⟩
     ·cases e
    ·rintro ⟨x, hx, e⟩
     have : x = t := by simpa using hx
     subst this
     rw [if_pos e.symm]
   ·show laid noT (tT t).first (nB t) (pc (tRest t) (tT t).L.C) = blH ([] ++ [t])
    rfl
  | cons t0 rr =>
   have hany : (s.rd (tT t).num = true) ↔ ((t0 :: rr).any (fun x => decide ((tT x).num = (tT t).num)) = true) := by
    rw [h.rd, hh, List.any_eq_true]
    constructor
    ·rintro ⟨x, hx, e⟩; exact ⟨x, hx, decide_eq_true e⟩
    ·rintro ⟨x, hx, e⟩; exact ⟨x, hx, of_decide_eq_true e⟩
   simp only [List.head?_cons, jnK]
   by_cases hS : (tT t0).root = (tT t).root ∧ (tT t0).lst = (tT t).lst ∧ (tT t0).lv = (tT t).lv
   ·rw [if_pos hS]
    have hS' : (RS.on t0).told.root = (RS.on t).told.root ∧ (RS.on t0).told.lst = (RS.on t).told.lst ∧ (RS.on t0).told.lv = (RS.on t).told.lv := hS
    rw [if_pos hS']
    by_cases hr : s.rd (tT t).num = true
    ·right
     rw [if_pos (hany.1 hr)]
     have hr' : s.rd (RS.on t).told.num = true := hr
     rw [if_pos hr']
     refine ⟨13, rfl, ?_, ?_⟩
     ·show (match r.cl with | none => some (13, i) | some c => some c) = some (13, i)
      rw [h.cl]
     ·show t0 :: rr ≠ []
      simp
    ·left
     rw [if_neg (fun e => hr (hany.2 e))]
     have hr' : ¬ s.rd (RS.on t).told.num = true := hr
     rw [if_neg hr']
     refine ⟨_, rfl, ⟨h.un, ?_, ?_, ?_, h.cl⟩⟩
     ·show s.hd = ((t0 :: rr) ++ [t]).head?
      rw [h.hd, hh]; rfl
     ·intro v
      show updB s.rd (tT t).num true v = true ↔ ∃ x ∈ (t0 :: rr) ++ [t], (tT x).num = v
      unfold updB
      by_cases e1 : v = (tT t).num
      ·rw [if_pos e1]
       exact ⟨fun _ => ⟨t, by simp, e1.symm⟩, fun _ => rfl⟩
      ·rw [if_neg e1, h.rd, hh]
       constructor
       ·rintro ⟨x, hx, e⟩; exact ⟨x, List.mem_append_left _ hx, e⟩
       ·rintro ⟨x, hx, e⟩
        rcases List.mem_append.1 hx with hx | hx
        ·exact ⟨x, hx, e⟩
        ·rw [List.mem_singleton.1 hx] at e; exact absurd e.symm e1
     ·show laid s.bl (tT t).first (nB t) (pc (tRest t) (tT t).L.C) = blH ((t0 :: rr) ++ [t])
      unfold blH
      rw [List.foldl_append, h.bl, hh]
      rfl
   ·right
    rw [if_neg hS]
    have hS' : ¬ ((RS.on t0).told.root = (RS.on t).told.root ∧ (RS.on t0).told.lst = (RS.on t).told.lst ∧ (RS.on t0).told.lv = (RS.on t).told.lv) := hS
    rw [if_neg hS']
    refine ⟨12, rfl, ?_, ?_⟩
    ·show (match r.cl with | none => some (12, i) | some c => some c) = some (12, i)
     rw [h.cl]
    ·show t0 :: rr ≠ []
     simp
theorem run_eq (kt : Nat → Int) (rt : ByteArray) : ∀ (l : List ByteArray) (i : Nat) (r : RO) (s : OS), OEq r s → (∃ s', OS.run kt rt i l s = .ok s' ∧ OEq (RO.run kt rt i l r) s') ∨ (∃ e, OS.run kt rt i l s = .error e ∧ (RO.run kt rt i l r).cl = some e ∧ (RO.run kt rt i l r).hs ≠ [])
 | [], i, r, s, h => .inl ⟨s, rfl, h⟩
 | t :: l, i, r, s, h => by
  rcases step_eq (kt := kt) (rt := rt) (t := t) (i := i) h with ⟨s1, e1, h1⟩ | ⟨k, e1, h1, h2⟩
  ·rcases run_eq kt rt l (i + 1) _ s1 h1 with ⟨s', e2, h3⟩ | ⟨e, e2, h3⟩
   ·exact .inl ⟨s', by unfold OS.run; rw [e1]; exact e2, h3⟩
   ·exact .inr ⟨e, by unfold OS.run; rw [e1]; exact e2, h3⟩
  ·obtain ⟨a, b⟩ := cl_stays kt rt l (i + 1) _ h1 h2
   exact .inr ⟨(k, i), by unfold OS.run; rw [e1], a, b⟩
theorem OEq.new : OEq RO.new OS.new := ⟨rfl, rfl, fun v => ⟨fun e => (by cases e), fun ⟨x, hx, _⟩ => (by cases hx)⟩, rfl, rfl⟩
end Go.Proofs.YtadinjaocnlglaaGreatDoor
