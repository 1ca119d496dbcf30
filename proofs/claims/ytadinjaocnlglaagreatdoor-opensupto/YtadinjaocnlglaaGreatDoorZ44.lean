/-
  Plain: what the document's Verify, Unpack and Repair gather.
  The document's stripes, Verify, Params, Root, Objects.
  The document's Verify.
-/
import Derived.Test.YtadinjaocnlglaaGreatDoorZ39
import Derived.Test.YtadinjaocnlglaaGreatDoorZ36
import Derived.Test.YtadinjaocnlglaaGreatDoorZ29
import Derived.Test.YtadinjaocnlglaaGreatDoorZ43
namespace Go.Proofs.YtadinjaocnlglaaGreatDoor
open Go.RowKit
set_option maxRecDepth 100000
set_option maxHeartbeats 1000000
section
variable (kt : Nat → Int) (T : TT) (bl : Nat → ByteArray)
def baN : Nat → List Nat
 | 0 => []
 | n + 1 => if goodB kt T.L.C T.lv n (bl n) = true then baN n else baN n ++ [n]
theorem baN_len : ∀ n, (baN kt T bl n).length ≤ n
 | 0 => Nat.le_refl _
 | n + 1 => by
  have := baN_len n
  rw [baN]; split
  ·omega
  ·rw [List.length_append, List.length_singleton]; omega
theorem baN_in (s : Nat) (h0 : baN kt T bl (s * T.n) = baF kt T bl s) : ∀ i, baN kt T bl (s * T.n + i) = baF kt T bl s ++ badF (stH kt T bl s) (s * T.n) i
 | 0 => by simp [badF, h0]
 | i + 1 => by
  rw [← Nat.add_assoc, baN, badF, baN_in s h0 i]
  have e : stH kt T bl s i = goodB kt T.L.C T.lv (s * T.n + i) (bl (s * T.n + i)) := rfl
  rw [e]
  split
  ·rfl
  ·rw [List.append_assoc]
theorem baN_eq : ∀ s, baN kt T bl (s * T.n) = baF kt T bl s
 | 0 => by simp [baN, baF]
 | s + 1 => by
  rw [Nat.succ_mul, baN_in kt T bl s (baN_eq s) T.n]
  rfl
end
set_option maxHeartbeats 8000000
structure DR (w0 : World) (r0 r : Nat) (L : List (Value × List Nat)) (w : World) : Prop where
 rl : RL w0.heap.size r L (fun _ => False) w
 r0R : w.heap[r0]? = some (.cells nil5 99 (0, 0))
 ne : r0 ≠ r
 lo : w0.heap.size ≤ r0 ∧ w0.heap.size ≤ r
 bel : Below w0.heap.size w0 w
theorem DR.below {w0 : World} {r0 r : Nat} {L : List (Value × List Nat)} {w w' : World} (h : DR w0 r0 r L w) (hb : Below w.heap.size w w') : DR w0 r0 r L w' :=
 ⟨h.rl.below hb, (hb.block r0 (Array.getElem?_eq_some_iff.1 h.r0R).1).trans h.r0R, h.ne, h.lo, h.bel.trans (hb.mono h.bel.size)⟩
theorem DR.app {w0 : World} {r0 r : Nat} {l1 l2 : List (Value × List Nat)} {v v' : Value} {xs ys : List Nat} {w w2 : World} (h : DR w0 r0 r (l1 ++ (v, xs) :: l2) w) (hG : w.grownBy w2 v.ownBlock) (hO : w2.ownsRow w0.heap.size 3 1 v' (xs.length + ys.length) (unV xs ++ unV ys)) (hb : v'.ownBlock = v.ownBlock ∨ v'.ownBlock = some w.heap.size) :
  DR w0 r0 r (l1 ++ (v', xs ++ ys) :: l2) (w2.setCell ⟨r, l1.length, none⟩ v') where
 rl := h.rl.app hG hO hb (fun j hj => hj.elim)
 r0R := by
  have hv := h.rl.own (v, xs) (by simp)
  rw [set_other _ _ _ _ _ h.ne, hG.block r0 (Array.getElem?_eq_some_iff.1 h.r0R).1 (fun e => by
   obtain ⟨cur, hcur⟩ := own_type hv r0 e.symm
   exact row_ne h.r0R hcur (by decide) rfl)]
  exact h.r0R
 ne := h.ne
 lo := h.lo
 bel := (h.bel.grown hG h.bel.size (fun y hy => own_ge (h.rl.own (v, xs) (by simp)) y hy)).setCell (p := ⟨r, l1.length, none⟩) h.lo.2 _
theorem DR.one {w0 : World} {r0 r : Nat} {l1 l2 : List (Value × List Nat)} {v : Value} {xs : List Nat} {w : World} (x : Nat) (h : DR w0 r0 r (l1 ++ (v, xs) :: l2) w) (hx : xs.length ≤ 100000000) :
  ∃ v' w2, (Builtin.append_ #[39, 39] 39 #[v, .slice (some ⟨w.heap.size, 0, none⟩) 1 1]).run Tryz.prog (w.alloc (.cells #[.int .i64 x] 3)) = .ok v' w2 ∧ DR w0 r0 r (l1 ++ (v', xs ++ [x]) :: l2) (w2.setCell ⟨r, l1.length, none⟩ v') ∧ w2.heap[r]? = some (.cells ((l1 ++ (v, xs) :: l2).map Prod.fst).toArray 99 (0, 0)) ∧ (∃ a c, v = .slice a xs.length c) ∧ ∃ a c, v' = .slice a (xs.length + 1) c := by
 obtain ⟨i0, hi0, z0, z1, z2⟩ := info_parts info3
 have h1 := h.below ((Below.refl w.heap.size w).alloc (Nat.le_refl _) (.cells #[.int .i64 x] 3))
 have hv : (w.alloc (.cells #[.int .i64 x] 3)).ownsRow w0.heap.size 3 1 v xs.length (unV xs) := h1.rl.own (v, xs) (by simp)
 have hsz : w0.heap.size ≤ w.heap.size := h.bel.size
 have hone : (w.alloc (.cells #[.int .i64 x] 3)).ownsRow w.heap.size 3 1 (.slice (some ⟨w.heap.size, 0, none⟩) 1 1) 1 [.int .i64 x] := own_one w x
 obtain ⟨v', w2, hr, ho, hg, hb⟩ := app_rows 39 Tryz.underlying39 hi0 z0 z1 z2 rfl (by decide) hv hone (by intro u hu; simp at hu; subst hu; rfl) (by omega) (by omega) (by show w0.heap.size ≤ (w.alloc (.cells #[.int .i64 x] 3)).heap.size; simp; omega)
 refine ⟨v', w2, hr, h1.app (ys := [x]) hg ho hb, ?_, own_shape hv, own_shape ho⟩
 rw [hg.block r (Array.getElem?_eq_some_iff.1 h1.rl.row).1 (fun e => by
  obtain ⟨cur, hcur⟩ := own_type hv r e.symm
  exact row_ne h1.rl.row hcur (by decide) rfl)]
 exact h1.rl.row
theorem DR.oneD {w0 : World} {r0 r : Nat} {l1 l2 : List (Value × List Nat)} {v : Value} {xs : List Nat} {w : World} (x : Nat) (h : DR w0 r0 r (l1 ++ (v, xs) :: l2) w) (hx : xs.length ≤ 100000000) :
  ∃ v' w2, (Builtin.append_ #[39, 39] 39 #[v, .slice (some ⟨w.heap.size, 0, none⟩) 1 1]).run Tryz.prog (w.alloc (.cells #[.int .i64 x] 3)).drew = .ok v' w2 ∧ DR w0 r0 r (l1 ++ (v', xs ++ [x]) :: l2) (w2.setCell ⟨r, l1.length, none⟩ v') ∧ w2.heap[r]? = some (.cells ((l1 ++ (v, xs) :: l2).map Prod.fst).toArray 99 (0, 0)) ∧ (∃ a c, v = .slice a xs.length c) ∧ ∃ a c, v' = .slice a (xs.length + 1) c := by
 obtain ⟨i0, hi0, z0, z1, z2⟩ := info_parts info3
 have h1 := h.below (((Below.refl w.heap.size w).alloc (Nat.le_refl _) (.cells #[.int .i64 x] 3)).drew)
 have hv : (w.alloc (.cells #[.int .i64 x] 3)).drew.ownsRow w0.heap.size 3 1 v xs.length (unV xs) := h1.rl.own (v, xs) (by simp)
 have hsz : w0.heap.size ≤ w.heap.size := h.bel.size
 have hone : (w.alloc (.cells #[.int .i64 x] 3)).drew.ownsRow w.heap.size 3 1 (.slice (some ⟨w.heap.size, 0, none⟩) 1 1) 1 [.int .i64 x] := own_one w x
 obtain ⟨v', w2, hr, ho, hg, hb⟩ := app_rows 39 Tryz.underlying39 hi0 z0 z1 z2 rfl (by decide) hv hone (by intro u hu; simp at hu; subst hu; rfl) (by omega) (by omega) (by show w0.heap.size ≤ (w.alloc (.cells #[.int .i64 x] 3)).heap.size; simp; omega)
 refine ⟨v', w2, hr, h1.app (ys := [x]) hg ho hb, ?_, own_shape hv, own_shape ho⟩
 rw [hg.block r (Array.getElem?_eq_some_iff.1 h1.rl.row).1 (fun e => by
  obtain ⟨cur, hcur⟩ := own_type hv r e.symm
  exact row_ne h1.rl.row hcur (by decide) rfl)]
 exact h1.rl.row
theorem rstripes (kt : Nat → Int) (B v : Nat) (vH vU : Value) (hp : List (ByteArray × Nat)) (un : List Nat) (t0 : ByteArray) (w : World) (H : RB kt B v vH vU hp un w) (hS : RSet kt t0 (hp.map Prod.fst)) :
  Calls Tryz.prog 209 #[.pointer (some ⟨v, 0, none⟩)] w fun e w' => e = .returned (.int .i64 ((tT t0).L.ns : Nat)) ∧ Below w.heap.size w w' := by
 have hT : Told1 (tT t0) := ck_ok (rd_none (hS.rd t0 hS.mem0)).2.1
 obtain ⟨h0, g0, cH, rfl, hm, c0, c1, hh⟩ := H.top hS
 obtain ⟨d0, d1, d2, d3⟩ := hh.nums
 obtain ⟨aL, cL, d7, _⟩ := hh.leaves
 obtain ⟨m, hme⟩ : ∃ x, hp.length = x := ⟨_, rfl⟩
 obtain ⟨T, hTe⟩ : ∃ x, tT t0 = x := ⟨_, rfl⟩
 rw [hme] at c0 hm
 rw [hTe] at hT d0 d1 d7 ⊢
 have hk1 := hT.k1; have hkm := hT.km; have hcnt := hT.cnt
 have hns : T.L.cnt / (T.L.K + T.L.M) = T.L.ns := by
  show T.L.ns * (T.L.K + T.L.M) / (T.L.K + T.L.M) = T.L.ns
  exact Nat.mul_div_cancel _ (by omega)
 obtain ⟨K, hKe⟩ : ∃ x, T.L.K = x := ⟨_, rfl⟩
 obtain ⟨M, hMe⟩ : ∃ x, T.L.M = x := ⟨_, rfl⟩
 obtain ⟨cnt, hcn⟩ : ∃ x, T.L.cnt = x := ⟨_, rfl⟩
 obtain ⟨ns, hne⟩ : ∃ x, T.L.ns = x := ⟨_, rfl⟩
 obtain ⟨n, hn⟩ : ∃ x, K + M = x := ⟨_, rfl⟩
 rw [hKe] at d0 hk1 hkm hns
 rw [hMe] at d1 hkm hns
 rw [hcn] at d7 hcnt hns
 rw [hne] at hns ⊢
 rw [hn] at hns hkm
 have hm' : (0 : Int) < (m : Int) := by omega
 have hnn : (K : Int) + (M : Int) = (n : Int) := by omega
 have hn0 : ¬ (n : Int) = 0 := by omega
 have hn1 : ((n : Int) == 0) = false := by simp; omega
 have hnsb : ns ≤ 512 := by rw [← hns]; exact Nat.le_trans (Nat.div_le_self _ _) hcnt
 have u1 : wrap64 (ns : Int) = (ns : Int) := by unfold wrap64; omega
 have hq : (cnt : Int) / (n : Int) = (ns : Int) := by rw [← hns]; rfl
 have hq2 : Int.tdiv (cnt : Int) (n : Int) = (ns : Int) := by rw [← hns]; rfl
 clear H hS hT hh hTe hme hKe hMe hcn hne hns hn d2 d3
 go_enter Tryz.func209, Tryz.ntmps209
 go_wp2_with fail
 go_quiet (fail)
 go_wp2_with fail
 go_ret
 exact ⟨rfl, below_drewN (Below.refl _ _) _⟩
theorem rroot (kt : Nat → Int) (B v : Nat) (vH vU : Value) (hp : List (ByteArray × Nat)) (un : List Nat) (t0 : ByteArray) (w : World) (H : RB kt B v vH vU hp un w) (hS : RSet kt t0 (hp.map Prod.fst)) :
  Calls Tryz.prog 111 #[.pointer (some ⟨v, 0, none⟩)] w fun e w' => e = .returned (.string (tT t0).root) ∧ w' = w := by
 obtain ⟨h0, g0, cH, rfl, hm, c0, c1, hh⟩ := H.top hS
 have d4 := hh.cells.2
 obtain ⟨m, hme⟩ : ∃ x, hp.length = x := ⟨_, rfl⟩
 obtain ⟨rt, hrt⟩ : ∃ x, (tT t0).root = x := ⟨_, rfl⟩
 rw [hme] at c0 hm
 rw [hrt] at d4 ⊢
 have hm' : (0 : Int) < (m : Int) := by omega
 clear H hS hh hme hrt
 go_enter Tryz.func111, Tryz.ntmps111
 go_wp2_with fail
 go_ret
 exact ⟨rfl, rfl⟩
theorem rparams (kt : Nat → Int) (B v : Nat) (vH vU : Value) (hp : List (ByteArray × Nat)) (un : List Nat) (t0 : ByteArray) (w : World) (H : RB kt B v vH vU hp un w) (hS : RSet kt t0 (hp.map Prod.fst)) :
  Calls Tryz.prog 110 #[.pointer (some ⟨v, 0, none⟩)] w fun e w' => e = .returned (.agg #[.int .i64 ((tT t0).L.K : Nat), .int .i64 ((tT t0).L.M : Nat), .int .i64 ((tT t0).L.C : Nat), .int .i64 ((tT t0).L.V : Nat)]) ∧ Below w.heap.size w w' := by
 obtain ⟨h0, g0, cH, rfl, hm, c0, c1, hh⟩ := H.top hS
 obtain ⟨d0, d1, d2, d3⟩ := hh.nums
 obtain ⟨m, hme⟩ : ∃ x, hp.length = x := ⟨_, rfl⟩
 obtain ⟨K, hKe⟩ : ∃ x, (tT t0).L.K = x := ⟨_, rfl⟩
 obtain ⟨M, hMe⟩ : ∃ x, (tT t0).L.M = x := ⟨_, rfl⟩
 obtain ⟨C, hCe⟩ : ∃ x, (tT t0).L.C = x := ⟨_, rfl⟩
 obtain ⟨V, hVe⟩ : ∃ x, (tT t0).L.V = x := ⟨_, rfl⟩
 rw [hme] at c0 hm
 rw [hKe] at d0
 rw [hMe] at d1
 rw [hCe] at d2
 rw [hVe] at d3
 rw [hKe, hMe, hCe, hVe]
 have hm' : (0 : Int) < (m : Int) := by omega
 obtain ⟨W, hW⟩ : ∃ W, w.alloc (.cells #[.int .i64 0, .int .i64 0, .int .i64 0, .int .i64 0] 23) = W := ⟨_, rfl⟩
 have hB : Below w.heap.size w W := by rw [← hW]; exact (Below.refl _ _).alloc (Nat.le_refl _) _
 have hrow : W.heap[w.heap.size]? = some (.cells #[.int .i64 0, .int .i64 0, .int .i64 0, .int .i64 0] 23 (0, 0)) := by rw [← hW]; exact heap_alloc_new _ _
 obtain ⟨r, hr⟩ : ∃ r, w.heap.size = r := ⟨_, rfl⟩
 have y0 := (hB.cell (p := ⟨v, 0, none⟩) (block_lt_of_cell c0)).trans c0
 have y1 := (hB.cell (p := ⟨g0, 0, none⟩) (block_lt_of_cell c1)).trans c1
 have x0 := (hB.cell (p := ⟨h0, 0, none⟩) (block_lt_of_cell d0)).trans d0
 have x1 := (hB.cell (p := ⟨h0, 1, none⟩) (block_lt_of_cell d1)).trans d1
 have x2 := (hB.cell (p := ⟨h0, 2, none⟩) (block_lt_of_cell d2)).trans d2
 have x3 := (hB.cell (p := ⟨h0, 3, none⟩) (block_lt_of_cell d3)).trans d3
 rw [hr] at hrow
 have p0 : W.cell? ⟨r, 0, none⟩ = some (.int .i64 0) := cell_of_row _ _ _ _ 23 _ hrow
 have p1 : W.cell? ⟨r, 1, none⟩ = some (.int .i64 0) := cell_of_row _ _ _ _ 23 _ hrow
 have p2 : W.cell? ⟨r, 2, none⟩ = some (.int .i64 0) := cell_of_row _ _ _ _ 23 _ hrow
 have p3 : W.cell? ⟨r, 3, none⟩ = some (.int .i64 0) := cell_of_row _ _ _ _ 23 _ hrow
 have fz : ∀ j, W.frozen? ⟨r, j, none⟩ = false := fun j => frozen_of_row _ _ _ _ 23 hrow
 have HB : Hid _ := hB
 have HROW : Hid _ := hrow
 have HRE : Hid (w.heap.size = r) := hr
 clear H hS hh hme hKe hMe hCe hVe c0 c1 d0 d1 d2 d3 hB hrow
 go_enter Tryz.func110, Tryz.ntmps110
 go_wp2_with fail
 obtain ⟨Z, hZ⟩ : ∃ Z, (((W.setCell ⟨r, 0, none⟩ (.int .i64 K)).setCell ⟨r, 1, none⟩ (.int .i64 M)).setCell ⟨r, 2, none⟩ (.int .i64 C)).setCell ⟨r, 3, none⟩ (.int .i64 V) = Z := ⟨_, rfl⟩
 have hzr : Z.heap[r]? = some (.cells #[.int .i64 K, .int .i64 M, .int .i64 C, .int .i64 V] 23 (0, 0)) := by
  rw [← hZ]
  exact set_heap _ _ _ _ _ _ _ (set_heap _ _ _ _ _ _ _ (set_heap _ _ _ _ _ _ _ (set_heap _ _ _ _ _ _ _ HROW.out)))
 have hzb : Below w.heap.size w Z := by
  rw [← hZ]
  have hle : w.heap.size ≤ r := Nat.le_of_eq HRE.out
  exact (((HB.out.setCell (p := ⟨r, 0, none⟩) hle _).setCell (p := ⟨r, 1, none⟩) hle _).setCell (p := ⟨r, 2, none⟩) hle _).setCell (p := ⟨r, 3, none⟩) hle _
 refine bodyPost_ret (v := .agg #[.int .i64 K, .int .i64 M, .int .i64 C, .int .i64 V]) ?_ rfl ?_
 ·rw [hZ]
  exact results_cell_row Tryz.results110 _ _ r 23 _ (0, 0) _ rfl hzr Tryz.underlying23 rfl (by kernel_rfl)
 ·rw [hZ]
  exact ⟨rfl, hzb⟩
theorem enV_take (es : List (ByteArray × Nat)) (i : Nat) (h : i < es.length) : enV (es.take (i + 1)) = enV (es.take i) ++ [.string (nmE es i), .int .i64 (lnE es i : Nat)] := by
 have e : es.take (i + 1) = es.take i ++ [es[i]] := by rw [List.take_add_one, List.getElem?_eq_getElem h]; rfl
 rw [e]
 unfold nmE lnE enV
 rw [List.getElem?_eq_getElem h, List.flatMap_append]
 rfl
theorem robjects (kt : Nat → Int) (B v : Nat) (vH vU : Value) (hp : List (ByteArray × Nat)) (un : List Nat) (t0 : ByteArray) (w : World) (H : RB kt B v vH vU hp un w) (hS : RSet kt t0 (hp.map Prod.fst)) :
  Calls Tryz.prog 113 #[.pointer (some ⟨v, 0, none⟩)] w fun e w' => ∃ vo, e = .returned vo ∧ w'.ownsRow w.heap.size 70 2 vo (tT t0).L.es.length (enV (tT t0).L.es) ∧ Below w.heap.size w w' := by
 have hle : (tT t0).L.es.length ≤ 16 ∧ lenE (tT t0).L.es ≤ 4096 := told_len (RS.on t0)
 obtain ⟨h0, g0, cH, rfl, hm, c0, c1, hh⟩ := H.top hS
 obtain ⟨aE, cE, d5, hoE⟩ := hh.ents
 obtain ⟨m, hme⟩ : ∃ x, hp.length = x := ⟨_, rfl⟩
 obtain ⟨es, hes⟩ : ∃ x, (tT t0).L.es = x := ⟨_, rfl⟩
 rw [hme] at c0 hm
 rw [hes] at d5 hoE hle ⊢
 obtain ⟨ne, hne⟩ : ∃ x, es.length = x := ⟨_, rfl⟩
 have hm' : (0 : Int) < (m : Int) := by omega
 have hne16 : ne ≤ 16 := by rw [← hne]; exact hle.1
 rw [hne] at d5 hoE ⊢
 have HV : Hid (∀ X : World, Below w.heap.size w X → X.cell? ⟨v, 0, none⟩ = some (.slice (some ⟨g0, 0, none⟩) m cH) ∧ X.cell? ⟨g0, 0, none⟩ = some (.pointer (some ⟨h0, 0, none⟩)) ∧ X.cell? ⟨h0, 5, none⟩ = some (.slice aE ne cE)) := fun X hX =>
  ⟨(hX.cell (p := ⟨v, 0, none⟩) (block_lt_of_cell c0)).trans c0, (hX.cell (p := ⟨g0, 0, none⟩) (block_lt_of_cell c1)).trans c1, (hX.cell (p := ⟨h0, 5, none⟩) (block_lt_of_cell d5)).trans d5⟩
 have HEC : Hid (∀ (X : World), Below w.heap.size w X → ∀ j, j < ne → ∃ b, aE = some ⟨b, 0, none⟩ ∧ X.cell? ⟨b, j * 2, none⟩ = some (.string (nmE es j)) ∧ X.cell? ⟨b, j * 2 + 1, none⟩ = some (.int .i64 (lnE es j : Nat))) := fun X hX j hj => by
  obtain ⟨b, e, _, q1, q2⟩ := ent_cellsE hne.symm (own_kept hoE (fun q hq => hX.block q (own_lt hoE q hq))) j hj
  exact ⟨b, e, q1, q2⟩
 obtain ⟨i0, hi0, z0, z1, z2⟩ := info_parts info70
 have HNE : Hid (es.length = ne) := hne
 clear H hS hh hme hes c0 c1 d5 hoE hle hne
 go_enter Tryz.func113, Tryz.ntmps113
 go_wp2_with fail
 go_loopw [3, 4] (fun ov iv wr => ∃ (i : Nat) (vo : Value), i ≤ ne ∧ vo = ov ∧ iv = .int .i64 i ∧ wr.ownsRow w.heap.size 70 2 vo i (enV (es.take i)) ∧ Below w.heap.size w wr) (fun _ iv _ => ne - (intOf iv).toNat)
 case atStart => exact ⟨0, _, Nat.zero_le _, rfl, rfl, ⟨rfl, .inl ⟨rfl, rfl⟩⟩, Below.refl _ _⟩
 case round =>
  obtain ⟨i, vo, hi, rfl, rfl, ho, hb⟩ := hrel
  obtain ⟨y0, y1, y5⟩ := HV.out wr hb
  have HB : Hid (Below w.heap.size w wr) := hb
  by_cases hlt : i < ne
  ·have hlt' : (i : Int) < (ne : Int) := by omega
   have hil : i < es.length := by rw [HNE.out]; exact hlt
   obtain ⟨b, rfl, q1, q2⟩ := HEC.out wr hb i hlt
   have HTK : Hid _ := enV_take es i hil
   obtain ⟨nm, hnm⟩ : ∃ x, nmE es i = x := ⟨_, rfl⟩
   obtain ⟨ln, hln⟩ : ∃ x, lnE es i = x := ⟨_, rfl⟩
   rw [hnm] at q1 HTK
   rw [hln] at q2 HTK
   have hB1 : Below wr.heap.size wr (wr.alloc (.cells #[.string nm, .int .i64 ln] 70)) := (Below.refl _ _).alloc (Nat.le_refl _) _
   have hone : (wr.alloc (.cells #[.string nm, .int .i64 ln] 70)).ownsRow wr.heap.size 70 2 (.slice (some ⟨wr.heap.size, 0, none⟩) 1 1) 1 [.string nm, .int .i64 ln] := ⟨rfl, .inr ⟨wr.heap.size, 1, #[.string nm, .int .i64 ln], rfl, Nat.le_refl _, heap_alloc_new _ _, Nat.le_refl _, by unfold maxLen; omega, rfl, rfl⟩⟩
   obtain ⟨v', w2, hr, ho2, hg, hbb⟩ := app_rows 59 Tryz.underlying59 hi0 z0 z1 z2 rfl (by decide) (ho.alloc (.cells #[.string nm, .int .i64 ln] 70)) hone (by intro u hu; simp at hu; rcases hu with rfl | rfl <;> rfl) (by omega) (by omega) (Nat.le_trans hb.size hB1.size)
   obtain ⟨av, cv, rfl⟩ := own_shape ho
   obtain ⟨av', cv', rfl⟩ := own_shape ho2
   rw [← HTK.out] at ho2
   have HO2 : Hid _ := ho2
   have HB2 : Hid (Below w.heap.size w w2) := (hb.trans (hB1.mono hb.size)).grown hg (Nat.le_trans hb.size hB1.size) (fun q hq => own_ge ho q hq)
   have HR : Hid _ := hr
   clear ho ho2 hr hg hbb hB1 hone hnm hln hb
   go_wp2_with (at_builtin; refine wpList_app rfl (.tmp 19) (.tmp 32) 59 rfl _ _ _ (by simp [Act.eval]) (by simp [Act.eval]) _ HR.out ?_)
   go_roundw
   case rel => exact ⟨i + 1, _, by omega, rfl, by go_num, HO2.out, HB2.out⟩
   case measure => simp [intOf]; omega
  ·obtain rfl : ne = i := by omega
   have hlt' : ¬ (ne : Int) < (ne : Int) := by omega
   have ho' : wr.ownsRow w.heap.size 70 2 vo ne (enV es) := by rw [List.take_of_length_le (by rw [HNE.out]; exact Nat.le_refl _)] at ho; exact ho
   have HO : Hid _ := ho'
   clear ho ho' hb
   go_wp2_with fail
   go_ret
   exact ⟨_, rfl, HO.out, HB.out⟩
def RVf (kt : Nat → Int) (T : TT) (bl : Nat → ByteArray) (rd : Nat → Bool) (un : List Nat) (w : World) (e : Ending) (w' : World) : Prop :=
 ∃ a b c d u : Value, e = .returned (.agg (repC a b c d u)) ∧ Below w.heap.size w w' ∧ w'.ownsRow w.heap.size 3 1 a un.length (unV un) ∧ w'.ownsRow w.heap.size 3 1 b (abF rd T.L.V).length (unV (abF rd T.L.V)) ∧ w'.ownsRow w.heap.size 3 1 c (baF kt T bl T.L.ns).length (unV (baF kt T bl T.L.ns)) ∧ w'.ownsRow w.heap.size 3 1 d (fsF kt T bl 1 T.L.ns).length (unV (fsF kt T bl 1 T.L.ns)) ∧ w'.ownsRow w.heap.size 3 1 u (fsF kt T bl 2 T.L.ns).length (unV (fsF kt T bl 2 T.L.ns))
theorem take_one (un : List Nat) (i : Nat) (h : i < un.length) : un.take (i + 1) = un.take i ++ [un.getD i 0] := by
 rw [List.take_add_one, List.getElem?_eq_getElem h, List.getD_eq_getElem?_getD, List.getElem?_eq_getElem h]
 rfl
def inV (hp : List (ByteArray × Nat)) (v k : Nat) : Bool := (hp.take k).any fun x => decide ((tT x.1).num = v)
theorem inV_step (hp : List (ByteArray × Nat)) (v k : Nat) (x : ByteArray × Nat) (h : hp[k]? = some x) : inV hp v (k + 1) = (inV hp v k || decide ((tT x.1).num = v)) := by
 unfold inV
 rw [List.take_add_one, h, List.any_append]
 simp
theorem inV_all {hp : List (ByteArray × Nat)} {rd : Nat → Bool} (hrd : ∀ v, rd v = true ↔ ∃ x ∈ hp.map Prod.fst, (tT x).num = v) (v : Nat) : inV hp v hp.length = rd v := by
 unfold inV
 rw [List.take_length]
 have h1 : (hp.any fun x => decide ((tT x.1).num = v)) = true ↔ rd v = true := by
  rw [List.any_eq_true, hrd]
  constructor
  ·rintro ⟨x, hx, e⟩
   exact ⟨x.1, List.mem_map.2 ⟨x, hx, rfl⟩, of_decide_eq_true e⟩
  ·rintro ⟨y, hy, e⟩
   obtain ⟨x, hx, rfl⟩ := List.mem_map.1 hy
   exact ⟨x, hx, decide_eq_true e⟩
 cases h : rd v with
 | true => exact h1.2 h
 | false =>
  cases h2 : (hp.any fun x => decide ((tT x.1).num = v)) with
  | true => rw [h1.1 h2] at h; cases h
  | false => rfl
theorem set5 {w0 w : World} {r0 : Nat} {cs : Array Value} (h : w.heap[r0]? = some (.cells cs 99 (0, 0))) (hr : w0.heap.size ≤ r0) (hb : Below w0.heap.size w0 w) (i : Nat) (v : Value) : (w.setCell ⟨r0, i, none⟩ v).heap[r0]? = some (.cells (cs.setIfInBounds i v) 99 (0, 0)) ∧ Below w0.heap.size w0 (w.setCell ⟨r0, i, none⟩ v) ∧ (∀ (j : Nat) (c : Array Value) (t : TypeId), t ≠ 99 → w.heap[j]? = some (.cells c t (0, 0)) → (w.setCell ⟨r0, i, none⟩ v).heap[j]? = some (.cells c t (0, 0))) :=
 ⟨set_heap _ _ _ _ _ _ _ h, hb.setCell (p := ⟨r0, i, none⟩) hr _, fun j c t ht hj => by rw [set_other _ _ _ _ _ (row_ne hj h ht)]; exact hj⟩
theorem rverify (kt : Nat → Int) (B v : Nat) (vH vU : Value) (hp : List (ByteArray × Nat)) (un : List Nat) (t0 : ByteArray) (w : World) (H : RB kt B v vH vU hp un w) (hS : RSet kt t0 (hp.map Prod.fst)) (hG : Gr kt w) (hl : hp.length ≤ 100000000) (hul : un.length ≤ 100000000) (rd : Nat → Bool) (hrd : ∀ v, rd v = true ↔ ∃ x ∈ hp.map Prod.fst, (tT x).num = v) :
  Calls Tryz.prog 162 #[.pointer (some ⟨v, 0, none⟩)] w fun e w' => RVf kt (tT t0) (blH (hp.map Prod.fst)) rd un w e w' := by
 have hT : Told1 (tT t0) := ck_ok (rd_none (hS.rd t0 hS.mem0)).2.1
 obtain ⟨bl, hbl⟩ : ∃ x, blH (hp.map Prod.fst) = x := ⟨_, rfl⟩
 obtain ⟨T, hTe⟩ : ∃ x, tT t0 = x := ⟨_, rfl⟩
 have HGD : Hid (∀ (X : World) (x : Nat), Below w.heap.size w X → x < (tT t0).L.cnt → Calls Tryz.prog 208 #[.pointer (some ⟨v, 0, none⟩), .int .i64 x] X fun e w' => GoD kt t0 (hp.map Prod.fst) x X e w') := fun X x hX hx => rgood kt B v _ vU hp un t0 x X (H.low hX) hS (hG.below hX) hx hl
 have HSN : Hid (∀ X : World, Below w.heap.size w X → Calls Tryz.prog 209 #[.pointer (some ⟨v, 0, none⟩)] X fun e w' => e = .returned (.int .i64 ((tT t0).L.ns : Nat)) ∧ Below X.heap.size X w') := fun X hX => rstripes kt B v _ vU hp un t0 X (H.low hX) hS
 have HST : Hid (∀ (X : World) (s : Nat), Below w.heap.size w X → s < (tT t0).L.ns → Calls Tryz.prog 210 #[.pointer (some ⟨v, 0, none⟩), .int .i64 s] X fun e w' => StD kt (tT t0) (blH (hp.map Prod.fst)) s X e w') := fun X s hX hs => rstripe kt B v _ vU hp un t0 s X (H.low hX) hS (hG.below hX) hs hl
 unfold GoD at HGD
 rw [hbl, hTe] at HGD HST
 rw [hTe] at HSN
 obtain ⟨h0, g0, cH, rfl, hm, c0, c1, hh⟩ := H.top hS
 obtain ⟨_, _, _, d3⟩ := hh.nums
 obtain ⟨aL, cL, d7, _⟩ := hh.leaves
 have hoU := H.oU
 obtain ⟨aU, cU, rfl⟩ := own_shape hoU
 have c9 : w.cell? ⟨v, 1, none⟩ = some (.slice aU un.length cU) := cell_of_row _ _ _ _ 209 _ H.row
 obtain ⟨m, hme⟩ : ∃ x, hp.length = x := ⟨_, rfl⟩
 obtain ⟨nu, hnu⟩ : ∃ x, un.length = x := ⟨_, rfl⟩
 have HPT : Hid (∀ (X : World) (j : Nat) (x : ByteArray × Nat), Below w.heap.size w X → hp[j]? = some x → X.cell? ⟨g0, j, none⟩ = some (.pointer (some ⟨x.2, 0, none⟩)) ∧ X.cell? ⟨x.2, 6, none⟩ = some (.int .i64 ((tT x.1).num : Nat))) := fun X j x hX hx => by
  have hR := H.low hX
  have hl2 : hp.length = (hp.map Prod.snd).length := by simp
  have hoH := hR.oH
  rw [hl2] at hoH
  obtain ⟨g, e, hc⟩ := ptV_cell hoH (i := j) (x := x.2) (by rw [List.getElem?_map, hx]; rfl)
  cases e
  exact ⟨hc, (hR.hd x (List.mem_of_getElem? hx)).cells.1⟩
 have HUN : Hid (∀ (X : World) (j : Nat), Below w.heap.size w X → j < nu → ∃ g, aU = some ⟨g, 0, none⟩ ∧ X.cell? ⟨g, j, none⟩ = some (.int .i64 (un.getD j 0 : Nat))) := fun X j hX hj => by
  have hoU' := own_kept hoU (fun q hq => hX.block q (own_lt hoU q hq))
  exact own_ir hoU' rfl j (by omega)
 rw [hme] at c0 hm hl
 rw [hnu] at c9 hul
 rw [hTe] at hT d3 d7
 rw [hbl, hTe]
 have hcnt := hT.cnt; have hv16 := hT.v16
 obtain ⟨V, hVe⟩ : ∃ x, T.L.V = x := ⟨_, rfl⟩
 obtain ⟨cnt, hcn⟩ : ∃ x, T.L.cnt = x := ⟨_, rfl⟩
 obtain ⟨ns, hne⟩ : ∃ x, T.L.ns = x := ⟨_, rfl⟩
 have hbaN : baN kt T bl cnt = baF kt T bl ns := by rw [← hcn, ← hne, ← baN_eq kt T bl T.L.ns]; rfl
 have hnsb : ns ≤ 512 := by
  have h1 : T.L.ns * 1 ≤ T.L.ns * (T.L.K + T.L.M) := Nat.mul_le_mul_left _ (by have := hT.k1; omega)
  have h2 : T.L.ns * (T.L.K + T.L.M) = cnt := hcn
  omega
 rw [hVe] at d3 hv16
 rw [hcn] at d7 hcnt HGD
 rw [hne] at HSN HST
 have HV : Hid (∀ X : World, Below w.heap.size w X → X.cell? ⟨v, 0, none⟩ = some (.slice (some ⟨g0, 0, none⟩) m cH) ∧ X.cell? ⟨v, 1, none⟩ = some (.slice aU nu cU) ∧ X.cell? ⟨g0, 0, none⟩ = some (.pointer (some ⟨h0, 0, none⟩)) ∧ X.cell? ⟨h0, 3, none⟩ = some (.int .i64 V) ∧ X.cell? ⟨h0, 7, none⟩ = some (.slice aL cnt cL)) := fun X hX =>
  ⟨(hX.cell (p := ⟨v, 0, none⟩) (block_lt_of_cell c0)).trans c0, (hX.cell (p := ⟨v, 1, none⟩) (block_lt_of_cell c9)).trans c9, (hX.cell (p := ⟨g0, 0, none⟩) (block_lt_of_cell c1)).trans c1, (hX.cell (p := ⟨h0, 3, none⟩) (block_lt_of_cell d3)).trans d3, (hX.cell (p := ⟨h0, 7, none⟩) (block_lt_of_cell d7)).trans d7⟩
 have HIN : Hid (∀ x, inV hp x m = rd x) := fun x => by rw [← hme]; exact inV_all hrd x
 have HME : Hid (hp.length = m) := hme
 have HNU : Hid (un.length = nu) := hnu
 have HBN : Hid _ := hbaN
 have HVE : Hid (T.L.V = V) := hVe
 have HNE : Hid (T.L.ns = ns) := hne
 have hm' : (0 : Int) < (m : Int) := by omega
 obtain ⟨W1, hW1⟩ : ∃ W, w.alloc (.cells nil5 99) = W := ⟨_, rfl⟩
 obtain ⟨W2, hW2⟩ : ∃ W, W1.alloc (.cells nil5 99) = W := ⟨_, rfl⟩
 obtain ⟨r0, hr0⟩ : ∃ x, w.heap.size = x := ⟨_, rfl⟩
 obtain ⟨r, hr⟩ : ∃ x, W1.heap.size = x := ⟨_, rfl⟩
 have D0 : Hid (DR w r0 r [(.slice none 0 0, []), (.slice none 0 0, []), (.slice none 0 0, []), (.slice none 0 0, []), (.slice none 0 0, [])] W2) := by
  have hb1 : Below w.heap.size w W1 := by rw [← hW1]; exact (Below.refl _ _).alloc (Nat.le_refl _) _
  have hb2 : Below W1.heap.size W1 W2 := by rw [← hW2]; exact (Below.refl _ _).alloc (Nat.le_refl _) _
  have e1 : W1.heap[r0]? = some (.cells nil5 99 (0, 0)) := by rw [← hW1, ← hr0]; exact heap_alloc_new _ _
  have hlt : r0 < W1.heap.size := (Array.getElem?_eq_some_iff.1 e1).1
  refine ⟨⟨?_, fun x hx => ?_, ?_, fun x hx j hj hF => hF⟩, (hb2.block r0 hlt).trans e1, by omega, ⟨Nat.le_of_eq hr0, by rw [← hr]; exact hb1.size⟩, hb1.trans (hb2.mono hb1.size)⟩
  ·rw [← hW2, ← hr]; exact heap_alloc_new _ _
  ·have : x = (.slice none 0 0, []) := by simp at hx; exact hx
   subst this
   exact own_nil _ _
  ·simp [apt_nil]
 have hW1' : w.alloc (.cells #[.slice none 0 0, .slice none 0 0, .slice none 0 0, .slice none 0 0, .slice none 0 0] 99) = W1 := hW1
 have hW2' : W1.alloc (.cells #[.slice none 0 0, .slice none 0 0, .slice none 0 0, .slice none 0 0, .slice none 0 0] 99) = W2 := hW2
 clear H hS hG hT hh hTe hbl c0 c1 d3 d7 c9 hoU hme hnu hVe hcn hne hbaN hrd hW1 hW2
 go_enter Tryz.func162, Tryz.ntmps162
 go_wp2_with fail
 clear hW1' hW2' hr0 hr
 go_loopw [4] (fun iv wr => ∃ (i : Nat) (vu : Value), i ≤ nu ∧ iv = .int .i64 i ∧ DR w r0 r [(vu, un.take i), (.slice none 0 0, []), (.slice none 0 0, []), (.slice none 0 0, []), (.slice none 0 0, [])] wr) (fun iv _ => nu - (intOf iv).toNat)
 case atStart => exact ⟨0, _, Nat.zero_le _, rfl, D0.out⟩
 case round =>
  obtain ⟨i, vu, hi, rfl, hD⟩ := hrel
  have HD : Hid (DR w r0 r [(vu, un.take i), (.slice none 0 0, []), (.slice none 0 0, []), (.slice none 0 0, []), (.slice none 0 0, [])] wr) := hD
  obtain ⟨y0, y9, y1, y3, y7⟩ := HV.out wr hD.bel
  by_cases hlt : i < nu
  ·have hlt' : (i : Int) < (nu : Int) := by omega
   have hil : i < un.length := by rw [HNU.out]; exact hlt
   obtain ⟨gU, rfl, x0⟩ := HUN.out wr i hD.bel hlt
   have HTK : Hid _ := take_one un i hil
   have htl : (un.take i).length = i := by rw [List.length_take]; omega
   obtain ⟨x, hx⟩ : ∃ x, un.getD i 0 = x := ⟨_, rfl⟩
   rw [hx] at x0 HTK
   obtain ⟨v', w2, hrun, hD2, hrow2, ⟨au, cu, rfl⟩, ⟨au', cu', rfl⟩⟩ := DR.oneD (l1 := []) x hD (by omega)
   have p0 : wr.cell? ⟨r, 0, none⟩ = some (.slice au (un.take i).length cu) := cell_of_row _ _ _ _ 99 _ hD.rl.row
   have pz : (wr.alloc (.cells #[.int .i64 x] 3)).cell? ⟨r, 0, none⟩ = some (.slice au (un.take i).length cu) := by rw [World.cell?_alloc_lt _ _ _ (block_lt_of_cell p0)]; exact p0
   have q0 : w2.cell? ⟨r, 0, none⟩ = some (.slice au (un.take i).length cu) := cell_of_row _ _ _ _ 99 _ hrow2
   have q9 : w2.frozen? ⟨r, 0, none⟩ = false := frozen_of_row _ _ _ _ 99 hrow2
   have HR : Hid _ := hrun
   have HD2 : Hid (DR w r0 r [(.slice au' ((un.take i).length + 1) cu', un.take (i + 1)), (.slice none 0 0, []), (.slice none 0 0, []), (.slice none 0 0, []), (.slice none 0 0, [])] (w2.setCell ⟨r, 0, none⟩ (.slice au' ((un.take i).length + 1) cu'))) := by rw [HTK.out]; exact hD2
   clear hD hD2 hrun hrow2 hx
   rw [htl] at p0 pz q0 HR HD2
   clear htl
   go_wp2_with fail
   go_region_law (refine step_app rfl (.tmp 24) (.tmp 32) 39 rfl _ _ _ (by simp [Act.eval]) (by simp [Act.eval]) _ HR.out ?_)
   all_goals go_wp2_with fail
   all_goals go_roundw
   all_goals first | exact ⟨i + 1, _, by omega, by go_num, HD2.out⟩ | (simp [intOf]; omega)
  ·obtain rfl : nu = i := by omega
   have hlt' : ¬ (nu : Int) < (nu : Int) := by omega
   have HD1 : Hid (DR w r0 r [(vu, un), (.slice none 0 0, []), (.slice none 0 0, []), (.slice none 0 0, []), (.slice none 0 0, [])] wr) := by
    have := hD
    rw [List.take_of_length_le (Nat.le_of_eq HNU.out)] at this
    exact this
   clear hD HD
   go_wp2_with fail
   clear y0 y9 y1 y3 y7
   go_loopw [5, 6, 7] (fun iv _ _ wr => ∃ (i : Nat) (va : Value), i ≤ V ∧ iv = .int .i64 i ∧ DR w r0 r [(vu, un), (va, abF rd i), (.slice none 0 0, []), (.slice none 0 0, []), (.slice none 0 0, [])] wr) (fun iv _ _ _ => V - (intOf iv).toNat)
   case atStart => exact ⟨0, _, Nat.zero_le _, rfl, HD1.out⟩
   case round =>
    obtain ⟨i, va, hi, rfl, hD⟩ := hrel
    have HD : Hid (DR w r0 r [(vu, un), (va, abF rd i), (.slice none 0 0, []), (.slice none 0 0, []), (.slice none 0 0, [])] wr) := hD
    obtain ⟨y0, y9, y1, y3, y7⟩ := HV.out wr hD.bel
    by_cases hlt : i < V
    ·have hlt' : (i : Int) < (V : Int) := by omega
     clear hD
     go_wp2_with fail
     clear y0 y9 y1 y3 y7
     go_loopw [6, 7] (fun bv kv wr => ∃ k : Nat, k ≤ m ∧ kv = .int .i64 k ∧ bv = .bool (inV hp i k) ∧ DR w r0 r [(vu, un), (va, abF rd i), (.slice none 0 0, []), (.slice none 0 0, []), (.slice none 0 0, [])] wr) (fun _ kv _ => m - (intOf kv).toNat)
     case atStart => exact ⟨0, Nat.zero_le _, rfl, rfl, HD.out⟩
     case round =>
      obtain ⟨k, hk, rfl, rfl, hD⟩ := hrel
      have HDk : Hid (DR w r0 r [(vu, un), (va, abF rd i), (.slice none 0 0, []), (.slice none 0 0, []), (.slice none 0 0, [])] wr) := hD
      obtain ⟨y0, y9, y1, y3, y7⟩ := HV.out wr hD.bel
      by_cases hkm : k < m
      ·have hkm' : (k : Int) < (m : Int) := by omega
       obtain ⟨x, hx⟩ : ∃ x, hp[k]? = some x := ⟨_, List.getElem?_eq_getElem (by rw [HME.out]; exact hkm)⟩
       have HIS : Hid _ := inV_step hp i k x hx
       cases hin : inV hp i k with
       | true =>
        have HNX : Hid (inV hp i (k + 1) = true) := by show _ = _; rw [HIS.out, hin]; rfl
        clear hD hin hx
        go_wp2_with fail
        go_roundw
        case rel => exact ⟨k + 1, by omega, by go_num, by rw [HNX.out], HDk.out⟩
        case measure => simp [intOf]; omega
       | false =>
        obtain ⟨x0, x1⟩ := HPT.out wr k x hD.bel hx
        obtain ⟨nx, hnx⟩ : ∃ y, (tT x.1).num = y := ⟨_, rfl⟩
        rw [hnx] at x1
        by_cases hq : nx = i
        ·have q1 : ((nx : Int) == (i : Int)) = true := by simp; omega
         have HNX : Hid (inV hp i (k + 1) = true) := by show _ = _; rw [HIS.out, hin, hnx, decide_eq_true hq]; rfl
         clear hD hin hx hnx hq
         go_wp2_with fail
         go_roundw
         case rel => exact ⟨k + 1, by omega, by go_num, by rw [HNX.out], HDk.out⟩
         case measure => simp [intOf]; omega
        ·have q1 : ((nx : Int) == (i : Int)) = false := by simp; omega
         have HNX : Hid (inV hp i (k + 1) = false) := by show _ = _; rw [HIS.out, hin, hnx, decide_eq_false hq]; rfl
         clear hD hin hx hnx hq
         go_wp2_with fail
         go_roundw
         case rel => exact ⟨k + 1, by omega, by go_num, by rw [HNX.out], HDk.out⟩
         case measure => simp [intOf]; omega
      ·obtain rfl : m = k := by omega
       have hkm' : ¬ (m : Int) < (m : Int) := by omega
       rw [HIN.out i]
       cases hrd : rd i with
       | true =>
        have HAB : Hid (abF rd (i + 1) = abF rd i) := by show _ = _; rw [abF, if_pos hrd]
        clear hD hrd
        go_wp2_with fail
        go_roundw
        case rel => exact ⟨i + 1, va, by omega, by go_num, by rw [HAB.out]; exact HDk.out⟩
        case measure => simp [intOf]; omega
       | false =>
        have HAB : Hid (abF rd (i + 1) = abF rd i ++ [i]) := by show _ = _; rw [abF, if_neg (by rw [hrd]; simp)]
        have hal := abF_len rd i
        obtain ⟨v', w2, hrun, hD2, hrow2, ⟨au, cu, rfl⟩, ⟨au', cu', rfl⟩⟩ := DR.one (l1 := [(vu, un)]) i hD (by omega)
        obtain ⟨la, hla⟩ : ∃ x, (abF rd i).length = x := ⟨_, rfl⟩
        have p0 : wr.cell? ⟨r, 1, none⟩ = some (.slice au (abF rd i).length cu) := cell_of_row _ _ _ _ 99 _ hD.rl.row
        have q0 : w2.cell? ⟨r, 1, none⟩ = some (.slice au (abF rd i).length cu) := cell_of_row _ _ _ _ 99 _ hrow2
        have q9 : w2.frozen? ⟨r, 1, none⟩ = false := frozen_of_row _ _ _ _ 99 hrow2
        have HR : Hid _ := hrun
        have HD2 : Hid (DR w r0 r [(vu, un), (.slice au' ((abF rd i).length + 1) cu', abF rd (i + 1)), (.slice none 0 0, []), (.slice none 0 0, []), (.slice none 0 0, [])] (w2.setCell ⟨r, 1, none⟩ (.slice au' ((abF rd i).length + 1) cu'))) := by rw [HAB.out]; exact hD2
        rw [hla] at p0 q0 HR HD2
        clear hD hD2 hrun hrow2 hrd hal hla
        go_wp2_with (at_builtin; refine wpList_app rfl (.tmp 76) (.tmp 78) 39 rfl _ _ _ (by simp [Act.eval]) (by simp [Act.eval]) _ HR.out ?_)
        go_roundw
        case rel => exact ⟨i + 1, _, by omega, by go_num, HD2.out⟩
        case measure => simp [intOf]; omega
    ·obtain rfl : V = i := by omega
     have hlt' : ¬ (V : Int) < (V : Int) := by omega
     clear hD
     go_wp2_with fail
     clear y0 y9 y1 y3 y7
     go_loopw [8, 9, 10] (fun iv _ _ wr => ∃ (i : Nat) (vb : Value), i ≤ cnt ∧ iv = .int .i64 i ∧ DR w r0 r [(vu, un), (va, abF rd V), (vb, baN kt T bl i), (.slice none 0 0, []), (.slice none 0 0, [])] wr) (fun iv _ _ _ => cnt - (intOf iv).toNat)
     case atStart => exact ⟨0, _, Nat.zero_le _, rfl, HD.out⟩
     case round =>
      obtain ⟨i, vb, hi, rfl, hD⟩ := hrel
      have HDb : Hid (DR w r0 r [(vu, un), (va, abF rd V), (vb, baN kt T bl i), (.slice none 0 0, []), (.slice none 0 0, [])] wr) := hD
      obtain ⟨y0, y9, y1, y3, y7⟩ := HV.out wr hD.bel
      by_cases hlt : i < cnt
      ·have hlt' : (i : Int) < (cnt : Int) := by omega
       have HGI : Hid _ := HGD.out wr i hD.bel hlt
       clear hD
       go_wp2_with fail
       refine Calls.mono HGI.out ?_
       rintro e w1 ⟨rfl, hb1⟩
       have hD1 := HDb.out.below hb1
       have HD1' : Hid (DR w r0 r [(vu, un), (va, abF rd V), (vb, baN kt T bl i), (.slice none 0 0, []), (.slice none 0 0, [])] w1) := hD1
       clear hb1 HGI y0 y9 y1 y3 y7
       cases hg : goodB kt T.L.C T.lv i (bl i) with
       | true =>
        have HAB : Hid (baN kt T bl (i + 1) = baN kt T bl i) := by show _ = _; rw [baN, if_pos hg]
        clear hD1 hg
        go_wp2_with fail
        go_roundw
        case rel => exact ⟨i + 1, vb, by omega, by go_num, by rw [HAB.out]; exact HD1'.out⟩
        case measure => simp [intOf]; omega
       | false =>
        have HAB : Hid (baN kt T bl (i + 1) = baN kt T bl i ++ [i]) := by show _ = _; rw [baN, if_neg (by rw [hg]; simp)]
        have hal := baN_len kt T bl i
        obtain ⟨v', w2, hrun, hD2, hrow2, ⟨au, cu, rfl⟩, ⟨au', cu', rfl⟩⟩ := DR.one (l1 := [(vu, un), (va, abF rd V)]) i hD1 (by omega)
        obtain ⟨la, hla⟩ : ∃ x, (baN kt T bl i).length = x := ⟨_, rfl⟩
        have p0 : w1.cell? ⟨r, 2, none⟩ = some (.slice au (baN kt T bl i).length cu) := cell_of_row _ _ _ _ 99 _ hD1.rl.row
        have q0 : w2.cell? ⟨r, 2, none⟩ = some (.slice au (baN kt T bl i).length cu) := cell_of_row _ _ _ _ 99 _ hrow2
        have q9 : w2.frozen? ⟨r, 2, none⟩ = false := frozen_of_row _ _ _ _ 99 hrow2
        have HR : Hid _ := hrun
        have HD2 : Hid (DR w r0 r [(vu, un), (va, abF rd V), (.slice au' ((baN kt T bl i).length + 1) cu', baN kt T bl (i + 1)), (.slice none 0 0, []), (.slice none 0 0, [])] (w2.setCell ⟨r, 2, none⟩ (.slice au' ((baN kt T bl i).length + 1) cu'))) := by rw [HAB.out]; exact hD2
        rw [hla] at p0 q0 HR HD2
        clear hD1 hD2 hrun hrow2 hg hal hla
        go_wp2_with (at_builtin; refine wpList_app rfl (.tmp 104) (.tmp 106) 39 rfl _ _ _ (by simp [Act.eval]) (by simp [Act.eval]) _ HR.out ?_)
        go_roundw
        case rel => exact ⟨i + 1, _, by omega, by go_num, HD2.out⟩
        case measure => simp [intOf]; omega
      ·obtain rfl : cnt = i := by omega
       have hlt' : ¬ (cnt : Int) < (cnt : Int) := by omega
       clear hD
       go_wp2_with fail
       clear y0 y9 y1 y3 y7
       go_loopw [11, 12, 13] (fun iv _ _ wr => ∃ (s : Nat) (vs vf : Value), s ≤ ns ∧ iv = .int .i64 s ∧ DR w r0 r [(vu, un), (va, abF rd V), (vb, baN kt T bl cnt), (vs, fsF kt T bl 1 s), (vf, fsF kt T bl 2 s)] wr) (fun iv _ _ _ => ns - (intOf iv).toNat)
       case atStart => exact ⟨0, _, _, Nat.zero_le _, rfl, HDb.out⟩
       case round =>
        obtain ⟨s, vs, vf, hi, rfl, hD⟩ := hrel
        have HDs : Hid _ := hD
        have HSI : Hid _ := HSN.out wr hD.bel
        clear hD
        go_wp2_with fail
        refine Calls.mono HSI.out ?_
        rintro e w1 ⟨rfl, hb1⟩
        have hD1 := DR.below HDs.out hb1
        have HD1' : Hid _ := hD1
        clear hb1 HSI
        by_cases hlt : s < ns
        ·have hlt' : (s : Int) < (ns : Int) := by omega
         have HSQ : Hid _ := HST.out w1 s hD1.bel hlt
         clear hD1
         go_wp2_with fail
         refine Calls.mono HSQ.out ?_
         rintro e w3 ⟨ov, rfl, hb3, _⟩
         have hD3 := DR.below HD1'.out hb3
         have HD3 : Hid _ := hD3
         clear hb3 HSQ
         obtain ⟨fa, hfa⟩ : ∃ x, stF kt T bl s = x := ⟨_, rfl⟩
         rw [hfa]
         have h1l := fsF_len kt T bl 1 s
         have h2l := fsF_len kt T bl 2 s
         by_cases f1 : fa = 1
         ·subst f1
          have HA1 : Hid (fsF kt T bl 1 (s + 1) = fsF kt T bl 1 s ++ [s] ∧ fsF kt T bl 2 (s + 1) = fsF kt T bl 2 s) := ⟨by rw [fsF, if_pos hfa], by rw [fsF, if_neg (by omega)]⟩
          obtain ⟨v', w2, hrun, hD2, hrow2, ⟨au, cu, rfl⟩, ⟨au', cu', rfl⟩⟩ := DR.one (l1 := [(vu, un), (va, abF rd V), (vb, baN kt T bl cnt)]) s hD3 (by omega)
          obtain ⟨la, hla⟩ : ∃ x, (fsF kt T bl 1 s).length = x := ⟨_, rfl⟩
          have p0 : w3.cell? ⟨r, 3, none⟩ = some (.slice au (fsF kt T bl 1 s).length cu) := cell_of_row _ _ _ _ 99 _ hD3.rl.row
          have q0 : w2.cell? ⟨r, 3, none⟩ = some (.slice au (fsF kt T bl 1 s).length cu) := cell_of_row _ _ _ _ 99 _ hrow2
          have q9 : w2.frozen? ⟨r, 3, none⟩ = false := frozen_of_row _ _ _ _ 99 hrow2
          have HR : Hid _ := hrun
          have HD2 : Hid (DR w r0 r [(vu, un), (va, abF rd V), (vb, baN kt T bl cnt), (.slice au' ((fsF kt T bl 1 s).length + 1) cu', fsF kt T bl 1 (s + 1)), (vf, fsF kt T bl 2 (s + 1))] (w2.setCell ⟨r, 3, none⟩ (.slice au' ((fsF kt T bl 1 s).length + 1) cu'))) := by rw [HA1.out.1, HA1.out.2]; exact hD2
          rw [hla] at p0 q0 HR HD2
          clear hD3 hD2 hrun hrow2 hla hfa h1l h2l HA1
          go_wp2_with (at_builtin; refine wpList_app rfl (.tmp 124) (.tmp 126) 39 rfl _ _ _ (by simp [Act.eval]) (by simp [Act.eval]) _ HR.out ?_)
          go_roundw
          case rel => exact ⟨s + 1, _, _, by omega, by go_num, HD2.out⟩
          case measure => simp [intOf]; omega
         ·by_cases f2 : fa = 2
          ·subst f2
           have HA1 : Hid (fsF kt T bl 2 (s + 1) = fsF kt T bl 2 s ++ [s] ∧ fsF kt T bl 1 (s + 1) = fsF kt T bl 1 s) := ⟨by rw [fsF, if_pos hfa], by rw [fsF, if_neg (by omega)]⟩
           obtain ⟨v', w2, hrun, hD2, hrow2, ⟨au, cu, rfl⟩, ⟨au', cu', rfl⟩⟩ := DR.one (l1 := [(vu, un), (va, abF rd V), (vb, baN kt T bl cnt), (vs, fsF kt T bl 1 s)]) s hD3 (by omega)
           obtain ⟨la, hla⟩ : ∃ x, (fsF kt T bl 2 s).length = x := ⟨_, rfl⟩
           have p0 : w3.cell? ⟨r, 4, none⟩ = some (.slice au (fsF kt T bl 2 s).length cu) := cell_of_row _ _ _ _ 99 _ hD3.rl.row
           have q0 : w2.cell? ⟨r, 4, none⟩ = some (.slice au (fsF kt T bl 2 s).length cu) := cell_of_row _ _ _ _ 99 _ hrow2
           have q9 : w2.frozen? ⟨r, 4, none⟩ = false := frozen_of_row _ _ _ _ 99 hrow2
           have HR : Hid _ := hrun
           have HD2 : Hid (DR w r0 r [(vu, un), (va, abF rd V), (vb, baN kt T bl cnt), (vs, fsF kt T bl 1 (s + 1)), (.slice au' ((fsF kt T bl 2 s).length + 1) cu', fsF kt T bl 2 (s + 1))] (w2.setCell ⟨r, 4, none⟩ (.slice au' ((fsF kt T bl 2 s).length + 1) cu'))) := by rw [HA1.out.1, HA1.out.2]; exact hD2
           rw [hla] at p0 q0 HR HD2
           clear hD3 hD2 hrun hrow2 hla hfa h1l h2l HA1 f1
           go_wp2_with (at_builtin; refine wpList_app rfl (.tmp 132) (.tmp 134) 39 rfl _ _ _ (by simp [Act.eval]) (by simp [Act.eval]) _ HR.out ?_)
           go_roundw
           case rel => exact ⟨s + 1, _, _, by omega, by go_num, HD2.out⟩
           case measure => simp [intOf]; omega
          ·have g1 : ((fa : Int) == 1) = false := by simp; omega
           have g2 : ((fa : Int) == 2) = false := by simp; omega
           have HD4 : Hid (DR w r0 r [(vu, un), (va, abF rd V), (vb, baN kt T bl cnt), (vs, fsF kt T bl 1 (s + 1)), (vf, fsF kt T bl 2 (s + 1))] w3) := by
            show DR _ _ _ _ _
            rw [fsF, if_neg (by omega), fsF, if_neg (by omega)]
            exact hD3
           clear hD3 hfa h1l h2l f1 f2
           go_wp2_with fail
           go_roundw
           case rel => exact ⟨s + 1, _, _, by omega, by go_num, HD4.out⟩
           case measure => simp [intOf]; omega
        ·obtain rfl : ns = s := by omega
         have hlt' : ¬ (ns : Int) < (ns : Int) := by omega
         have hR := hD1.rl
         obtain ⟨a1, k1, e1⟩ := own_shape (hR.own (vu, un) (by simp))
         obtain ⟨a2, k2, e2⟩ := own_shape (hR.own (va, abF rd V) (by simp))
         obtain ⟨a3, k3, e3⟩ := own_shape (hR.own (vb, baN kt T bl cnt) (by simp))
         obtain ⟨a4, k4, e4⟩ := own_shape (hR.own (vs, fsF kt T bl 1 ns) (by simp))
         obtain ⟨a5, k5, e5⟩ := own_shape (hR.own (vf, fsF kt T bl 2 ns) (by simp))
         simp only [] at e1 e2 e3 e4 e5
         subst e1 e2 e3 e4 e5
         obtain ⟨n1, l1⟩ : ∃ x, un.length = x := ⟨_, rfl⟩
         obtain ⟨n2, l2⟩ : ∃ x, (abF rd V).length = x := ⟨_, rfl⟩
         obtain ⟨n3, l3⟩ : ∃ x, (baN kt T bl cnt).length = x := ⟨_, rfl⟩
         obtain ⟨n4, l4⟩ : ∃ x, (fsF kt T bl 1 ns).length = x := ⟨_, rfl⟩
         obtain ⟨n5, l5⟩ : ∃ x, (fsF kt T bl 2 ns).length = x := ⟨_, rfl⟩
         rw [l1, l2, l3, l4, l5] at hD1 HD1'
         have c0 : w1.cell? ⟨r, 0, none⟩ = some (.slice a1 n1 k1) := cell_of_row _ _ _ _ 99 _ hD1.rl.row
         have c1 : w1.cell? ⟨r, 1, none⟩ = some (.slice a2 n2 k2) := cell_of_row _ _ _ _ 99 _ hD1.rl.row
         have c2 : w1.cell? ⟨r, 2, none⟩ = some (.slice a3 n3 k3) := cell_of_row _ _ _ _ 99 _ hD1.rl.row
         have c3 : w1.cell? ⟨r, 3, none⟩ = some (.slice a4 n4 k4) := cell_of_row _ _ _ _ 99 _ hD1.rl.row
         have c4 : w1.cell? ⟨r, 4, none⟩ = some (.slice a5 n5 k5) := cell_of_row _ _ _ _ 99 _ hD1.rl.row
         have o0 : w1.cell? ⟨r0, 0, none⟩ = some (.slice none 0 0) := cell_of_row _ _ _ _ 99 _ hD1.r0R
         have o1 : w1.cell? ⟨r0, 1, none⟩ = some (.slice none 0 0) := cell_of_row _ _ _ _ 99 _ hD1.r0R
         have o2 : w1.cell? ⟨r0, 2, none⟩ = some (.slice none 0 0) := cell_of_row _ _ _ _ 99 _ hD1.r0R
         have o3 : w1.cell? ⟨r0, 3, none⟩ = some (.slice none 0 0) := cell_of_row _ _ _ _ 99 _ hD1.r0R
         have o4 : w1.cell? ⟨r0, 4, none⟩ = some (.slice none 0 0) := cell_of_row _ _ _ _ 99 _ hD1.r0R
         have fz : ∀ j, w1.frozen? ⟨r0, j, none⟩ = false := fun j => frozen_of_row _ _ _ _ 99 hD1.r0R
         have HDE : Hid (DR w r0 r [(.slice a1 n1 k1, un), (.slice a2 n2 k2, abF rd V), (.slice a3 n3 k3, baN kt T bl cnt), (.slice a4 n4 k4, fsF kt T bl 1 ns), (.slice a5 n5 k5, fsF kt T bl 2 ns)] w1) := hD1
         have HLE : Hid _ := And.intro l1 (And.intro l2 (And.intro l3 (And.intro l4 l5)))
         clear hD1 hR l1 l2 l3 l4 l5 HD1'
         go_wp2_with fail
         obtain ⟨g0', f0, k0⟩ := set5 HDE.out.r0R HDE.out.lo.1 HDE.out.bel 0 (.slice a1 n1 k1)
         obtain ⟨g1', f1, k1'⟩ := set5 g0' HDE.out.lo.1 f0 1 (.slice a2 n2 k2)
         obtain ⟨g2', f2, k2'⟩ := set5 g1' HDE.out.lo.1 f1 2 (.slice a3 n3 k3)
         obtain ⟨g3', f3, k3'⟩ := set5 g2' HDE.out.lo.1 f2 3 (.slice a4 n4 k4)
         obtain ⟨g4', f4, k4'⟩ := set5 g3' HDE.out.lo.1 f3 4 (.slice a5 n5 k5)
         have hk := fun (j : Nat) (c : Array Value) (t : TypeId) (ht : t ≠ 99) hj => k4' j c t ht (k3' j c t ht (k2' j c t ht (k1' j c t ht (k0 j c t ht hj))))
         refine bodyPost_ret (v := .agg (repC (.slice a1 n1 k1) (.slice a2 n2 k2) (.slice a3 n3 k3) (.slice a4 n4 k4) (.slice a5 n5 k5))) ?_ rfl ?_
         ·exact results_cell_row Tryz.results162 _ _ r0 99 _ (0, 0) _ rfl g4' Tryz.underlying99 rfl (by kernel_rfl)
         ·refine ⟨_, _, _, _, _, rfl, f4, ?_⟩
          rw [HVE.out, HNE.out, ← HBN.out]
          exact ⟨own_all (HDE.out.rl.own (.slice a1 n1 k1, un) (by simp)) hk, own_all (HDE.out.rl.own (.slice a2 n2 k2, abF rd V) (by simp)) hk, own_all (HDE.out.rl.own (.slice a3 n3 k3, baN kt T bl cnt) (by simp)) hk, own_all (HDE.out.rl.own (.slice a4 n4 k4, fsF kt T bl 1 ns) (by simp)) hk, own_all (HDE.out.rl.own (.slice a5 n5 k5, fsF kt T bl 2 ns) (by simp)) hk⟩
end Go.Proofs.YtadinjaocnlglaaGreatDoor
