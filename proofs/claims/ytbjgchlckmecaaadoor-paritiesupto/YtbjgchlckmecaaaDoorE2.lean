/-
  The walks of fault.At, vaultref.at, fault.Marks.
-/
import Derived.Test.YtbjgchlckmecaaaDoorE1
import Derived.Test.YtbjgchlckmecaaaDoorS12
import Derived.ArgAppend
import Derived.BigRegion
import Derived.BigQuiet
import Derived.Deep.QuietTactic
import Derived.Deep.RegionWith
import Derived.Deep.RegionHeld3
import Derived.Deep.RegionLawGrows
namespace Go.Proofs.YtbjgchlckmecaaaDoor
open Go.RowKit
set_option maxHeartbeats 400000
theorem At_any (k i : Int) (w : World) :
    Calls Tryd.prog 30 #[.int .i64 k, .int .i64 i] w fun e w' => e = .returned (.iface 94 (.pointer (some ⟨w.heap.size, 0, none⟩))) ∧ w' = w.alloc (.cells #[.int .i64 k, .int .i64 i, .nilIface] 96) := by
  go_enter Tryd.func30, Tryd.ntmps30
  go_wp2
  go_ret
  exact ⟨rfl, rfl⟩
theorem at_any (k i : Int) (w : World) :
    Calls Tryd.prog 23 #[.int .i64 k, .int .i64 i] w fun e w' => e = .returned (.slice (some ⟨w.heap.size, 0, none⟩) 1 1) ∧ w' = w.alloc (.cells #[.int .i64 k, .int .i64 i] 85) := by
  go_enter Tryd.func23, Tryd.ntmps23
  go_wp2
  go_ret
  exact ⟨rfl, rfl⟩
theorem marks_nil (w : World) :
    Calls Tryd.prog 34 #[.nilIface] w fun e w' => e = .returned (.slice (some ⟨w.heap.size, 0, none⟩) 0 0) ∧ Below w.heap.size w w' := by
  go_enter Tryd.func34, Tryd.ntmps34
  go_wp2
  refine wp_loop_rounds 1 ?_
  rw [rounds_succ]
  go_wp2_with fail
  refine (as_nil _ _).mono ?_
  rintro e w' ⟨rfl, rfl⟩
  go_wp2
  go_ret
  exact ⟨rfl, ((Below.refl _ _).alloc (Nat.le_refl _) _).alloc (by simp) _⟩
theorem info93 : (Tryd.prog.info? 85).map (fun i => (i.zero, i.size, i.bytes)) = some (some (.agg #[.int .i64 0, .int .i64 0]), 2, 16) := by kernel_rfl
theorem two_one (a b : Int) : ∀ u ∈ [Value.int .i64 a, Value.int .i64 b], u.oneCell' = true := by
  intro u hu; simp at hu; rcases hu with rfl | rfl <;> rfl
theorem two_new (w : World) (a b : Value) (t : TypeId) : ∀ j u, [a, b][j]? = some u → (w.alloc (.cells #[a, b] t)).cell? ((⟨w.heap.size, 0, none⟩ : Addr).add j) = some u := by
  intro j u hj
  have e : ((⟨w.heap.size, 0, none⟩ : Addr).add j) = ⟨w.heap.size, j, none⟩ := by simp [Addr.add]; exact fun h => h.symm
  rw [e, cell_of_row _ _ _ _ t _ (heap_alloc_new w _)]
  match j with
  | 0 => exact hj
  | 1 => exact hj
  | j + 2 => simp at hj
set_option maxHeartbeats 4000000 in
theorem marks_one (k i : Int) (e : Nat) (w : World) (hg : w.cell? ⟨0, 0, none⟩ = some (.iface 128 (.agg #[.pointer (some ⟨1, 40, none⟩)])))
    (he : w.heap[e]? = some (.cells #[.int .i64 k, .int .i64 i, .nilIface] 96 (0, 0))) :
    Calls Tryd.prog 34 #[.iface 94 (.pointer (some ⟨e, 0, none⟩))] w fun ev w' => ∃ g cap, ev = .returned (.slice (some ⟨g, 0, none⟩) 1 cap) ∧ w.heap.size ≤ g ∧ w'.cell? ⟨g, 0, none⟩ = some (.int .i64 k) ∧ w'.cell? ⟨g, 1, none⟩ = some (.int .i64 i) ∧ Below w.heap.size w w' := by
  have hlt : 0 < w.heap.size := block_lt_of_cell hg
  have hel : e < w.heap.size := (Array.getElem?_eq_some_iff.1 he).1
  have HE : Hid (w.heap[e]? = some (.cells #[.int .i64 k, .int .i64 i, .nilIface] 96 (0, 0))) := he
  have HGE : Hid _ := hg
  obtain ⟨i0, hi93, hz0, hz1, hz2⟩ := info_parts info93
  clear he hg
  go_enter Tryd.func34, Tryd.ntmps34
  go_wp2
  refine wp_loop_rounds 2 ?_
  rw [rounds_succ]
  obtain ⟨w1, hw1⟩ : ∃ w1, w1 = (w.alloc (Obj.cells #[] 85)).alloc (Obj.cells #[Value.pointer none] 94) := ⟨_, rfl⟩
  have hz : w1.heap.size = w.heap.size + 2 := by rw [hw1]; simp
  have hB1 : Below w.heap.size w w1 := by rw [hw1]; exact ((Below.refl _ _).alloc (Nat.le_refl _) _).alloc (by simp) _
  have hg1 : w1.cell? ⟨0, 0, none⟩ = some (.iface 128 (.agg #[.pointer (some ⟨1, 40, none⟩)])) := (hB1.cell (p := ⟨0, 0, none⟩) hlt).trans HGE.out
  have ht1 : w1.cell? ⟨w.heap.size + 1, 0, none⟩ = some (.pointer none) := by rw [hw1]; simp
  have hf1 : w1.frozen? ⟨w.heap.size + 1, 0, none⟩ = false := by rw [hw1]; simp
  have HH1 : Hid (w1.heap[w.heap.size + 1]? = some (.cells #[.pointer none] 94 (0, 0))) := by
    show w1.heap[w.heap.size + 1]? = some (.cells #[.pointer none] 94 (0, 0))
    rw [hw1]
    have := heap_alloc_new (w.alloc (Obj.cells #[] 85)) (Obj.cells #[Value.pointer none] 94)
    simpa using this
  have HB1 : Hid _ := hB1
  rw [← hw1]
  clear hw1 hB1
  go_wp2_with fail
  refine (as_hit ⟨e, 0, none⟩ ⟨w.heap.size + 1, 0, none⟩ (.pointer none) w1 hg1 ht1 hf1).mono ?_
  rintro ev w2 ⟨rfl, hw2⟩
  have hBa : Below w1.heap.size w1 ((((w1.alloc (.cells #[.pointer (some ⟨w.heap.size + 1, 0, none⟩)] 100)).alloc (.cells #[.pointer (some ⟨1, 100, none⟩), .pointer (some ⟨w1.heap.size, 0, none⟩), .int .u64 150] 115)).alloc (.cells #[.pointer (some ⟨1, 100, none⟩), .pointer (some ⟨w1.heap.size, 0, none⟩), .int .u64 150] 115)).alloc (.cells #[.pointer (some ⟨e, 0, none⟩)] 94)) := ((((Below.refl _ _).alloc (Nat.le_refl _) _).alloc (by simp) _).alloc (by simp; omega) _).alloc (by simp; omega) _
  have hr : ∀ W : World, W = ((((w1.alloc (.cells #[.pointer (some ⟨w.heap.size + 1, 0, none⟩)] 100)).alloc (.cells #[.pointer (some ⟨1, 100, none⟩), .pointer (some ⟨w1.heap.size, 0, none⟩), .int .u64 150] 115)).alloc (.cells #[.pointer (some ⟨1, 100, none⟩), .pointer (some ⟨w1.heap.size, 0, none⟩), .int .u64 150] 115)).alloc (.cells #[.pointer (some ⟨e, 0, none⟩)] 94)) → w2 = W.setCell ⟨w.heap.size + 1, 0, none⟩ (.pointer (some ⟨e, 0, none⟩)) → Below w.heap.size w w2 ∧ w2.cell? ⟨w.heap.size + 1, 0, none⟩ = some (.pointer (some ⟨e, 0, none⟩)) := by
    intro W hW h2
    have hB : Below w1.heap.size w1 W := by rw [hW]; exact hBa
    have hB' : Below w.heap.size w W := HB1.out.trans (hB.mono HB1.out.size)
    have hh : W.heap[w.heap.size + 1]? = some (.cells #[.pointer none] 94 (0, 0)) := by rw [hB.block _ (by omega)]; exact HH1.out
    refine ⟨by rw [h2]; exact hB'.setCell (by simp) _, ?_⟩
    rw [h2, cell_of_row _ _ _ _ 94 _ (heap_setCell_same W (w.heap.size + 1) 0 _ 94 _ hh)]
    rfl
  obtain ⟨hB2, c1⟩ := hr _ rfl hw2
  clear hw2 hBa hr hg1 ht1 hf1
  have hrow : w2.heap[e]? = some (.cells #[.int .i64 k, .int .i64 i, .nilIface] 96 (0, 0)) := by rw [hB2.block e hel]; exact HE.out
  have ce0 : w2.cell? ⟨e, 0, none⟩ = some (.int .i64 k) := cell_of_row _ _ _ _ 96 _ hrow
  have ce1 : w2.cell? ⟨e, 1, none⟩ = some (.int .i64 i) := cell_of_row _ _ _ _ 96 _ hrow
  have ce2 : w2.cell? ⟨e, 2, none⟩ = some .nilIface := cell_of_row _ _ _ _ 96 _ hrow
  have HB2 : Hid _ := hB2
  have HROW : Hid (w2.heap[e]? = some (.cells #[.int .i64 k, .int .i64 i, .nilIface] 96 (0, 0))) := hrow
  have hel2 : e < w2.heap.size := Nat.lt_of_lt_of_le hel hB2.size
  have hfl2 : w.heap.size + 1 < w2.heap.size := block_lt_of_cell c1
  clear hB2 hrow hz HB1 HH1
  go_wp2
  have hm1 : 0 + 1 ≤ maxLen := by unfold maxLen; omega
  have hne1 := World.new_ne w2 _ c1
  have hne2 := World.new_ne w2 _ ce0
  go_region_held3 (fun w' => w'.cell? ⟨w.heap.size + 1, 0, none⟩ = some (.pointer (some ⟨e, 0, none⟩)) ∧ w'.cell? ⟨e, 0, none⟩ = some (.int .i64 k) ∧ w'.cell? ⟨e, 1, none⟩ = some (.int .i64 i)) (go_keep) (first | (refine step_append_grows rfl (.tmp 9) (.tmp 19) 44 rfl 85 i0 (.agg #[.int .i64 0, .int .i64 0]) 2 16 Tryd.underlying44 hi93 hz0 hz1 hz2 rfl (by decide) (some ⟨w.heap.size, 0, none⟩) 0 0 [] (by simp [Act.eval]) (fun h => by cases h) rfl (fun b hb j u h => by simp at h) ⟨w2.heap.size, 0, none⟩ 1 1 [.int .i64 k, .int .i64 i] (by simp [Act.eval]) rfl (by exact two_new _ _ _ _) (two_one _ _) (by omega) hm1 (by omega) ?_; intro v3 w3 hown3 hgrow3; have hB3 : Below w2.heap.size w2 w3 := ((Below.refl _ _).alloc (Nat.le_refl _) _).drew.grown hgrow3 (by show w2.heap.size ≤ (w2.alloc _).heap.size; simp) (fun _ h => by cases h); have d1 := (hB3.cell (p := ⟨w.heap.size + 1, 0, none⟩) hfl2).trans c1; have d2 := (hB3.cell (p := ⟨e, 0, none⟩) hel2).trans ce0; have d3 := (hB3.cell (p := ⟨e, 1, none⟩) hel2).trans ce1))
  have d4 := (hB3.cell (p := ⟨e, 2, none⟩) hel2).trans ce2
  rcases hown3.2 with ⟨_, h'⟩ | ⟨g, cap, cur, hv, hgb, hh, _⟩
  · omega
  subst hv
  have r0 : w3.cell? ⟨g, 0, none⟩ = some (.int .i64 k) := by rw [hown3.cellAt 0 (by omega)]; rfl
  have r1 : w3.cell? ⟨g, 1, none⟩ = some (.int .i64 i) := by rw [hown3.cellAt 1 (by omega)]; rfl
  have hgw : w.heap.size ≤ g := by have h1 : w2.heap.size ≤ (w2.alloc (Obj.cells #[Value.int IntKind.i64 k, Value.int IntKind.i64 i] 85)).drew.heap.size := by show w2.heap.size ≤ (w2.alloc _).heap.size; simp
                                   have := HB2.out.size; omega
  have hB : Below w.heap.size w w3 := HB2.out.trans (hB3.mono HB2.out.size)
  clear hown3 hgrow3 hB3 hgb hh c1 ce0 ce1 ce2 hne1 hne2
  go_wp2
  rw [rounds_succ]
  go_wp2_with fail
  refine (as_nil _ _).mono ?_
  rintro ev w' ⟨rfl, rfl⟩
  go_wp2
  go_ret
  exact ⟨g, cap, rfl, hgw, r0, r1, hB⟩
end Go.Proofs.YtbjgchlckmecaaaDoor
