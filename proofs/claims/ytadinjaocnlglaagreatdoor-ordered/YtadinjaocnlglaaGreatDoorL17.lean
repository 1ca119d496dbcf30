/-
  The walk of draft's Write (nothing refused).
  The walk of draft's Begin (nothing refused): the map leads from each name to its object's block.
-/
import Derived.Test.YtadinjaocnlglaaGreatDoorL14
import Derived.Test.YtadinjaocnlglaaGreatDoorL15
import Derived.Maps.OwnSet
import Derived.Deep.RegionHeld3
namespace Go.Proofs.YtadinjaocnlglaaGreatDoor
open Go.RowKit
set_option maxRecDepth 100000
set_option maxHeartbeats 1000000
theorem u8info : ∃ i, Tryz.prog.info? 5 = some i ∧ i.zero = some (.int .u8 0) ∧ i.size = 1 ∧ i.bytes = 1 := by
  exact info_parts (P := Tryz.prog) (e := 5) (z := .int .u8 0) (size := 1) (bytes := 1) (by kernel_rfl)
theorem ne_own {w : World} {base k ob : Nat} {dv : Value} {xs : List Value} {cs : Array Value} {t : TypeId} (h : w.ownsRow base 5 1 dv k xs) (ho : w.heap[ob]? = some (.cells cs t (0, 0))) (ht : t ≠ 5) : some ob ≠ dv.ownBlock := by
  rcases h.2 with ⟨rfl, _⟩ | ⟨g, cap, cur, rfl, _, hg, _⟩
  · simp [Value.ownBlock]
  · intro e
    simp only [Value.ownBlock, Option.some.injEq] at e
    subst e
    rw [hg] at ho
    simp at ho
    exact ht ho.2.symm
theorem grown_row {w w' : World} {row : Option Nat} {g : Nat} {o : Obj} (h : w.grownBy w' row) (hg : w.heap[g]? = some o) (hne : some g ≠ row) : w'.heap[g]? = some o := by
  rw [h.block g (Array.getElem?_eq_some_iff.1 hg).1 hne]; exact hg
theorem own_set {w : World} {base k ob j : Nat} {dv v : Value} {xs : List Value} {cs : Array Value} {t : TypeId} (h : w.ownsRow base 5 1 dv k xs) (ho : w.heap[ob]? = some (.cells cs t (0, 0))) (ht : t ≠ 5) : (w.setCell ⟨ob, j, none⟩ v).ownsRow base 5 1 dv k xs := by
  have hne := ne_own h ho ht
  refine ⟨h.1, ?_⟩
  rcases h.2 with h2 | ⟨g, cap, cur, rfl, hb, hg, rest⟩
  · exact .inl h2
  · refine .inr ⟨g, cap, cur, rfl, hb, ?_, rest⟩
    rw [set_other]
    · exact hg
    · intro e; subst e; exact hne rfl
/-- what is no memory is as it was -/
def Calm (w w' : World) : Prop := w'.os = w.os ∧ w'.tape = w.tape ∧ w'.output = w.output
theorem Calm.trans {a b c : World} (h : Calm a b) (k : Calm b c) : Calm a c := ⟨k.1.trans h.1, k.2.1.trans h.2.1, k.2.2.trans h.2.2⟩
theorem Calm.below {B : Nat} {a b : World} (h : Below B a b) : Calm a b := ⟨h.os, h.tape, h.output⟩
theorem Calm.grown {a b : World} {r : Option Nat} (h : a.grownBy b r) : Calm a b := ⟨h.os, h.tape, h.output⟩
theorem Calm.set {a b : World} (h : Calm a b) (p : Addr) (v : Value) : Calm a (b.setCell p v) := h
theorem dwrite_end (g ob K M C V n len k base : Nat) (num : Value) (objv dv v2 : Value) (xs : List Value) (s : ByteArray) (w w2 : World) (hne : g ≠ ob)
    (hg2 : w2.heap[g]? = some (.cells (dC K M C V objv (.pointer (some ⟨ob, 0, none⟩)) n len) 252 (0, 0)))
    (ho2 : w2.heap[ob]? = some (.cells #[num, dv] 261 (0, 0))) (hO2 : w2.ownsRow base 5 1 v2 (k + s.size) (xs ++ Lib.strCells s)) (hG2 : w.grownBy w2 dv.ownBlock) :
    ∃ dv', ((w2.setCell ⟨ob, 1, none⟩ v2).setCell ⟨g, 7, none⟩ (.int .i64 (len + s.size))).heap[g]? = some (.cells (dC K M C V objv (.pointer (some ⟨ob, 0, none⟩)) n (len + s.size)) 252 (0, 0)) ∧ ((w2.setCell ⟨ob, 1, none⟩ v2).setCell ⟨g, 7, none⟩ (.int .i64 (len + s.size))).heap[ob]? = some (.cells #[num, dv'] 261 (0, 0)) ∧ ((w2.setCell ⟨ob, 1, none⟩ v2).setCell ⟨g, 7, none⟩ (.int .i64 (len + s.size))).ownsRow base 5 1 dv' (k + s.size) (xs ++ Lib.strCells s) ∧
      w.heap.size ≤ ((w2.setCell ⟨ob, 1, none⟩ v2).setCell ⟨g, 7, none⟩ (.int .i64 (len + s.size))).heap.size ∧ (∀ j, j < w.heap.size → j ≠ g → j ≠ ob → some j ≠ dv.ownBlock → ((w2.setCell ⟨ob, 1, none⟩ v2).setCell ⟨g, 7, none⟩ (.int .i64 (len + s.size))).heap[j]? = w.heap[j]?) ∧ Calm w ((w2.setCell ⟨ob, 1, none⟩ v2).setCell ⟨g, 7, none⟩ (.int .i64 (len + s.size))) := by
  have ho3 := set_heap w2 ob 1 v2 _ _ _ ho2
  have hg3 := (set_other w2 ob 1 g v2 hne).trans hg2
  refine ⟨v2, ?_, ?_, ?_, ?_, ?_, ((Calm.grown hG2).set _ _).set _ _⟩
  · have := set_heap _ g 7 (.int .i64 (len + s.size)) _ _ _ hg3
    simpa [dC] using this
  · rw [set_other _ _ _ _ _ hne.symm]; simpa using ho3
  · exact own_set (own_set hO2 ho2 (by decide)) hg3 (by decide)
  · have := hG2.size; simp [World.setCell]; omega
  · intro j hj h1 h2 h3
    rw [set_other _ _ _ _ _ h1, set_other _ _ _ _ _ h2]
    exact hG2.block j hj h3
theorem dwrite_ok (g ob K M C V n len k base : Nat) (num : Value) (objv dv : Value) (xs : List Value) (s : ByteArray) (w : World)
    (hg : w.heap[g]? = some (.cells (dC K M C V objv (.pointer (some ⟨ob, 0, none⟩)) n len) 252 (0, 0)))
    (ho : w.heap[ob]? = some (.cells #[num, dv] 261 (0, 0))) (hown : w.ownsRow base 5 1 dv k xs) (hb : base ≤ w.heap.size) (hlen : len + s.size ≤ 4096) (hk : k ≤ 4096) :
    Calls Tryz.prog 102 #[.pointer (some ⟨g, 0, none⟩), .string s] w fun e w' => e = .returned (.tuple #[.int .i64 s.size, .nilIface]) ∧ ∃ dv',
      w'.heap[g]? = some (.cells (dC K M C V objv (.pointer (some ⟨ob, 0, none⟩)) n (len + s.size)) 252 (0, 0)) ∧ w'.heap[ob]? = some (.cells #[num, dv'] 261 (0, 0)) ∧ w'.ownsRow base 5 1 dv' (k + s.size) (xs ++ Lib.strCells s) ∧
      w.heap.size ≤ w'.heap.size ∧ (∀ j, j < w.heap.size → j ≠ g → j ≠ ob → some j ≠ dv.ownBlock → w'.heap[j]? = w.heap[j]?) ∧ Calm w w' := by
  have c5 : w.cell? ⟨g, 5, none⟩ = some (.pointer (some ⟨ob, 0, none⟩)) := cell_of_row _ _ _ _ 252 _ hg
  have c7 : w.cell? ⟨g, 7, none⟩ = some (.int .i64 len) := cell_of_row _ _ _ _ 252 _ hg
  have c8 : w.cell? ⟨g, 8, none⟩ = some (.bool false) := cell_of_row _ _ _ _ 252 _ hg
  have c11 : w.cell? ⟨g, 11, none⟩ = some (.bool false) := cell_of_row _ _ _ _ 252 _ hg
  have o1 : w.cell? ⟨ob, 1, none⟩ = some dv := cell_of_row _ _ _ _ 261 _ ho
  have h23 : Hid _ := state_ok g w c8 c11
  obtain ⟨i5, hi, hz, hs1, hs2⟩ := u8info
  have hs64 : (s.size : Int) ≤ 9223372036854775807 := by omega
  have hl0 : ¬ ((s.size : Int) > 4096 - (len : Int)) := by omega
  go_enter Tryz.func102, Tryz.ntmps102
  go_wp2_with (go_at_call 148; refine Calls.mono h23.out ?_; rintro e w' ⟨rfl, rfl⟩)
  clear h23
  have f1 : w'.frozen? ⟨ob, 1, none⟩ = false := frozen_of_row _ _ _ _ 261 ho
  have hne := ne_own hown ho (by decide)
  have hneg := ne_own hown hg (by decide)
  have HO : Hid _ := hown
  clear hown c8 c11 c7
  go_region_law (refine step_text_own rfl (.tmp 42) (.tmp 43) 165 9 5 rfl Tryz.underlying165 Tryz.underlying9 i5 hi hz hs1 hs2 base k dv xs s (by simp [Act.eval]) (by simp [Act.eval]) (by exact HO.out) (by omega) (by exact hb) ?_; intro v2 w2 hO2 hG2; have ho2 : w2.heap[ob]? = some (.cells #[num, dv] 261 (0, 0)) := (grown_row hG2 ho hne); obtain ⟨a2, k2, hv2⟩ := own_shape hO2; subst hv2; have hg2 : w2.heap[g]? = some (.cells (dC K M C V objv (.pointer (some ⟨ob, 0, none⟩)) n len) 252 (0, 0)) := (grown_row hG2 hg hneg); have g2 : w2.cell? ⟨g, 5, none⟩ = some (.pointer (some ⟨ob, 0, none⟩)) := (cell_of_row _ _ _ _ 252 _ hg2); have o2 : w2.cell? ⟨ob, 1, none⟩ = some dv := (cell_of_row _ _ _ _ 261 _ ho2); have f2 : w2.frozen? ⟨ob, 1, none⟩ = false := (frozen_of_row _ _ _ _ 261 ho2))
  all_goals (
    have hne2 : g ≠ ob := fun e => by subst e; rw [hg] at ho; simp at ho
    have ho3 := set_heap w2 ob 1 (.slice a2 (k + s.size) k2) _ _ _ ho2
    have hg3 := (set_other w2 ob 1 g (.slice a2 (k + s.size) k2) hne2).trans hg2
    have q7 : (w2.setCell ⟨ob, 1, none⟩ (.slice a2 (k + s.size) k2)).cell? ⟨g, 7, none⟩ = some (.int .i64 len) := cell_of_row _ _ _ _ 252 _ hg3
    have f7 : (w2.setCell ⟨ob, 1, none⟩ (.slice a2 (k + s.size) k2)).frozen? ⟨g, 7, none⟩ = false := frozen_of_row _ _ _ _ 252 hg3
    have hsl : (len : Int) + (s.size : Int) ≤ 9223372036854775807 := by omega
    clear o2 f2 g2 f1 c5 o1
    go_wp2
    go_ret2
    exact ⟨by simp, dwrite_end g ob K M C V n len k base num objv dv _ xs s w'.drew w2 hne2 hg2 ho2 hO2 hG2⟩)
end Go.Proofs.YtadinjaocnlglaaGreatDoor
namespace Go.Proofs.YtadinjaocnlglaaGreatDoor
open Go.RowKit Go.Maps
set_option maxRecDepth 100000
set_option maxHeartbeats 1000000
/-- how a pointer to an object reads: by its block -/
def pE : Value → Option (DataW Nat × List MemPlace)
  | .pointer (some ⟨b, 0, none⟩) => some (.held b, [])
  | .pointer none => some (.nil, [])
  | _ => none
theorem law9 : Keyed Tryz.prog 9 := string_keyed Tryz.underlying9
theorem zero61 (w : World) : (zeroValue 248).run Tryz.prog w = .ok (.pointer none) w := by kernel_rfl
theorem pE_held {v : Value} {b : Nat} {ps : List MemPlace} (h : pE v = some (.held b, ps)) : v = .pointer (some ⟨b, 0, none⟩) := by
  unfold pE at h
  split at h
  · simp at h; rw [h.1]
  · simp at h
  · simp at h
theorem dbegin_ok (g m K M C V n len : Nat) (last : Value) (D : DataW Nat) (s : ByteArray) (w : World)
    (hg : w.heap[g]? = some (.cells (dC K M C V (.map (some m)) last n len) 252 (0, 0))) (hm : w.ownsMap Tryz.prog 9 pE m n D) (hno : Maps.has D (.string s.data.toList) = false)
    (hs1 : 1 ≤ s.size) (hs2 : s.size ≤ 255) (hn : n < 16) :
    Calls Tryz.prog 101 #[.pointer (some ⟨g, 0, none⟩), .string s] w fun e w' => e = .returned .nilIface ∧ ∃ ob, w.heap.size ≤ ob ∧
      w'.heap[ob]? = some (.cells #[.int .i64 n, .slice none 0 0] 261 (0, 0)) ∧ w'.heap[g]? = some (.cells (dC K M C V (.map (some m)) (.pointer (some ⟨ob, 0, none⟩)) (n + 1) len) 252 (0, 0)) ∧
      w'.ownsMap Tryz.prog 9 pE m (n + 1) (D.put (.string s.data.toList) (.held ob)) ∧ w.heap.size ≤ w'.heap.size ∧ (∀ j, j < w.heap.size → j ≠ g → j ≠ m → w'.heap[j]? = w.heap[j]?) ∧ Calm w w' := by
  have c4 : w.cell? ⟨g, 4, none⟩ = some (.map (some m)) := cell_of_row _ _ _ _ 252 _ hg
  have c5 : w.cell? ⟨g, 5, none⟩ = some last := cell_of_row _ _ _ _ 252 _ hg
  have c6 : w.cell? ⟨g, 6, none⟩ = some (.int .i64 n) := cell_of_row _ _ _ _ 252 _ hg
  have c8 : w.cell? ⟨g, 8, none⟩ = some (.bool false) := cell_of_row _ _ _ _ 252 _ hg
  have c11 : w.cell? ⟨g, 11, none⟩ = some (.bool false) := cell_of_row _ _ _ _ 252 _ hg
  have f5 : w.frozen? ⟨g, 5, none⟩ = false := frozen_of_row _ _ _ _ 252 hg
  have f6 : w.frozen? ⟨g, 6, none⟩ = false := frozen_of_row _ _ _ _ 252 hg
  have h23 : Hid _ := state_ok g w c8 c11
  have hkey : keyOf Tryz.prog 9 (.string s) = some (.string s.data.toList) := Go.WideMaps.keyOf_string_mk Tryz.underlying9 (by unfold maxLen; omega)
  obtain ⟨z, hzr, hlk⟩ : ∃ z : Value, True ∧ (Instr.lookup 247 (.map (some m)) (.string s) true).run Tryz.prog w = .ok (.tuple #[z, .bool false]) w := by
    obtain ⟨v, ps, hrun, hv⟩ := hm.look_ok law9 Tryz.underlying247 (zero61 w) (zd := .nil) (zp := []) rfl hkey
    rw [hno] at hrun
    exact ⟨v, trivial, hrun⟩
  have a5 : (w.alloc (Obj.cells #[Value.int IntKind.i64 n, Value.slice none 0 0] 261)).cell? ⟨g, 5, none⟩ = some last := (World.cell?_of_block (heap_alloc_old _ _ (Array.getElem?_eq_some_iff.1 hg).1)).trans c5
  have b5 : (w.alloc (Obj.cells #[Value.int IntKind.i64 n, Value.slice none 0 0] 261)).frozen? ⟨g, 5, none⟩ = false := (World.frozen?_of_block (heap_alloc_old _ _ (Array.getElem?_eq_some_iff.1 hg).1)).trans f5
  have s1 : ¬ ((s.size : Int) < 1) := by omega
  have s2 : ¬ ((s.size : Int) > 255) := by omega
  have n16 : ¬ ((n : Int) = 16) := by omega
  go_enter Tryz.func101, Tryz.ntmps101
  go_wp2_with (go_at_call 148; refine Calls.mono h23.out ?_; rintro e w' ⟨rfl, rfl⟩)
  obtain ⟨W, hW⟩ : ∃ W, (w'.alloc (Obj.cells #[Value.int IntKind.i64 n, Value.slice none 0 0] 261)).setCell ⟨g, 5, none⟩ (.pointer (some ⟨w'.heap.size, 0, none⟩)) = W := ⟨_, rfl⟩
  have hgl : g < w'.heap.size := (Array.getElem?_eq_some_iff.1 hg).1
  have hml : m < w'.heap.size := hm.lt
  have hgm : m ≠ g := fun e => by subst e; obtain ⟨es, ck, h1, _⟩ := hm; rw [h1] at hg; simp at hg
  have hg1 : W.heap[g]? = some (.cells (dC K M C V (.map (some m)) (.pointer (some ⟨w'.heap.size, 0, none⟩)) n len) 252 (0, 0)) := by
    rw [← hW]
    have := set_heap (w'.alloc (Obj.cells #[Value.int IntKind.i64 n, Value.slice none 0 0] 261)) g 5 (.pointer (some ⟨w'.heap.size, 0, none⟩)) _ _ _ ((heap_alloc_old _ _ hgl).trans hg)
    simpa [dC] using this
  have ho1 : W.heap[w'.heap.size]? = some (.cells #[.int .i64 n, .slice none 0 0] 261 (0, 0)) := by
    rw [← hW, set_other _ _ _ _ _ (by omega)]; exact heap_alloc_new _ _
  have hm1 : W.ownsMap Tryz.prog 9 pE m n D := by
    rw [← hW]; exact (hm.alloc _).setCell (by simpa using hgm) _
  have hF1 : Hid (∀ j, j < w'.heap.size → j ≠ g → W.heap[j]? = w'.heap[j]?) := fun j hj h1 => by
    rw [← hW, set_other _ _ _ _ _ h1, heap_alloc_old _ _ hj]
  have hC1 : Hid (Calm w' W) := by show Calm _ _; rw [← hW]; exact ⟨rfl, rfl, rfl⟩
  have hS1 : w'.heap.size < W.heap.size := by rw [← hW]; simp [World.setCell]
  rw [hW]
  have d4 : W.cell? ⟨g, 4, none⟩ = some (.map (some m)) := cell_of_row _ _ _ _ 252 _ hg1
  have d5 : W.cell? ⟨g, 5, none⟩ = some (.pointer (some ⟨w'.heap.size, 0, none⟩)) := cell_of_row _ _ _ _ 252 _ hg1
  have HM1 : Hid _ := hm1
  clear h23 hlk c4 c5 c6 c8 c11 f5 f6 a5 b5 hm1 hW
  go_region_held3 (fun w2 => w2.cell? ⟨g, 4, none⟩ = some (.map (some m)) ∧ w2.cell? ⟨g, 5, none⟩ = some (.pointer (some ⟨w'.heap.size, 0, none⟩))) (go_keep) ((go_at_call 150; refine (sclone_any s _ (by omega)).mono ?_; rintro e w2 ⟨rfl, hb2⟩; have e4 : w2.cell? ⟨g, 4, none⟩ = some (.map (some m)) := ((hb2.cell (p := ⟨g, 4, none⟩) (by simp; omega)).trans d4); have e5 : w2.cell? ⟨g, 5, none⟩ = some (.pointer (some ⟨w'.heap.size, 0, none⟩)) := ((hb2.cell (p := ⟨g, 5, none⟩) (by simp; omega)).trans d5); obtain ⟨w3, hup, hm3, hG3⟩ := (show w2.ownsMap Tryz.prog 9 pE m n D from by obtain ⟨es, ck, h1, h2⟩ := HM1.out; exact ⟨es, ck, (by rw [hb2.block m (by simp; omega)]; exact h1), h2⟩).update law9 Tryz.underlying247 (by unfold maxLen; omega) hkey (val := .pointer (some ⟨w'.heap.size, 0, none⟩)) (d := .held w'.heap.size) (ps := []) rfl; have hg3 : w3.heap[g]? = some (.cells (dC K M C V (.map (some m)) (.pointer (some ⟨w'.heap.size, 0, none⟩)) n len) 252 (0, 0)) := grown_row hG3 (by rw [hb2.block g (by simp; omega)]; exact hg1) (by simpa using hgm.symm); have i4 : w3.cell? ⟨g, 4, none⟩ = some (.map (some m)) := cell_of_row _ _ _ _ 252 _ hg3; have i5 : w3.cell? ⟨g, 5, none⟩ = some (.pointer (some ⟨w'.heap.size, 0, none⟩)) := cell_of_row _ _ _ _ 252 _ hg3))
  have j6 : w3.cell? ⟨g, 6, none⟩ = some (.int .i64 n) := cell_of_row _ _ _ _ 252 _ hg3
  have k6 : w3.frozen? ⟨g, 6, none⟩ = false := frozen_of_row _ _ _ _ 252 hg3
  clear i4 i5 e4 e5 d4 d5 hup
  go_wp2
  go_ret
  have hsz : W.heap.size ≤ w2.heap.size := hb2.size
  have hm2 : m < W.heap.size := Nat.lt_trans hml hS1
  refine ⟨rfl, w'.heap.size, Nat.le_refl _, ?_, ?_, ?_, ?_, ?_, ((Calm.trans (b := W.drew) hC1.out (Calm.below hb2)).trans (Calm.grown hG3)).set _ _⟩
  · rw [set_other _ _ _ _ _ (by omega)]
    exact grown_row hG3 (by rw [hb2.block _ (by simpa using hS1)]; exact ho1) (by simp; omega)
  · have := set_heap w3 g 6 (.int .i64 (n + 1)) _ _ _ hg3
    simpa [dC] using this
  · exact hm3.setCell (by simpa using hgm) _
  · have := hG3.size
    simp [World.setCell]; omega
  · intro j hj h1 h2
    rw [set_other _ _ _ _ _ h1, hG3.block j (by omega) (by simpa using h2), hb2.block j (by simp; omega)]
    exact hF1.out j hj h1
end Go.Proofs.YtadinjaocnlglaaGreatDoor
