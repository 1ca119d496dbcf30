/-
  The walks of vault's NewWriter and the Writer's methods (nothing refused).
-/
import Derived.Test.YtadinjaocnlglaaGreatDoorL22
import Derived.Test.YtadinjaocnlglaaGreatDoorL15
import Derived.Test.YtadinjaocnlglaaGreatDoorK1
namespace Go.Proofs.YtadinjaocnlglaaGreatDoor
open Go.RowKit Go.Maps Go.MuLone
set_option maxRecDepth 100000
set_option maxHeartbeats 1000000
theorem nwriter_ok (K M C V : Nat) (w : World) (hK : 1 ≤ K) (hKM : K + M ≤ 255) (hC : 1 ≤ C) (hC2 : C ≤ 64) (hV : 1 ≤ V) (hV2 : V ≤ 16) :
    Calls Tryz.prog 48 #[pV K M C V] w fun e w' => ∃ m, e = .returned (.tuple #[.pointer (some ⟨m + 2, 0, none⟩), .nilIface]) ∧ w.heap.size ≤ m ∧ w'.heap[m]? = some (.map #[] 0) ∧ w'.heap[m + 1]? = some (.cells (dC K M C V (.map (some m)) (.pointer none) 0 0) 252 (0, 0)) ∧ w'.heap[m + 2]? = some (.cells (wC 0 (m + 1)) 180 (0, 0)) ∧ w'.heap.size = m + 3 ∧ Below w.heap.size w w' := by
  have H : Hid (∀ W, _) := fun W => new_ok K M C V W hK hKM hC hC2 hV hV2
  unfold pV at H ⊢
  go_enter Tryz.func48, Tryz.ntmps48
  go_wp2_with fail
  refine Calls.mono (H.out _) ?_
  rintro e w1 ⟨m, rfl, h1, h2, h3, h4, h5⟩
  have HB : Hid (Below w.heap.size w w1) := by
    have h0 : Below w.heap.size w (w.alloc (Obj.cells #[Value.int IntKind.i64 K, Value.int IntKind.i64 M, Value.int IntKind.i64 C, Value.int IntKind.i64 V] 23)) := (Below.refl _ _).alloc (Nat.le_refl _) _
    exact h0.trans (h5.mono h0.size)
  clear H h5
  go_wp2
  go_ret2
  have hs : w.heap.size ≤ m := by simp at h1; omega
  refine ⟨m, ?_, hs, ?_, ?_, ?_, ?_, ?_⟩
  · simp
  · rw [heap_alloc_old _ _ (by omega)]; exact h2
  · rw [heap_alloc_old _ _ (by omega)]; exact h3
  · have := heap_alloc_new w1 (.cells (wC 0 (m + 1)) 180)
    rw [h4] at this
    simpa [wC] using this
  · simp [h4]
  · exact HB.out.alloc HB.out.size _
theorem wbegin_ok (wb g m K M C V n len : Nat) (last : Value) (D : DataW Nat) (s : ByteArray) (w : World) (hwb : w.heap[wb]? = some (.cells (wC 0 g) 180 (0, 0)))
    (hg : w.heap[g]? = some (.cells (dC K M C V (.map (some m)) last n len) 252 (0, 0))) (hm : w.ownsMap Tryz.prog 9 pE m n D) (hno : Maps.has D (.string s.data.toList) = false)
    (hs1 : 1 ≤ s.size) (hs2 : s.size ≤ 255) (hn : n < 16) :
    Calls Tryz.prog 56 #[.pointer (some ⟨wb, 0, none⟩), .string s] w fun e w' => e = .returned .nilIface ∧ ∃ ob, w.heap.size ≤ ob ∧ w'.heap[wb]? = some (.cells (wC 0 g) 180 (0, 0)) ∧
      w'.heap[ob]? = some (.cells #[.int .i64 n, .slice none 0 0] 261 (0, 0)) ∧ w'.heap[g]? = some (.cells (dC K M C V (.map (some m)) (.pointer (some ⟨ob, 0, none⟩)) (n + 1) len) 252 (0, 0)) ∧
      w'.ownsMap Tryz.prog 9 pE m (n + 1) (D.put (.string s.data.toList) (.held ob)) ∧ w.heap.size ≤ w'.heap.size ∧ (∀ j, j < w.heap.size → j ≠ g → j ≠ m → j ≠ wb → w'.heap[j]? = w.heap[j]?) ∧ Calm w w' := by
  have hgw : g ≠ wb := fun e => by subst e; rw [hg] at hwb; simp at hwb
  have hmw : m ≠ wb := fun e => by subst e; obtain ⟨es, ck, h1, _⟩ := hm; rw [h1] at hwb; simp at hwb
  have hgl := (Array.getElem?_eq_some_iff.1 hg).1
  have hwl := (Array.getElem?_eq_some_iff.1 hwb).1
  have h0 : w.cell? ⟨wb, 0, none⟩ = some (.int .i32 0) := cell_of_row _ _ _ _ 180 _ hwb
  have f0 : w.frozen? ⟨wb, 0, none⟩ = false := frozen_of_row _ _ _ _ 180 hwb
  have HL : Hid _ := lock_free muL ⟨wb, 0, none⟩ w h0 f0
  obtain ⟨W, hW⟩ : ∃ W, w.setCell ⟨wb, 0, none⟩ (.int .i32 1) = W := ⟨_, rfl⟩
  have hwW : W.heap[wb]? = some (.cells (wC 1 g) 180 (0, 0)) := by rw [← hW]; have := set_heap w wb 0 (.int .i32 1) _ _ _ hwb; simpa [wC] using this
  have HD : Hid _ := dbegin_ok g m K M C V n len last D s W (by rw [← hW, set_other _ _ _ _ _ hgw]; exact hg) (by rw [← hW]; exact hm.setCell (by simpa using hmw) _) hno hs1 hs2 hn
  have HCA : Hid (Calm w W) := by show Calm _ _; rw [← hW]; exact ⟨rfl, rfl, rfl⟩
  have HFR : Hid (∀ j, j ≠ wb → W.heap[j]? = w.heap[j]?) := fun j hj => by rw [← hW]; exact set_other _ _ _ _ _ hj
  have hsz : W.heap.size = w.heap.size := by rw [← hW]; simp [World.setCell]
  have c2 : W.cell? ⟨wb, 2, none⟩ = some (.pointer (some ⟨g, 0, none⟩)) := cell_of_row _ _ _ _ 180 _ hwW
  rw [hW] at HL
  clear hW hg hm hno
  go_enter_defers Tryz.func56, Tryz.ntmps56
  go_wp2_with fail
  refine Calls.mono HL.out ?_
  rintro e w1 ⟨rfl, rfl⟩
  go_wp2_with fail
  refine Calls.mono HD.out ?_
  rintro e w2 ⟨rfl, ob, h1, h2, h3, h4, h5, h6, h7⟩
  have hw2 : w2.heap[wb]? = some (.cells (wC 1 g) 180 (0, 0)) := by rw [h6 wb (by omega) hgw.symm hmw.symm]; exact hwW
  go_wp2
  refine leaves_cons (f := 69) (args := #[.pointer (some ⟨wb, 0, none⟩)]) (by simp) (by simp [go_sem]) ?_
  refine (unlock_deferred muL ⟨wb, 0, none⟩ .returning w2 (cell_of_row _ _ _ _ 180 _ hw2) (frozen_of_row _ _ _ _ 180 hw2)).mono ?_
  rintro e u' w3 ⟨rfl, rfl, rfl⟩
  refine ⟨_, results_tmp rfl _ _ _, rfl, ob, by omega, ?_, ?_, ?_, ?_, ?_, ?_, (HCA.out.trans h7).set _ _⟩
  · have := set_heap w2 wb 0 (.int .i32 0) _ _ _ hw2
    simpa [wC] using this
  · rw [set_other _ _ _ _ _ (by omega)]; exact h2
  · rw [set_other _ _ _ _ _ hgw]; exact h3
  · exact h4.setCell (by simpa using hmw) _
  · simp [World.setCell]; omega
  · intro j hj a1 a2 a3
    rw [set_other _ _ _ _ _ a3, h6 j (by omega) a1 a2]
    exact HFR.out j a3
theorem wwrite_ok (wb g ob K M C V n len k base : Nat) (num : Value) (objv dv : Value) (xs : List Value) (s : ByteArray) (w : World) (hwb : w.heap[wb]? = some (.cells (wC 0 g) 180 (0, 0)))
    (hg : w.heap[g]? = some (.cells (dC K M C V objv (.pointer (some ⟨ob, 0, none⟩)) n len) 252 (0, 0)))
    (ho : w.heap[ob]? = some (.cells #[num, dv] 261 (0, 0))) (hown : w.ownsRow base 5 1 dv k xs) (hb : base ≤ w.heap.size) (hlen : len + s.size ≤ 4096) (hk : k ≤ 4096) :
    Calls Tryz.prog 57 #[.pointer (some ⟨wb, 0, none⟩), .string s] w fun e w' => e = .returned (.tuple #[.int .i64 s.size, .nilIface]) ∧ ∃ dv', w'.heap[wb]? = some (.cells (wC 0 g) 180 (0, 0)) ∧
      w'.heap[g]? = some (.cells (dC K M C V objv (.pointer (some ⟨ob, 0, none⟩)) n (len + s.size)) 252 (0, 0)) ∧ w'.heap[ob]? = some (.cells #[num, dv'] 261 (0, 0)) ∧ w'.ownsRow base 5 1 dv' (k + s.size) (xs ++ Lib.strCells s) ∧
      w.heap.size ≤ w'.heap.size ∧ (∀ j, j < w.heap.size → j ≠ g → j ≠ ob → j ≠ wb → some j ≠ dv.ownBlock → w'.heap[j]? = w.heap[j]?) ∧ Calm w w' := by
  have hgw : g ≠ wb := fun e => by subst e; rw [hg] at hwb; simp at hwb
  have how : ob ≠ wb := fun e => by subst e; rw [ho] at hwb; simp at hwb
  have hwd : some wb ≠ dv.ownBlock := ne_own hown hwb (by decide)
  have hwl := (Array.getElem?_eq_some_iff.1 hwb).1
  have h0 : w.cell? ⟨wb, 0, none⟩ = some (.int .i32 0) := cell_of_row _ _ _ _ 180 _ hwb
  have f0 : w.frozen? ⟨wb, 0, none⟩ = false := frozen_of_row _ _ _ _ 180 hwb
  have HL : Hid _ := lock_free muL ⟨wb, 0, none⟩ w h0 f0
  obtain ⟨W, hW⟩ : ∃ W, w.setCell ⟨wb, 0, none⟩ (.int .i32 1) = W := ⟨_, rfl⟩
  have hwW : W.heap[wb]? = some (.cells (wC 1 g) 180 (0, 0)) := by rw [← hW]; have := set_heap w wb 0 (.int .i32 1) _ _ _ hwb; simpa [wC] using this
  have hsz : W.heap.size = w.heap.size := by rw [← hW]; simp [World.setCell]
  have HD : Hid _ := dwrite_ok g ob K M C V n len k base num objv dv xs s W (by rw [← hW, set_other _ _ _ _ _ hgw]; exact hg) (by rw [← hW, set_other _ _ _ _ _ how]; exact ho) (by rw [← hW]; exact own_set hown hwb (by decide)) (by omega) hlen hk
  have HCA : Hid (Calm w W) := by show Calm _ _; rw [← hW]; exact ⟨rfl, rfl, rfl⟩
  have HFR : Hid (∀ j, j ≠ wb → W.heap[j]? = w.heap[j]?) := fun j hj => by rw [← hW]; exact set_other _ _ _ _ _ hj
  have c2 : W.cell? ⟨wb, 2, none⟩ = some (.pointer (some ⟨g, 0, none⟩)) := cell_of_row _ _ _ _ 180 _ hwW
  rw [hW] at HL
  clear hW hg ho hown
  go_enter_defers Tryz.func57, Tryz.ntmps57
  go_wp2_with fail
  refine Calls.mono HL.out ?_
  rintro e w1 ⟨rfl, rfl⟩
  go_wp2_with fail
  refine Calls.mono HD.out ?_
  rintro e w2 ⟨rfl, dv', h1, h2, h3, h4, h5, h7⟩
  have hw2 : w2.heap[wb]? = some (.cells (wC 1 g) 180 (0, 0)) := by rw [h5 wb (by omega) hgw.symm how.symm hwd]; exact hwW
  have HO2 : Hid _ := h3
  clear h3
  go_wp2
  refine leaves_cons (f := 69) (args := #[.pointer (some ⟨wb, 0, none⟩)]) (by simp) (by simp [go_sem]) ?_
  refine (unlock_deferred muL ⟨wb, 0, none⟩ .returning w2 (cell_of_row _ _ _ _ 180 _ hw2) (frozen_of_row _ _ _ _ 180 hw2)).mono ?_
  rintro e u' w3 ⟨rfl, rfl, rfl⟩
  refine ⟨_, results_tmp2 rfl _ _ _, rfl, dv', ?_, ?_, ?_, ?_, ?_, ?_, (HCA.out.trans h7).set _ _⟩
  · have := set_heap w2 wb 0 (.int .i32 0) _ _ _ hw2
    simpa [wC] using this
  · rw [set_other _ _ _ _ _ hgw]; exact h1
  · rw [set_other _ _ _ _ _ how]; exact h2
  · exact own_set HO2.out hw2 (by decide)
  · simp [World.setCell]; omega
  · intro j hj a1 a2 a3 a4
    rw [set_other _ _ _ _ _ a3, h5 j (by omega) a1 a2 a4]
    exact HFR.out j a3
theorem wclose_ok (kt : Nat → Int) (wb g m K M C V n len : Nat) (last : Value) (D : DataW Nat) (F : List UInt8 → List UInt8) (w : World) (hwb : w.heap[wb]? = some (.cells (wC 0 g) 180 (0, 0))) (hw1 : 4 ≤ wb)
    (hg : w.heap[g]? = some (.cells (dC K M C V (.map (some m)) last n len) 252 (0, 0))) (hg1 : 4 ≤ g) (hm : w.ownsMap Tryz.prog 9 pE m n D) (hO : Obs w D F) (hn : n ≤ 16) (hF : ∀ s, s ∈ strKeys D → (F s).length ≤ 4096) (hN : ∀ s, s ∈ strKeys D → s.length ≤ 1000)
    (hlen : len = (dtT F (nmS D)).size) (hl1 : len ≤ 100000) (hK1 : 1 ≤ K) (hKM : K + M ≤ 255) (hC1 : 1 ≤ C) (hC2 : C ≤ 64) (hV1 : 1 ≤ V) (hV2 : V ≤ 16) (hB : nbT K M C (dtT F (nmS D)) ≤ 512) (hG : Gd kt w) :
    Calls Tryz.prog 58 #[.pointer (some ⟨wb, 0, none⟩)] w fun e w' => ∃ gv, e = .returned (.tuple #[.slice (some ⟨gv, 0, none⟩) V V, .string (rtT kt K M C V F (nmS D)), .nilIface]) ∧ w.heap.size ≤ gv ∧ Rw w' gv V 9 (tX (voT kt K M C V F (nmS D))) ∧ w.heap.size ≤ w'.heap.size ∧ (∀ j, j < w.heap.size → j ≠ g → j ≠ wb → w'.heap[j]? = w.heap[j]?) ∧ Calm w w' := by
  have hgw : g ≠ wb := fun e => by subst e; rw [hg] at hwb; simp at hwb
  have hmw : m ≠ wb := fun e => by subst e; obtain ⟨es, ck, h1, _⟩ := hm; rw [h1] at hwb; simp at hwb
  have hwl := (Array.getElem?_eq_some_iff.1 hwb).1
  have h0 : w.cell? ⟨wb, 0, none⟩ = some (.int .i32 0) := cell_of_row _ _ _ _ 180 _ hwb
  have f0 : w.frozen? ⟨wb, 0, none⟩ = false := frozen_of_row _ _ _ _ 180 hwb
  have HL : Hid _ := lock_free muL ⟨wb, 0, none⟩ w h0 f0
  have hO1 : Obs (w.setCell ⟨wb, 0, none⟩ (.int .i32 1)) D F := fun s hs => by
    obtain ⟨ob, num, u, a1, a2, a3⟩ := hO s hs
    refine ⟨ob, num, u, a1, ?_, own_set a3 hwb (by decide)⟩
    rw [set_other]
    · exact a2
    · intro e; subst e; rw [hwb] at a2; simp at a2
  obtain ⟨W, hW⟩ : ∃ W, w.setCell ⟨wb, 0, none⟩ (.int .i32 1) = W := ⟨_, rfl⟩
  rw [hW] at hO1
  have hwW : W.heap[wb]? = some (.cells (wC 1 g) 180 (0, 0)) := by rw [← hW]; have := set_heap w wb 0 (.int .i32 1) _ _ _ hwb; simpa [wC] using this
  have hsz : W.heap.size = w.heap.size := by rw [← hW]; simp [World.setCell]
  have HD : Hid _ := dclose_ok kt g m K M C V n len last D F W (by rw [← hW, set_other _ _ _ _ _ hgw]; exact hg) hg1 (by rw [← hW]; exact hm.setCell (by simpa using hmw) _) hO1 hn hF hN hlen hl1 hK1 hKM hC1 hC2 hV1 hV2 hB (by rw [← hW]; exact hG.set hw1)
  have HCA : Hid (Calm w W) := by show Calm _ _; rw [← hW]; exact ⟨rfl, rfl, rfl⟩
  have HFR : Hid (∀ j, j ≠ wb → W.heap[j]? = w.heap[j]?) := fun j hj => by rw [← hW]; exact set_other _ _ _ _ _ hj
  have c2 : W.cell? ⟨wb, 2, none⟩ = some (.pointer (some ⟨g, 0, none⟩)) := cell_of_row _ _ _ _ 180 _ hwW
  rw [hW] at HL
  obtain ⟨R, hR⟩ : ∃ R, rtT kt K M C V F (nmS D) = R := ⟨_, rfl⟩
  obtain ⟨VO, hVO⟩ : ∃ VO, voT kt K M C V F (nmS D) = VO := ⟨_, rfl⟩
  rw [hR, hVO] at HD
  rw [hR, hVO]
  clear hW hg hm hO hO1 hF hN hlen hB hG hR hVO
  go_enter_defers Tryz.func58, Tryz.ntmps58
  go_wp2_with fail
  refine Calls.mono HL.out ?_
  rintro e w1 ⟨rfl, rfl⟩
  go_wp2_with fail
  refine Calls.mono HD.out ?_
  rintro e w2 ⟨gv, rfl, h1, h2, h3, h4, h7⟩
  have hw2 : w2.heap[wb]? = some (.cells (wC 1 g) 180 (0, 0)) := by rw [h4 wb (by omega) hgw.symm]; exact hwW
  have HR2 : Hid _ := h2
  clear h2
  go_wp2
  refine leaves_cons (f := 69) (args := #[.pointer (some ⟨wb, 0, none⟩)]) (by simp) (by simp [go_sem]) ?_
  refine (unlock_deferred muL ⟨wb, 0, none⟩ .returning w2 (cell_of_row _ _ _ _ 180 _ hw2) (frozen_of_row _ _ _ _ 180 hw2)).mono ?_
  rintro e u' w3 ⟨rfl, rfl, rfl⟩
  refine ⟨_, results_tmp3 rfl _ _ _, gv, rfl, by omega, ?_, ?_, ?_, (HCA.out.trans h7).set _ _⟩
  · unfold Rw
    rw [set_other _ _ _ _ _ (by omega)]; exact HR2.out
  · simp [World.setCell]; omega
  · intro j hj a1 a2
    rw [set_other _ _ _ _ _ a2, h4 j (by omega) a1]
    exact HFR.out j a2
end Go.Proofs.YtadinjaocnlglaaGreatDoor
