/-
  Where this program holds the lock's functions and types.
  The lock around a Writer's and a Vault's methods: what the method within answers.
  The walks of vault's NewWriter and the Writer's methods (nothing refused).
  Rows of objects (a name, data) that are owned; the walk of vaultkeep's some.
  The order of texts; a list that is sorted by name, and one more object put in its place.
-/
import Derived.Test.YtadinjaocnlglaaGreatDoorProg
import Derived.Conc.MuLone
import Derived.KernelRfl
import Derived.Test.YtadinjaocnlglaaGreatDoorZ05
import Derived.Defers
import Derived.Test.YtadinjaocnlglaaGreatDoorZ17
import Derived.Deep.RegionLaw
namespace Go.Proofs.YtadinjaocnlglaaGreatDoor
abbrev muN : Go.Conc.Locks.MuLink := { lock := 68, unlock := 69, ilock := 118, iunlock := 119, lockSlow := 173, unlockSlow := 176, disable := 169, enable := 171, acquire := 172, relMerge := 174, cas32 := 170, add32 := 175, tMutex := 156, tIMutex := 154, tPMutex := 218, tPIMutex := 277, tPI32 := 279, tUP := 281, tNoCopy := 151, tU32 := 152 }
theorem muL : Go.Conc.Locks.MuLib Tryz.prog muN :=
  ⟨Tryz.func68, Tryz.func69, Tryz.func118, Tryz.func119, Tryz.func169, Tryz.func171, Tryz.func172, Tryz.func174, Tryz.func170, Tryz.func175,
   Tryz.underlying154, Tryz.runUnderlying154, Tryz.sizeOf154, Tryz.isAgg154, Tryz.zeroValue154,
   Tryz.underlying156, Tryz.runUnderlying156, Tryz.sizeOf156, Tryz.isAgg156, Tryz.zeroValue156,
   Tryz.underlying218, Tryz.runUnderlying218, Tryz.sizeOf218, Tryz.isAgg218, Tryz.zeroValue218,
   Tryz.underlying277, Tryz.runUnderlying277, Tryz.sizeOf277, Tryz.isAgg277, Tryz.zeroValue277,
   Tryz.underlying279, Tryz.runUnderlying279, Tryz.sizeOf279, Tryz.isAgg279, Tryz.zeroValue279,
   Tryz.underlying281, Tryz.runUnderlying281, Tryz.sizeOf281, Tryz.isAgg281, Tryz.zeroValue281,
   Tryz.underlying151, Tryz.runUnderlying151, Tryz.sizeOf151, Tryz.isAgg151, Tryz.zeroValue151,
   Tryz.underlying21, Tryz.runUnderlying21, Tryz.sizeOf21, Tryz.isAgg21, Tryz.zeroValue21, (by kernel_rfl)⟩
end Go.Proofs.YtadinjaocnlglaaGreatDoor
namespace Go.Proofs.YtadinjaocnlglaaGreatDoor
open Go.RowKit Go.MuLone
set_option maxRecDepth 100000
set_option maxHeartbeats 1000000
/-- the cells of what holds a lock -/
def wC (x : Int) (g : Nat) : Array Value := #[.int .i32 x, .int .u32 0, .pointer (some ⟨g, 0, none⟩)]
/-- behind a call within, the lock is given back -/
def Lk (T wb g : Nat) (Q : Value → World → Prop) (v : Value) (w' : World) : Prop := w'.heap[wb]? = some (.cells (wC 1 g) T (0, 0)) ∧ Q v (w'.setCell ⟨wb, 0, none⟩ (.int .i32 0))
theorem lk_unpack (wb g : Nat) (w : World) (Q : Value → World → Prop) (hwb : w.heap[wb]? = some (.cells (wC 0 g) 159 (0, 0)))
    (H : Calls Tryz.prog 73 #[.pointer (some ⟨g, 0, none⟩)] (w.setCell ⟨wb, 0, none⟩ (.int .i32 1)) fun e w' => ∃ a b, e = .returned (.tuple #[a, b]) ∧ Lk 159 wb g Q (.tuple #[a, b]) w') :
    Calls Tryz.prog 27 #[.pointer (some ⟨wb, 0, none⟩)] w fun e w' => ∃ a b, e = .returned (.tuple #[a, b]) ∧ Q (.tuple #[a, b]) w' := by
  have h0 : w.cell? ⟨wb, 0, none⟩ = some (.int .i32 0) := cell_of_row _ _ _ _ 159 _ hwb
  have f0 : w.frozen? ⟨wb, 0, none⟩ = false := frozen_of_row _ _ _ _ 159 hwb
  have HL : Hid _ := lock_free muL ⟨wb, 0, none⟩ w h0 f0
  obtain ⟨W, hW⟩ : ∃ W, w.setCell ⟨wb, 0, none⟩ (.int .i32 1) = W := ⟨_, rfl⟩
  have hwW : W.heap[wb]? = some (.cells (wC 1 g) 159 (0, 0)) := by rw [← hW]; have := set_heap w wb 0 (.int .i32 1) _ _ _ hwb; simpa [wC] using this
  have c2 : W.cell? ⟨wb, 2, none⟩ = some (.pointer (some ⟨g, 0, none⟩)) := cell_of_row _ _ _ _ 159 _ hwW
  rw [hW] at HL H
  have HD : Hid _ := H
  clear hW H hwW
  go_enter_defers Tryz.func27, Tryz.ntmps27
  go_wp2_with fail
  refine Calls.mono HL.out ?_
  rintro e w1 ⟨rfl, rfl⟩
  go_wp2_with fail
  refine Calls.mono HD.out ?_
  rintro e w2 ⟨a, b, rfl, hw2, hQ⟩
  go_wp2
  refine leaves_cons (f := 69) (args := #[.pointer (some ⟨wb, 0, none⟩)]) (by simp) (by simp [go_sem]) ?_
  refine (unlock_deferred muL ⟨wb, 0, none⟩ .returning w2 (cell_of_row _ _ _ _ 159 _ hw2) (frozen_of_row _ _ _ _ 159 hw2)).mono ?_
  rintro e u' w3 ⟨rfl, rfl, rfl⟩
  exact ⟨_, results_tmp2 rfl _ _ _, a, b, rfl, hQ⟩
end Go.Proofs.YtadinjaocnlglaaGreatDoor
namespace Go.Proofs.YtadinjaocnlglaaGreatDoor
open Go.RowKit Go.Maps Go.MuLone
set_option maxRecDepth 100000
set_option maxHeartbeats 1000000
theorem nwriter_ok (K M C V : Nat) (w : World) (hK : 1 ≤ K) (hKM : K + M ≤ 255) (hC : 1 ≤ C) (hC2 : C ≤ 64) (hV : 1 ≤ V) (hV2 : V ≤ 16) :
    Calls Tryz.prog 48 #[pV K M C V] w fun e w' => ∃ m, e = .returned (.tuple #[.pointer (some ⟨m + 2, 0, none⟩), .nilIface]) ∧ w.heap.size ≤ m ∧ w'.heap[m]? = some (.map #[] 0) ∧ w'.heap[m + 1]? = some (.cells (dC K M C V (.map (some m)) (.pointer none) 0 0) 252 (0, 0)) ∧ w'.heap[m + 2]? = some (.cells (wC 0 (m + 1)) 180 (0, 0)) ∧ w'.heap.size = m + 3 ∧ Below w.heap.size w w' := by
  have H : Hid (∀ W, _) := fun W => new_ok K M C V W hK hKM hC hC2 hV hV2
  unfold pV at H ⊢
  go_enter Tryz.func48, Tryz.ntmps48
  go_wp2_with fail
  refine Calls.mono (H.out _) ?_
  rintro e w1 ⟨m, rfl, h1, h2, h3, h4, h5⟩
  have HB : Hid (Below w.heap.size w w1) := by
    have h0 : Below w.heap.size w (w.alloc (Obj.cells #[Value.int IntKind.i64 K, Value.int IntKind.i64 M, Value.int IntKind.i64 C, Value.int IntKind.i64 V] 23)) := (Below.refl _ _).alloc (Nat.le_refl _) _
    exact h0.trans (h5.mono h0.size)
  clear H h5
  go_wp2
  go_ret2
  have hs : w.heap.size ≤ m := by simp at h1; omega
  refine ⟨m, ?_, hs, ?_, ?_, ?_, ?_, ?_⟩
  · simp
  · rw [heap_alloc_old _ _ (by omega)]; exact h2
  · rw [heap_alloc_old _ _ (by omega)]; exact h3
  · have := heap_alloc_new w1 (.cells (wC 0 (m + 1)) 180)
    rw [h4] at this
    simpa [wC] using this
  · simp [h4]
  · exact HB.out.alloc HB.out.size _
theorem wbegin_ok (wb g m K M C V n len : Nat) (last : Value) (D : DataW Nat) (s : ByteArray) (w : World) (hwb : w.heap[wb]? = some (.cells (wC 0 g) 180 (0, 0)))
    (hg : w.heap[g]? = some (.cells (dC K M C V (.map (some m)) last n len) 252 (0, 0))) (hm : w.ownsMap Tryz.prog 9 pE m n D) (hno : Maps.has D (.string s.data.toList) = false)
    (hs1 : 1 ≤ s.size) (hs2 : s.size ≤ 255) (hn : n < 16) :
    Calls Tryz.prog 56 #[.pointer (some ⟨wb, 0, none⟩), .string s] w fun e w' => e = .returned .nilIface ∧ ∃ ob, w.heap.size ≤ ob ∧ w'.heap[wb]? = some (.cells (wC 0 g) 180 (0, 0)) ∧
      w'.heap[ob]? = some (.cells #[.int .i64 n, .slice none 0 0] 261 (0, 0)) ∧ w'.heap[g]? = some (.cells (dC K M C V (.map (some m)) (.pointer (some ⟨ob, 0, none⟩)) (n + 1) len) 252 (0, 0)) ∧
      w'.ownsMap Tryz.prog 9 pE m (n + 1) (D.put (.string s.data.toList) (.held ob)) ∧ w.heap.size ≤ w'.heap.size ∧ (∀ j, j < w.heap.size → j ≠ g → j ≠ m → j ≠ wb → w'.heap[j]? = w.heap[j]?) ∧ Calm w w' := by
  have hgw : g ≠ wb := fun e => by subst e; rw [hg] at hwb; simp at hwb
  have hmw : m ≠ wb := fun e => by subst e; obtain ⟨es, ck, h1, _⟩ := hm; rw [h1] at hwb; simp at hwb
  have hgl := (Array.getElem?_eq_some_iff.1 hg).1
  have hwl := (Array.getElem?_eq_some_iff.1 hwb).1
  have h0 : w.cell? ⟨wb, 0, none⟩ = some (.int .i32 0) := cell_of_row _ _ _ _ 180 _ hwb
  have f0 : w.frozen? ⟨wb, 0, none⟩ = false := frozen_of_row _ _ _ _ 180 hwb
  have HL : Hid _ := lock_free muL ⟨wb, 0, none⟩ w h0 f0
  obtain ⟨W, hW⟩ : ∃ W, w.setCell ⟨wb, 0, none⟩ (.int .i32 1) = W := ⟨_, rfl⟩
  have hwW : W.heap[wb]? = some (.cells (wC 1 g) 180 (0, 0)) := by rw [← hW]; have := set_heap w wb 0 (.int .i32 1) _ _ _ hwb; simpa [wC] using this
  have HD : Hid _ := dbegin_ok g m K M C V n len last D s W (by rw [← hW, set_other _ _ _ _ _ hgw]; exact hg) (by rw [← hW]; exact hm.setCell (by simpa using hmw) _) hno hs1 hs2 hn
  have HCA : Hid (Calm w W) := by show Calm _ _; rw [← hW]; exact ⟨rfl, rfl, rfl⟩
  have HFR : Hid (∀ j, j ≠ wb → W.heap[j]? = w.heap[j]?) := fun j hj => by rw [← hW]; exact set_other _ _ _ _ _ hj
  have hsz : W.heap.size = w.heap.size := by rw [← hW]; simp [World.setCell]
  have c2 : W.cell? ⟨wb, 2, none⟩ = some (.pointer (some ⟨g, 0, none⟩)) := cell_of_row _ _ _ _ 180 _ hwW
  rw [hW] at HL
  clear hW hg hm hno
  go_enter_defers Tryz.func56, Tryz.ntmps56
  go_wp2_with fail
  refine Calls.mono HL.out ?_
  rintro e w1 ⟨rfl, rfl⟩
  go_wp2_with fail
  refine Calls.mono HD.out ?_
  rintro e w2 ⟨rfl, ob, h1, h2, h3, h4, h5, h6, h7⟩
  have hw2 : w2.heap[wb]? = some (.cells (wC 1 g) 180 (0, 0)) := by rw [h6 wb (by omega) hgw.symm hmw.symm]; exact hwW
  go_wp2
  refine leaves_cons (f := 69) (args := #[.pointer (some ⟨wb, 0, none⟩)]) (by simp) (by simp [go_sem]) ?_
  refine (unlock_deferred muL ⟨wb, 0, none⟩ .returning w2 (cell_of_row _ _ _ _ 180 _ hw2) (frozen_of_row _ _ _ _ 180 hw2)).mono ?_
  rintro e u' w3 ⟨rfl, rfl, rfl⟩
  refine ⟨_, results_tmp rfl _ _ _, rfl, ob, by omega, ?_, ?_, ?_, ?_, ?_, ?_, (HCA.out.trans h7).set _ _⟩
  · have := set_heap w2 wb 0 (.int .i32 0) _ _ _ hw2
    simpa [wC] using this
  · rw [set_other _ _ _ _ _ (by omega)]; exact h2
  · rw [set_other _ _ _ _ _ hgw]; exact h3
  · exact h4.setCell (by simpa using hmw) _
  · simp [World.setCell]; omega
  · intro j hj a1 a2 a3
    rw [set_other _ _ _ _ _ a3, h6 j (by omega) a1 a2]
    exact HFR.out j a3
theorem wwrite_ok (wb g ob K M C V n len k base : Nat) (num : Value) (objv dv : Value) (xs : List Value) (s : ByteArray) (w : World) (hwb : w.heap[wb]? = some (.cells (wC 0 g) 180 (0, 0)))
    (hg : w.heap[g]? = some (.cells (dC K M C V objv (.pointer (some ⟨ob, 0, none⟩)) n len) 252 (0, 0)))
    (ho : w.heap[ob]? = some (.cells #[num, dv] 261 (0, 0))) (hown : w.ownsRow base 5 1 dv k xs) (hb : base ≤ w.heap.size) (hlen : len + s.size ≤ 4096) (hk : k ≤ 4096) :
    Calls Tryz.prog 57 #[.pointer (some ⟨wb, 0, none⟩), .string s] w fun e w' => e = .returned (.tuple #[.int .i64 s.size, .nilIface]) ∧ ∃ dv', w'.heap[wb]? = some (.cells (wC 0 g) 180 (0, 0)) ∧
      w'.heap[g]? = some (.cells (dC K M C V objv (.pointer (some ⟨ob, 0, none⟩)) n (len + s.size)) 252 (0, 0)) ∧ w'.heap[ob]? = some (.cells #[num, dv'] 261 (0, 0)) ∧ w'.ownsRow base 5 1 dv' (k + s.size) (xs ++ Lib.strCells s) ∧
      w.heap.size ≤ w'.heap.size ∧ (∀ j, j < w.heap.size → j ≠ g → j ≠ ob → j ≠ wb → some j ≠ dv.ownBlock → w'.heap[j]? = w.heap[j]?) ∧ Calm w w' := by
  have hgw : g ≠ wb := fun e => by subst e; rw [hg] at hwb; simp at hwb
  have how : ob ≠ wb := fun e => by subst e; rw [ho] at hwb; simp at hwb
  have hwd : some wb ≠ dv.ownBlock := ne_own hown hwb (by decide)
  have hwl := (Array.getElem?_eq_some_iff.1 hwb).1
  have h0 : w.cell? ⟨wb, 0, none⟩ = some (.int .i32 0) := cell_of_row _ _ _ _ 180 _ hwb
  have f0 : w.frozen? ⟨wb, 0, none⟩ = false := frozen_of_row _ _ _ _ 180 hwb
  have HL : Hid _ := lock_free muL ⟨wb, 0, none⟩ w h0 f0
  obtain ⟨W, hW⟩ : ∃ W, w.setCell ⟨wb, 0, none⟩ (.int .i32 1) = W := ⟨_, rfl⟩
  have hwW : W.heap[wb]? = some (.cells (wC 1 g) 180 (0, 0)) := by rw [← hW]; have := set_heap w wb 0 (.int .i32 1) _ _ _ hwb; simpa [wC] using this
  have hsz : W.heap.size = w.heap.size := by rw [← hW]; simp [World.setCell]
  have HD : Hid _ := dwrite_ok g ob K M C V n len k base num objv dv xs s W (by rw [← hW, set_other _ _ _ _ _ hgw]; exact hg) (by rw [← hW, set_other _ _ _ _ _ how]; exact ho) (by rw [← hW]; exact own_set hown hwb (by decide)) (by omega) hlen hk
  have HCA : Hid (Calm w W) := by show Calm _ _; rw [← hW]; exact ⟨rfl, rfl, rfl⟩
  have HFR : Hid (∀ j, j ≠ wb → W.heap[j]? = w.heap[j]?) := fun j hj => by rw [← hW]; exact set_other _ _ _ _ _ hj
  have c2 : W.cell? ⟨wb, 2, none⟩ = some (.pointer (some ⟨g, 0, none⟩)) := cell_of_row _ _ _ _ 180 _ hwW
  rw [hW] at HL
  clear hW hg ho hown
  go_enter_defers Tryz.func57, Tryz.ntmps57
  go_wp2_with fail
  refine Calls.mono HL.out ?_
  rintro e w1 ⟨rfl, rfl⟩
  go_wp2_with fail
  refine Calls.mono HD.out ?_
  rintro e w2 ⟨rfl, dv', h1, h2, h3, h4, h5, h7⟩
  have hw2 : w2.heap[wb]? = some (.cells (wC 1 g) 180 (0, 0)) := by rw [h5 wb (by omega) hgw.symm how.symm hwd]; exact hwW
  have HO2 : Hid _ := h3
  clear h3
  go_wp2
  refine leaves_cons (f := 69) (args := #[.pointer (some ⟨wb, 0, none⟩)]) (by simp) (by simp [go_sem]) ?_
  refine (unlock_deferred muL ⟨wb, 0, none⟩ .returning w2 (cell_of_row _ _ _ _ 180 _ hw2) (frozen_of_row _ _ _ _ 180 hw2)).mono ?_
  rintro e u' w3 ⟨rfl, rfl, rfl⟩
  refine ⟨_, results_tmp2 rfl _ _ _, rfl, dv', ?_, ?_, ?_, ?_, ?_, ?_, (HCA.out.trans h7).set _ _⟩
  · have := set_heap w2 wb 0 (.int .i32 0) _ _ _ hw2
    simpa [wC] using this
  · rw [set_other _ _ _ _ _ hgw]; exact h1
  · rw [set_other _ _ _ _ _ how]; exact h2
  · exact own_set HO2.out hw2 (by decide)
  · simp [World.setCell]; omega
  · intro j hj a1 a2 a3 a4
    rw [set_other _ _ _ _ _ a3, h5 j (by omega) a1 a2 a4]
    exact HFR.out j a3
theorem wclose_ok (kt : Nat → Int) (wb g m K M C V n len : Nat) (last : Value) (D : DataW Nat) (F : List UInt8 → List UInt8) (w : World) (hwb : w.heap[wb]? = some (.cells (wC 0 g) 180 (0, 0))) (hw1 : 4 ≤ wb)
    (hg : w.heap[g]? = some (.cells (dC K M C V (.map (some m)) last n len) 252 (0, 0))) (hg1 : 4 ≤ g) (hm : w.ownsMap Tryz.prog 9 pE m n D) (hO : Obs w D F) (hn : n ≤ 16) (hF : ∀ s, s ∈ strKeys D → (F s).length ≤ 4096) (hN : ∀ s, s ∈ strKeys D → s.length ≤ 1000)
    (hlen : len = (dtT F (nmS D)).size) (hl1 : len ≤ 100000) (hK1 : 1 ≤ K) (hKM : K + M ≤ 255) (hC1 : 1 ≤ C) (hC2 : C ≤ 64) (hV1 : 1 ≤ V) (hV2 : V ≤ 16) (hB : nbT K M C (dtT F (nmS D)) ≤ 512) (hG : Gd kt w) :
    Calls Tryz.prog 58 #[.pointer (some ⟨wb, 0, none⟩)] w fun e w' => ∃ gv, e = .returned (.tuple #[.slice (some ⟨gv, 0, none⟩) V V, .string (rtT kt K M C V F (nmS D)), .nilIface]) ∧ w.heap.size ≤ gv ∧ Rw w' gv V 9 (tX (voT kt K M C V F (nmS D))) ∧ w.heap.size ≤ w'.heap.size ∧ (∀ j, j < w.heap.size → j ≠ g → j ≠ wb → w'.heap[j]? = w.heap[j]?) ∧ Calm w w' := by
  have hgw : g ≠ wb := fun e => by subst e; rw [hg] at hwb; simp at hwb
  have hmw : m ≠ wb := fun e => by subst e; obtain ⟨es, ck, h1, _⟩ := hm; rw [h1] at hwb; simp at hwb
  have hwl := (Array.getElem?_eq_some_iff.1 hwb).1
  have h0 : w.cell? ⟨wb, 0, none⟩ = some (.int .i32 0) := cell_of_row _ _ _ _ 180 _ hwb
  have f0 : w.frozen? ⟨wb, 0, none⟩ = false := frozen_of_row _ _ _ _ 180 hwb
  have HL : Hid _ := lock_free muL ⟨wb, 0, none⟩ w h0 f0
  have hO1 : Obs (w.setCell ⟨wb, 0, none⟩ (.int .i32 1)) D F := fun s hs => by
    obtain ⟨ob, num, u, a1, a2, a3⟩ := hO s hs
    refine ⟨ob, num, u, a1, ?_, own_set a3 hwb (by decide)⟩
    rw [set_other]
    · exact a2
    · intro e; subst e; rw [hwb] at a2; simp at a2
  obtain ⟨W, hW⟩ : ∃ W, w.setCell ⟨wb, 0, none⟩ (.int .i32 1) = W := ⟨_, rfl⟩
  rw [hW] at hO1
  have hwW : W.heap[wb]? = some (.cells (wC 1 g) 180 (0, 0)) := by rw [← hW]; have := set_heap w wb 0 (.int .i32 1) _ _ _ hwb; simpa [wC] using this
  have hsz : W.heap.size = w.heap.size := by rw [← hW]; simp [World.setCell]
  have HD : Hid _ := dclose_ok kt g m K M C V n len last D F W (by rw [← hW, set_other _ _ _ _ _ hgw]; exact hg) hg1 (by rw [← hW]; exact hm.setCell (by simpa using hmw) _) hO1 hn hF hN hlen hl1 hK1 hKM hC1 hC2 hV1 hV2 hB (by rw [← hW]; exact hG.set hw1)
  have HCA : Hid (Calm w W) := by show Calm _ _; rw [← hW]; exact ⟨rfl, rfl, rfl⟩
  have HFR : Hid (∀ j, j ≠ wb → W.heap[j]? = w.heap[j]?) := fun j hj => by rw [← hW]; exact set_other _ _ _ _ _ hj
  have c2 : W.cell? ⟨wb, 2, none⟩ = some (.pointer (some ⟨g, 0, none⟩)) := cell_of_row _ _ _ _ 180 _ hwW
  rw [hW] at HL
  obtain ⟨R, hR⟩ : ∃ R, rtT kt K M C V F (nmS D) = R := ⟨_, rfl⟩
  obtain ⟨VO, hVO⟩ : ∃ VO, voT kt K M C V F (nmS D) = VO := ⟨_, rfl⟩
  rw [hR, hVO] at HD
  rw [hR, hVO]
  clear hW hg hm hO hO1 hF hN hlen hB hG hR hVO
  go_enter_defers Tryz.func58, Tryz.ntmps58
  go_wp2_with fail
  refine Calls.mono HL.out ?_
  rintro e w1 ⟨rfl, rfl⟩
  go_wp2_with fail
  refine Calls.mono HD.out ?_
  rintro e w2 ⟨gv, rfl, h1, h2, h3, h4, h7⟩
  have hw2 : w2.heap[wb]? = some (.cells (wC 1 g) 180 (0, 0)) := by rw [h4 wb (by omega) hgw.symm]; exact hwW
  have HR2 : Hid _ := h2
  clear h2
  go_wp2
  refine leaves_cons (f := 69) (args := #[.pointer (some ⟨wb, 0, none⟩)]) (by simp) (by simp [go_sem]) ?_
  refine (unlock_deferred muL ⟨wb, 0, none⟩ .returning w2 (cell_of_row _ _ _ _ 180 _ hw2) (frozen_of_row _ _ _ _ 180 hw2)).mono ?_
  rintro e u' w3 ⟨rfl, rfl, rfl⟩
  refine ⟨_, results_tmp3 rfl _ _ _, gv, rfl, by omega, ?_, ?_, ?_, (HCA.out.trans h7).set _ _⟩
  · unfold Rw
    rw [set_other _ _ _ _ _ (by omega)]; exact HR2.out
  · simp [World.setCell]; omega
  · intro j hj a1 a2
    rw [set_other _ _ _ _ _ a2, h4 j (by omega) a1]
    exact HFR.out j a2
end Go.Proofs.YtadinjaocnlglaaGreatDoor
namespace Go.Proofs.YtadinjaocnlglaaGreatDoor
open Go.RowKit
set_option maxRecDepth 100000
set_option maxHeartbeats 1000000
/-- a text, or its first n bytes -/
def smT (s : ByteArray) (n : Nat) : ByteArray := if n < s.size then s.extract 0 n else s
theorem smT_size (s : ByteArray) (n : Nat) : (smT s n).size ≤ n := by
  unfold smT
  split
  · rw [ByteArray.size_extract]; omega
  · omega
theorem some_any (s : ByteArray) (n : Nat) (N : Int) (w : World) (hN : N = (n : Int)) (hn : n ≤ 1000) :
    Calls Tryz.prog 55 #[.string s, .int .i64 N] w fun e w' => e = .returned (.string (smT s n)) ∧ w' = w := by
  subst hN
  by_cases hc : n < s.size
  · have E : Hid (smT s n = s.extract 0 n) := if_pos hc
    go_enter Tryz.func55, Tryz.ntmps55
    go_wp2
    go_ret
    rw [E.out]
    exact ⟨rfl, rfl⟩
  · have E : Hid (smT s n = s) := if_neg hc
    go_enter Tryz.func55, Tryz.ntmps55
    go_wp2
    go_ret
    rw [E.out]
    exact ⟨rfl, rfl⟩
abbrev Ob := ByteArray × ByteArray
def fC (F : Nat → Ob) (i : Nat) : Value := if i % 2 = 0 then .string (F (i / 2)).1 else .string (F (i / 2)).2
def objF (F : Nat → Ob) (n : Nat) : List Value := (List.range (n * 2)).map (fC F)
/-- a list of one's own that holds the first n of these objects -/
def OwnF (w : World) (B : Nat) (v : Value) (n : Nat) (F : Nat → Ob) : Prop := w.ownsRow B 72 2 v n (objF F n)
def updF (F : Nat → Ob) (k : Nat) (o : Ob) : Nat → Ob := fun i => if i = k then o else F i
theorem objF_len (F : Nat → Ob) (n : Nat) : (objF F n).length = n * 2 := by simp [objF]
theorem objF_get (F : Nat → Ob) (n i : Nat) (h : i < n * 2) : (objF F n)[i]? = some (fC F i) := by simp [objF, h]
theorem fC_even (F : Nat → Ob) (i : Nat) : fC F (i * 2) = .string (F i).1 := by
  unfold fC; rw [if_pos (by omega), show i * 2 / 2 = i by omega]
theorem fC_odd (F : Nat → Ob) (i : Nat) : fC F (i * 2 + 1) = .string (F i).2 := by
  unfold fC; rw [if_neg (by omega), show (i * 2 + 1) / 2 = i by omega]
theorem objF_congr (F G : Nat → Ob) (n : Nat) (h : ∀ i, i < n → F i = G i) : objF F n = objF G n := by
  apply List.map_congr_left
  intro i hi
  have := List.mem_range.1 hi
  unfold fC
  rw [h (i / 2) (by omega)]
theorem objF_next (F : Nat → Ob) (n : Nat) (o : Ob) : objF (updF F n o) (n + 1) = objF F n ++ [.string o.1, .string o.2] := by
  have e : (n + 1) * 2 = n * 2 + 1 + 1 := by omega
  have h1 : objF (updF F n o) n = objF F n := objF_congr _ _ _ (fun i hi => by simp [updF]; omega)
  unfold objF at h1 ⊢
  rw [e, List.range_succ, List.range_succ, List.map_append, List.map_append, h1]
  simp only [List.map_cons, List.map_nil, fC_even, fC_odd, updF, if_pos, List.append_assoc, List.singleton_append]
theorem objF_one (F : Nat → Ob) (n : Nat) : ∀ u ∈ objF F n, u.oneCell' = true := by
  intro u hu
  obtain ⟨i, _, rfl⟩ := List.mem_map.1 hu
  unfold fC
  split <;> rfl
theorem OwnF.congr {w : World} {B n : Nat} {v : Value} {F G : Nat → Ob} (h : OwnF w B v n F) (hc : ∀ i, i < n → F i = G i) : OwnF w B v n G := by
  unfold OwnF at *
  rw [← objF_congr F G n hc]; exact h
theorem OwnF.at {w : World} {B n : Nat} {v : Value} {F : Nat → Ob} (h : OwnF w B v n F) (h0 : 0 < n) : ∃ g cap, v = .slice (some ⟨g, 0, none⟩) n cap ∧ B ≤ g ∧ g < w.heap.size ∧ n ≤ cap := by
  rcases h.2 with ⟨_, h2⟩ | ⟨g, cap, cur, rfl, hb, hh, hc, _⟩
  · omega
  · exact ⟨g, cap, rfl, hb, (Array.getElem?_eq_some_iff.1 hh).1, hc⟩
theorem OwnF.c0 {w : World} {B n g cap : Nat} {F : Nat → Ob} (h : OwnF w B (.slice (some ⟨g, 0, none⟩) n cap) n F) (i : Nat) (hi : i < n) : w.cell? ⟨g, i * 2, none⟩ = some (.string (F i).1) := by
  have := h.cells (g := g) rfl (i * 2) _ (by rw [objF_get F n _ (by omega), fC_even])
  rw [Addr.add_lit] at this
  simpa using this
theorem OwnF.c1 {w : World} {B n g cap : Nat} {F : Nat → Ob} (h : OwnF w B (.slice (some ⟨g, 0, none⟩) n cap) n F) (i : Nat) (hi : i < n) : w.cell? ⟨g, i * 2 + 1, none⟩ = some (.string (F i).2) := by
  have := h.cells (g := g) rfl (i * 2 + 1) _ (by rw [objF_get F n _ (by omega), fC_odd])
  rw [Addr.add_lit] at this
  simpa using this
theorem OwnF.free {w : World} {B n g cap : Nat} {F : Nat → Ob} (h : OwnF w B (.slice (some ⟨g, 0, none⟩) n cap) n F) (k : Nat) : w.frozen? ⟨g, k, none⟩ = false := by
  rcases h.2 with ⟨h2, _⟩ | ⟨g', cap', cur, hv, hb, hh, hc, _⟩
  · cases h2
  · cases hv; exact frozen_of_row _ _ _ _ 72 hh
theorem OwnF.low {w w' : World} {B n b : Nat} {v : Value} {F : Nat → Ob} (h : OwnF w B v n F) (hlt : ∀ r, v.ownBlock = some r → r < b) (hb : Below b w w') : OwnF w' B v n F := own_low h hlt hb
theorem OwnF.put {w : World} {B n g cap : Nat} {F : Nat → Ob} (h : OwnF w B (.slice (some ⟨g, 0, none⟩) n cap) n F) (k : Nat) (hk : k < n) (o : Ob) :
    OwnF ((w.setCell ⟨g, k * 2, none⟩ (.string o.1)).setCell ⟨g, k * 2 + 1, none⟩ (.string o.2)) B (.slice (some ⟨g, 0, none⟩) n cap) n (updF F k o) := by
  rcases h.2 with ⟨h2, _⟩ | ⟨g', cap', cur, hv, hb, hh, hc1, hc2, hc3, hc4⟩
  · cases h2
  · cases hv
    refine ⟨objF_len _ _, .inr ⟨g, cap, _, rfl, hb, set_heap _ _ _ _ _ _ _ (set_heap _ _ _ _ _ _ _ hh), hc1, hc2, by simpa using hc3, ?_⟩⟩
    apply List.ext_getElem?
    intro i
    have hcur : ∀ j, j < n * 2 → cur[j]? = some (fC F j) := fun j hj => by
      have := congrArg (fun l => l[j]?) hc4
      simp only [objF_get F n j hj] at this
      rw [← this, List.getElem?_take, if_pos hj]
      simp
    by_cases hi : i < n * 2
    · rw [objF_get _ _ _ hi, List.getElem?_take, if_pos hi]
      have hsz : n * 2 ≤ cur.size := by omega
      simp only [Array.getElem?_toList, Array.getElem?_setIfInBounds, Array.size_setIfInBounds]
      by_cases e1 : k * 2 + 1 = i
      · subst e1
        rw [if_pos rfl, if_pos (by omega), fC_odd]
        simp [updF]
      · rw [if_neg e1]
        by_cases e0 : k * 2 = i
        · subst e0
          rw [if_pos rfl, if_pos (by omega), fC_even]
          simp [updF]
        · rw [if_neg e0, hcur i hi]
          have : i / 2 ≠ k := by omega
          simp [fC, updF, this]
    · rw [List.getElem?_take, if_neg hi, List.getElem?_eq_none (by rw [objF_len]; omega)]
theorem info36 : (Tryz.prog.info? 72).map (fun i => (i.zero, i.size, i.bytes)) = some (some (.agg #[.string ⟨#[]⟩, .string ⟨#[]⟩]), 2, 32) := by kernel_rfl
end Go.Proofs.YtadinjaocnlglaaGreatDoor
namespace Go.Proofs.YtadinjaocnlglaaGreatDoor
open Go.RowKit
set_option maxRecDepth 100000
theorem bl_irr : ∀ a : List UInt8, Op.bytesLess a a = false
  | [] => rfl
  | x :: r => by simp [Op.bytesLess, bl_irr r]
theorem bl_total : ∀ a b : List UInt8, Op.bytesLess a b = false → a ≠ b → Op.bytesLess b a = true
  | [], [], _, h => absurd rfl h
  | [], y :: s, h, _ => by simp [Op.bytesLess] at h
  | x :: r, [], _, _ => rfl
  | x :: r, y :: s, h, hne => by
    simp only [Op.bytesLess, Bool.or_eq_false_iff, decide_eq_false_iff_not, Bool.and_eq_false_iff, beq_eq_false_iff_ne] at h
    simp only [Op.bytesLess, Bool.or_eq_true, decide_eq_true_eq, Bool.and_eq_true, beq_iff_eq]
    obtain ⟨h1, h2⟩ := h
    by_cases e : y = x
    · right
      refine ⟨e, bl_total r s ?_ (fun e2 => hne (by rw [e, e2]))⟩
      rcases h2 with h2 | h2
      · exact absurd e.symm h2
      · exact h2
    · left
      have h1' : ¬ x.toNat < y.toNat := h1
      have e' : ¬ y.toNat = x.toNat := fun q => e (UInt8.toNat_inj.1 q)
      show y.toNat < x.toNat
      omega
theorem bl_trans : ∀ a b c : List UInt8, Op.bytesLess a b = true → Op.bytesLess b c = true → Op.bytesLess a c = true
  | _, [], _, h, _ => by simp [Op.bytesLess] at h
  | _, y :: s, [], _, h => by simp [Op.bytesLess] at h
  | [], y :: s, z :: t, _, _ => rfl
  | x :: r, y :: s, z :: t, h1, h2 => by
    simp only [Op.bytesLess, Bool.or_eq_true, decide_eq_true_eq, Bool.and_eq_true, beq_iff_eq] at h1 h2 ⊢
    have e (p q : UInt8) : p < q ↔ p.toNat < q.toNat := Iff.rfl
    rcases h1 with h1 | ⟨rfl, h1⟩
    · rcases h2 with h2 | ⟨rfl, h2⟩
      · left; rw [e] at *; omega
      · exact .inl h1
    · rcases h2 with h2 | ⟨rfl, h2⟩
      · exact .inl h2
      · exact .inr ⟨rfl, bl_trans r s t h1 h2⟩
/-- one text comes ahead of another -/
def tlt (a b : ByteArray) : Prop := Op.bytesLess a.toList b.toList = true
/-- good objects, sorted by name -/
structure Srt (q : Nat) (F : Nat → Ob) : Prop where
  lt : ∀ i j, i < j → j < q → tlt (F i).1 (F j).1
  sz : ∀ i, i < q → 1 ≤ (F i).1.size ∧ (F i).1.size ≤ 10 ∧ (F i).2.size ≤ 12
theorem Srt.ne {q : Nat} {F : Nat → Ob} (h : Srt q F) (i j : Nat) (hi : i < q) (hj : j < q) (hne : i ≠ j) : (F i).1 ≠ (F j).1 := by
  intro e
  rcases Nat.lt_or_gt_of_ne hne with h1 | h1
  · have := h.lt i j h1 hj
    rw [e] at this
    unfold tlt at this
    rw [bl_irr] at this
    cases this
  · have := h.lt j i h1 hi
    rw [e] at this
    unfold tlt at this
    rw [bl_irr] at this
    cases this
/-- x put at place k -/
def insF (F : Nat → Ob) (k : Nat) (x : Ob) : Nat → Ob := fun i => if i < k then F i else if i = k then x else F (i - 1)
theorem Srt.ins {q : Nat} {F : Nat → Ob} (h : Srt q F) (k : Nat) (x : Ob) (hk : k ≤ q) (h1 : 1 ≤ x.1.size) (h2 : x.1.size ≤ 10) (h3 : x.2.size ≤ 12) (hlo : ∀ j, j < k → tlt (F j).1 x.1) (hhi : ∀ j, k ≤ j → j < q → tlt x.1 (F j).1) : Srt (q + 1) (insF F k x) := by
  constructor
  · intro i j hij hj
    unfold insF
    by_cases a1 : i < k
    · rw [if_pos a1]
      by_cases b1 : j < k
      · rw [if_pos b1]; exact h.lt i j hij (by omega)
      · rw [if_neg b1]
        by_cases b2 : j = k
        · rw [if_pos b2]; exact hlo i a1
        · rw [if_neg b2]; exact h.lt i (j - 1) (by omega) (by omega)
    · rw [if_neg a1, if_neg (show ¬ j < k by omega), if_neg (show ¬ j = k by omega)]
      by_cases a2 : i = k
      · rw [if_pos a2]; exact hhi (j - 1) (by omega) (by omega)
      · rw [if_neg a2]; exact h.lt (i - 1) (j - 1) (by omega) (by omega)
  · intro i hi
    unfold insF
    by_cases a1 : i < k
    · rw [if_pos a1]; exact h.sz i (by omega)
    · rw [if_neg a1]
      by_cases a2 : i = k
      · rw [if_pos a2]; exact ⟨h1, h2, h3⟩
      · rw [if_neg a2]; exact h.sz (i - 1) (by omega)
theorem Srt.below {q : Nat} {F : Nat → Ob} (h : Srt q F) (k : Nat) (x : ByteArray) (hk : 0 < k) (hq : k ≤ q) (h1 : tlt (F (k - 1)).1 x) : ∀ j, j < k → tlt (F j).1 x := by
  intro j hj
  by_cases e : j = k - 1
  · rw [e]; exact h1
  · exact bl_trans _ _ _ (h.lt j (k - 1) (by omega) (by omega)) h1
/-- the places above j hold what lay one lower -/
def shF (F : Nat → Ob) (q : Nat) (x : Ob) (j : Nat) : Nat → Ob := fun i => if i ≤ j then (if i = q then x else F i) else F (i - 1)
theorem shF_start (F : Nat → Ob) (q : Nat) (x : Ob) (i : Nat) (hi : i < q + 1) : updF F q x i = shF F q x q i := by
  unfold updF shF
  rw [if_pos (show i ≤ q by omega)]
theorem shF_step (F : Nat → Ob) (q j : Nat) (x : Ob) (h0 : 0 < j) (hj : j ≤ q) (i : Nat) : updF (shF F q x j) j (shF F q x j (j - 1)) i = shF F q x (j - 1) i := by
  have e : shF F q x j (j - 1) = F (j - 1) := by unfold shF; rw [if_pos (by omega), if_neg (by omega)]
  rw [e]
  unfold updF shF
  by_cases h : i = j
  · subst h; rw [if_pos rfl, if_neg (by omega)]
  · rw [if_neg h]
    by_cases h2 : i ≤ j
    · rw [if_pos h2, if_neg (show ¬ i = q by omega), if_pos (show i ≤ j - 1 by omega)]
    · rw [if_neg h2, if_neg (show ¬ i ≤ j - 1 by omega)]
theorem shF_end (F : Nat → Ob) (q k : Nat) (x : Ob) (hk : k ≤ q) (i : Nat) : updF (shF F q x k) k x i = insF F k x i := by
  unfold updF shF insF
  by_cases h : i = k
  · subst h; rw [if_pos rfl, if_neg (by omega), if_pos rfl]
  · rw [if_neg h]
    by_cases h2 : i < k
    · rw [if_pos (by omega), if_neg (by omega), if_pos h2]
    · rw [if_neg (by omega), if_neg h2, if_neg h]
end Go.Proofs.YtadinjaocnlglaaGreatDoor
