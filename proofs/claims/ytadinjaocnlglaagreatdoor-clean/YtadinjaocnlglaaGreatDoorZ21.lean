/-
  The walk of draft's Close (nothing refused).
  Where this program holds the lock's functions and types.
  The lock around a Writer's and a Vault's methods: what the method within answers.
-/
import Derived.Test.YtadinjaocnlglaaGreatDoorZ20
import Derived.Defers
import Derived.Test.YtadinjaocnlglaaGreatDoorProg
import Derived.Conc.MuLone
import Derived.KernelRfl
import Derived.Test.YtadinjaocnlglaaGreatDoorZ05
namespace Go.Proofs.YtadinjaocnlglaaGreatDoor
open Go.RowKit Go.Maps
set_option maxRecDepth 100000
set_option maxHeartbeats 1000000
theorem letGo_d (g : Nat) (u : FrameMode) (w : World) (v4 v5 : Value) (h4 : w.cell? ⟨g, 4, none⟩ = some v4) (h5 : w.cell? ⟨g, 5, none⟩ = some v5) (hf : ∀ k, w.frozen? ⟨g, k, none⟩ = false) :
    CallsD Tryz.prog 152 #[.pointer (some ⟨g, 0, none⟩)] u w fun e u' w' => u' = u ∧ (e = .returned (.tuple #[]) ∧ w' = (w.setCell ⟨g, 4, none⟩ (.map none)).setCell ⟨g, 5, none⟩ (.pointer none)) := by
  have f4 := hf 4
  have f5 := hf 5
  go_enter_d Tryz.func152, Tryz.ntmps152
  go_wp2
  go_end0
  exact ⟨rfl, rfl⟩
theorem Obs.set {w : World} {D : DataW Nat} {F : List UInt8 → List UInt8} {g k : Nat} {v : Value} {cs : Array Value} (h : Obs w D F) (hg : w.heap[g]? = some (.cells cs 252 (0, 0))) : Obs (w.setCell ⟨g, k, none⟩ v) D F := fun s hs => by
  obtain ⟨ob, num, u, h1, h2, h3⟩ := h s hs
  refine ⟨ob, num, u, h1, ?_, own_set h3 hg (by decide)⟩
  rw [set_other]
  · exact h2
  · intro e; subst e; rw [hg] at h2; simp at h2
theorem Gd.set {kt : Nat → Int} {w : World} {g k : Nat} {v : Value} (h : Gd kt w) (hg : 4 ≤ g) : Gd kt (w.setCell ⟨g, k, none⟩ v) :=
  ⟨fun j hj => (World.cell?_of_block (set_other w g k 2 v (by omega))).trans (h.tab j hj), by have := h.one; simpa [World.setCell] using this⟩
/-- a Draft's cells when it is closed -/
def dX (K M C V : Nat) (obj last : Value) (n len : Nat) : Array Value :=
  #[.int .i64 K, .int .i64 M, .int .i64 C, .int .i64 V, obj, last, .int .i64 n, .int .i64 len, .bool false, .int .i64 0, .int .i64 0, .bool true]
theorem dclose_full (kt : Nat → Int) (g m K M C V n len : Nat) (last : Value) (D : DataW Nat) (F : List UInt8 → List UInt8) (w : World)
    (hg : w.heap[g]? = some (.cells (dC K M C V (.map (some m)) last n len) 252 (0, 0))) (hg1 : 4 ≤ g) (hm : w.ownsMap Tryz.prog 9 pE m n D) (hO : Obs w D F) (hn : n ≤ 16) (hF : ∀ s, s ∈ strKeys D → (F s).length ≤ 4096) (hN : ∀ s, s ∈ strKeys D → s.length ≤ 1000)
    (hlen : len = (dtT F (nmS D)).size) (hl1 : len ≤ 100000) (hK1 : 1 ≤ K) (hKM : K + M ≤ 255) (hC1 : 1 ≤ C) (hC2 : C ≤ 64) (hV1 : 1 ≤ V) (hV2 : V ≤ 16) (hB : nbT K M C (dtT F (nmS D)) ≤ 512) (hG : Gd kt w) :
    Calls Tryz.prog 103 #[.pointer (some ⟨g, 0, none⟩)] w fun e w' => ∃ gv, e = .returned (.tuple #[.slice (some ⟨gv, 0, none⟩) V V, .string (rtT kt K M C V F (nmS D)), .nilIface]) ∧ w.heap.size ≤ gv ∧ Rw w' gv V 9 (tX (voT kt K M C V F (nmS D))) ∧ w.heap.size ≤ w'.heap.size ∧ (∀ j, j < w.heap.size → j ≠ g → w'.heap[j]? = w.heap[j]?) ∧ Calm w w' ∧ w'.heap[g]? = some (.cells (dX K M C V (.map none) (.pointer none) n len) 252 (0, 0)) := by
  have c8 : w.cell? ⟨g, 8, none⟩ = some (.bool false) := cell_of_row _ _ _ _ 252 _ hg
  have c11 : w.cell? ⟨g, 11, none⟩ = some (.bool false) := cell_of_row _ _ _ _ 252 _ hg
  have f11 : w.frozen? ⟨g, 11, none⟩ = false := frozen_of_row _ _ _ _ 252 hg
  have hmg : m ≠ g := fun e => by subst e; obtain ⟨es, ck, h1, _⟩ := hm; rw [h1] at hg; simp at hg
  obtain ⟨W, hW⟩ : ∃ W, w.setCell ⟨g, 11, none⟩ (.bool true) = W := ⟨_, rfl⟩
  have hgW : W.heap[g]? = some (.cells (dX K M C V (.map (some m)) last n len) 252 (0, 0)) := by
    rw [← hW]; have := set_heap w g 11 (.bool true) _ _ _ hg; simpa [dC, dX] using this
  have HM : Hid (W.ownsMap Tryz.prog 9 pE m n D) := by show World.ownsMap _ _ _ _ _ _ _; rw [← hW]; exact hm.setCell (by simpa using hmg) _
  have HO : Hid (Obs W D F) := by show Obs _ _ _; rw [← hW]; exact hO.set hg
  have HG : Hid (Gd kt W) := by show Gd _ _; rw [← hW]; exact hG.set hg1
  have HFR : Hid (∀ j, j ≠ g → W.heap[j]? = w.heap[j]?) := fun j hj => by rw [← hW]; exact set_other _ _ _ _ _ hj
  have HSZ : Hid (W.heap.size = w.heap.size) := by show _ = _; rw [← hW]; simp [World.setCell]
  have HCA : Hid (Calm w W) := by show Calm _ _; rw [← hW]; exact ⟨rfl, rfl, rfl⟩
  have HF : Hid _ := hF
  have HN : Hid _ := hN
  have c8' : W.cell? ⟨g, 8, none⟩ = some (.bool false) := cell_of_row _ _ _ _ 252 _ hgW
  have hgl : g < W.heap.size := (Array.getElem?_eq_some_iff.1 hgW).1
  have HLEN : Hid _ := hlen
  have HB : Hid _ := hB
  have HMG : Hid _ := hmg
  clear hg hm hO hF hN hG hlen hB hmg
  go_enter_defers Tryz.func103, Tryz.ntmps103
  go_wp2_with fail
  clear hW c8 c11 f11 c8'
  have d0 : W.cell? ⟨g, 0, none⟩ = some (.int .i64 K) := cell_of_row _ _ _ _ 252 _ hgW
  have d1 : W.cell? ⟨g, 1, none⟩ = some (.int .i64 M) := cell_of_row _ _ _ _ 252 _ hgW
  have d2 : W.cell? ⟨g, 2, none⟩ = some (.int .i64 C) := cell_of_row _ _ _ _ 252 _ hgW
  have d3 : W.cell? ⟨g, 3, none⟩ = some (.int .i64 V) := cell_of_row _ _ _ _ 252 _ hgW
  have d7 : W.cell? ⟨g, 7, none⟩ = some (.int .i64 len) := cell_of_row _ _ _ _ 252 _ hgW
  have hz0 : 0 < K * C := Nat.mul_pos hK1 hC1
  have hz1 : K * C ≤ 100000 := Nat.le_trans (Nat.mul_le_mul (show K ≤ 255 by omega) hC2) (by omega)
  have H29 : Hid (∀ X, Calls Tryz.prog 154 #[.agg #[.int .i64 K, .int .i64 M, .int .i64 C, .int .i64 V], .int .i64 len] X fun e w' => e = .returned (.int .i64 (nst (K * C) len * (K + M) : Nat)) ∧ Below X.heap.size X w') := fun X => countBlocks_any K M C V len (K * C) X rfl hz0 hz1 hl1 (by omega) (by omega)
  have hcnt : nst (K * C) len * (K + M) ≤ 512 := by have := HB.out; unfold nbT at this; rw [← HLEN.out] at this; exact this
  have HCNT : Hid (nst (K * C) len * (K + M) = nbT K M C (dtT F (nmS D))) := by show _ = _; unfold nbT; rw [← HLEN.out]
  have HH29 : Hid _ := H29
  obtain ⟨cn, hcn⟩ : ∃ cn, nst (K * C) len * (K + M) = cn := ⟨_, rfl⟩
  rw [hcn] at H29 hcnt HCNT
  clear hcn HH29
  have hc1 : ¬ ((cn : Int) > 512) := by omega
  go_region_held3 (fun w2 => w2.cell? ⟨g, 0, none⟩ = some (.int .i64 K) ∧ w2.cell? ⟨g, 1, none⟩ = some (.int .i64 M) ∧ w2.cell? ⟨g, 2, none⟩ = some (.int .i64 C) ∧ w2.cell? ⟨g, 3, none⟩ = some (.int .i64 V) ∧ w2.cell? ⟨g, 7, none⟩ = some (.int .i64 len)) (go_keep) ((go_at_call 154; refine Calls.mono (H29.out _) ?_; rintro e w2 ⟨rfl, hb2⟩; have hB2 : Below W.heap.size W w2 := (by first | exact hb2 | exact ((Below.refl _ _).drew).trans hb2); have q0 : w2.cell? ⟨g, 0, none⟩ = some (.int .i64 K) := ((hB2.cell (p := ⟨g, 0, none⟩) hgl).trans d0); have q1 : w2.cell? ⟨g, 1, none⟩ = some (.int .i64 M) := ((hB2.cell (p := ⟨g, 1, none⟩) hgl).trans d1); have q2 : w2.cell? ⟨g, 2, none⟩ = some (.int .i64 C) := ((hB2.cell (p := ⟨g, 2, none⟩) hgl).trans d2); have q3 : w2.cell? ⟨g, 3, none⟩ = some (.int .i64 V) := ((hB2.cell (p := ⟨g, 3, none⟩) hgl).trans d3); have q7 : w2.cell? ⟨g, 7, none⟩ = some (.int .i64 len) := ((hB2.cell (p := ⟨g, 7, none⟩) hgl).trans d7)))
  have HB2 : Hid (Below W.heap.size W w2) := hB2
  have HM2 : Hid (w2.ownsMap Tryz.prog 9 pE m n D) := by
    obtain ⟨es, ck, h1, h2⟩ := HM.out
    exact ⟨es, ck, by rw [hB2.block m HM.out.lt]; exact h1, h2⟩
  have HO2 : Hid (Obs w2 D F) := HO.out.low (Nat.le_refl _) hB2
  have HG2 : Hid (Gd kt w2) := HG.out.below hB2
  have hg2 : w2.heap[g]? = some (.cells (dX K M C V (.map (some m)) last n len) 252 (0, 0)) := by rw [hB2.block g hgl]; exact hgW
  clear hB2 hb2 q0 q1 q2 q3 q7 d0 d1 d2 d3 d7 HM HO HG hgW H29
  go_wp2_with fail
  refine (sorted_any g m K M C V n len last D F w2 (.inr (cell_of_row _ _ _ _ 252 _ hg2)) HM2.out HO2.out hn HF.out HN.out).mono ?_
  rintro e w3 ⟨aE, cE, rfl, hE3, hb3⟩
  have HE3 : Hid (w3.ownsRow w2.heap.size 70 2 (.slice aE (nmS D).length cE) (nmS D).length (entC F (nmS D) (nmS D).length)) := hE3
  have hg3 : w3.heap[g]? = some (.cells (dX K M C V (.map (some m)) last n len) 252 (0, 0)) := by rw [hb3.block g (Array.getElem?_eq_some_iff.1 hg2).1]; exact hg2
  have HG3 : Hid (Gd kt w3) := HG2.out.below hb3
  have HB3 : Hid (Below W.heap.size W w3) := HB2.out.trans (hb3.mono HB2.out.size)
  have hT16 : (nmS D).length ≤ 16 := by rw [nmS_len]; have := HM2.out.size_le; omega
  clear hE3 hb3 HM2 HO2 HG2 HB2 hg2
  go_wp2_with fail
  have HN2 : Hid (∀ j, (nmT (nmS D) j).size ≤ 1000) := fun j => by
    unfold nmT
    show ((nmS D).getD j []).toArray.size ≤ 1000
    rw [List.size_toArray, List.getD_eq_getElem?_getD]
    cases h : (nmS D)[j]? with
    | none => simp
    | some x => exact HN.out x (nmS_mem (List.mem_of_getElem? h))
  have HL2 : Hid (∀ j, lnT F (nmS D) j ≤ 100000) := fun j => by
    show lnT F (nmS D) j ≤ 100000
    unfold lnT
    split
    · rename_i x h
      have := HF.out x (nmS_mem (List.mem_of_getElem? h))
      omega
    · omega
  have H32 : Hid (∀ X, Calls Tryz.prog 156 #[.agg #[.int .i64 K, .int .i64 M, .int .i64 C, .int .i64 V], .string (dtT F (nmS D))] X fun e w' => ∃ v, e = .returned v ∧ w'.ownsRow X.heap.size 9 1 v (nbT K M C (dtT F (nmS D))) (blkV (strm (K * C) (dtT F (nmS D))) (K * C) K M C (nst (K * C) (dtT F (nmS D)).size)) ∧ Below X.heap.size X w' ∧ (nst (K * C) (dtT F (nmS D)).size = 0 → v = .slice none 0 0)) := fun X => blocks_any K M C V (K * C) (dtT F (nmS D)) X rfl hK1 hC1 hKM (by omega) hz1 (by rw [← HLEN.out]; exact hl1)
  have H31 : Hid (∀ X a c, Below w3.heap.size w3 X → X.ownsRow w3.heap.size 9 1 (.slice a (nbT K M C (dtT F (nmS D))) c) (nbT K M C (dtT F (nmS D))) (blkV (strm (K * C) (dtT F (nmS D))) (K * C) K M C (nst (K * C) (dtT F (nmS D)).size)) → (nst (K * C) (dtT F (nmS D)).size = 0 → Value.slice a (nbT K M C (dtT F (nmS D))) c = .slice none 0 0) →
      Calls Tryz.prog 124 #[.agg #[.int .i64 K, .int .i64 M, .int .i64 C, .int .i64 V], .slice aE (nmS D).length cE, .slice a (nbT K M C (dtT F (nmS D))) c] X fun e w' => ∃ gv, e = .returned (.tuple #[.slice (some ⟨gv, 0, none⟩) V V, .string (rtT kt K M C V F (nmS D))]) ∧ X.heap.size ≤ gv ∧ Rw w' gv V 9 (tX (voT kt K M C V F (nmS D))) ∧ Below X.heap.size X w') := fun X a c hX hv hnil =>
    volumes_own kt K M C V (nmS D).length cE (nbT K M C (dtT F (nmS D))) w3.heap.size aE _ _ (nmT (nmS D)) (lnT F (nmS D)) X (by omega) (by omega) (by omega) hV1 (by omega) (by omega) HN2.out HL2.out (ent_cells rfl (own_low HE3.out (fun r hr => own_lt HE3.out r hr) hX)) (by have := HB.out; omega) hv (fun h => hnil (by unfold nbT at h; rcases Nat.mul_eq_zero.1 h with h | h; exact h; omega)) (fun u hu => by obtain ⟨x, h1, h2⟩ := blkV_txt _ _ _ _ _ _ u hu; exact ⟨x, h1, by omega⟩) (HG3.out.below hX)
  have hes : (⟨(datL F (nmS D) (nmS D).length).toArray⟩ : ByteArray) = dtT F (nmS D) := rfl
  rw [hes]
  clear hes
  obtain ⟨R, hR⟩ : ∃ R, rtT kt K M C V F (nmS D) = R := ⟨_, rfl⟩
  obtain ⟨VO, hVO⟩ : ∃ VO, voT kt K M C V F (nmS D) = VO := ⟨_, rfl⟩
  obtain ⟨BL, hBL⟩ : ∃ BL, blkV (strm (K * C) (dtT F (nmS D))) (K * C) K M C (nst (K * C) (dtT F (nmS D)).size) = BL := ⟨_, rfl⟩
  obtain ⟨NB, hNB⟩ : ∃ NB, nbT K M C (dtT F (nmS D)) = NB := ⟨_, rfl⟩
  obtain ⟨NS, hNS⟩ : ∃ NS, nst (K * C) (dtT F (nmS D)).size = NS := ⟨_, rfl⟩
  obtain ⟨SS, hSS⟩ : ∃ SS, dtT F (nmS D) = SS := ⟨_, rfl⟩
  obtain ⟨nE, hnE⟩ : ∃ nE, (nmS D).length = nE := ⟨_, rfl⟩
  rw [hBL, hNB, hNS, hnE, hR, hVO] at H31
  rw [hBL, hNB, hNS, hSS] at H32
  rw [hnE, hSS]
  have HRR : Hid _ := hR
  have HVO : Hid _ := hVO
  clear HL2 HN2 HE3 HLEN HB HCNT hR hVO hBL hNB hNS hSS hnE HG3 HF HN
  have d0 : w3.cell? ⟨g, 0, none⟩ = some (.int .i64 K) := cell_of_row _ _ _ _ 252 _ hg3
  have d1 : w3.cell? ⟨g, 1, none⟩ = some (.int .i64 M) := cell_of_row _ _ _ _ 252 _ hg3
  have d2 : w3.cell? ⟨g, 2, none⟩ = some (.int .i64 C) := cell_of_row _ _ _ _ 252 _ hg3
  have d3 : w3.cell? ⟨g, 3, none⟩ = some (.int .i64 V) := cell_of_row _ _ _ _ 252 _ hg3
  have hgl3 : g < w3.heap.size := (Array.getElem?_eq_some_iff.1 hg3).1
  go_region_held3 (fun w4 => w4.cell? ⟨g, 0, none⟩ = some (.int .i64 K) ∧ w4.cell? ⟨g, 1, none⟩ = some (.int .i64 M) ∧ w4.cell? ⟨g, 2, none⟩ = some (.int .i64 C) ∧ w4.cell? ⟨g, 3, none⟩ = some (.int .i64 V)) (go_keep) (first | (go_at_call 156; refine Calls.mono (H32.out _) ?_; rintro e w4 ⟨v4, rfl, hv4, hb4, hn4⟩; obtain ⟨a4, c4, hvv⟩ := own_shape hv4; subst hvv; have hB4 : Below w3.heap.size w3 w4 := (by first | exact hb4 | exact ((Below.refl _ _).drew).trans hb4); have q0 : w4.cell? ⟨g, 0, none⟩ = some (.int .i64 K) := ((hB4.cell (p := ⟨g, 0, none⟩) hgl3).trans d0); have q1 : w4.cell? ⟨g, 1, none⟩ = some (.int .i64 M) := ((hB4.cell (p := ⟨g, 1, none⟩) hgl3).trans d1); have q2 : w4.cell? ⟨g, 2, none⟩ = some (.int .i64 C) := ((hB4.cell (p := ⟨g, 2, none⟩) hgl3).trans d2); have q3 : w4.cell? ⟨g, 3, none⟩ = some (.int .i64 V) := ((hB4.cell (p := ⟨g, 3, none⟩) hgl3).trans d3)) | (go_at_call 124; refine Calls.mono (H31.out w4 a4 c4 hB4 hv4 hn4) ?_; rintro e w5 ⟨gv, rfl, hgv, hR5, hb5⟩; have hB5 : Below w3.heap.size w3 w5 := (hB4.trans (hb5.mono hB4.size)); have u0 : w5.cell? ⟨g, 0, none⟩ = some (.int .i64 K) := ((hB5.cell (p := ⟨g, 0, none⟩) hgl3).trans d0); have u1 : w5.cell? ⟨g, 1, none⟩ = some (.int .i64 M) := ((hB5.cell (p := ⟨g, 1, none⟩) hgl3).trans d1); have u2 : w5.cell? ⟨g, 2, none⟩ = some (.int .i64 C) := ((hB5.cell (p := ⟨g, 2, none⟩) hgl3).trans d2); have u3 : w5.cell? ⟨g, 3, none⟩ = some (.int .i64 V) := ((hB5.cell (p := ⟨g, 3, none⟩) hgl3).trans d3)))
  have hg5 : w5.heap[g]? = some (.cells (dX K M C V (.map (some m)) last n len) 252 (0, 0)) := by rw [hB5.block g hgl3]; exact hg3
  have HB5 : Hid (Below W.heap.size W w5) := HB3.out.trans (hB5.mono HB3.out.size)
  have HGV : Hid (w3.heap.size ≤ gv) := Nat.le_trans hB4.size hgv
  have HR5 : Hid (Rw w5 gv V 9 (tX VO)) := hR5
  clear u0 u1 u2 u3 d0 d1 d2 d3 hB5 hB4 hb5 hgv hR5 H31 H32
  go_wp2
  refine leaves_cons (f := 152) (args := #[.pointer (some ⟨g, 0, none⟩)]) (by simp) (by simp [go_sem]) ?_
  refine (letGo_d g .returning w5 (.map (some m)) last (cell_of_row _ _ _ _ 252 _ hg5) (cell_of_row _ _ _ _ 252 _ hg5) (fun k => frozen_of_row _ _ _ _ 252 hg5)).mono ?_
  rintro e u' w6 ⟨rfl, rfl, rfl⟩
  have hgv2 : g ≠ gv := by have := HGV.out; omega
  refine ⟨_, results_tmp3 rfl _ _ _, gv, ?_, ?_, ?_, ?_, ?_, ((HCA.out.trans (Calm.below HB5.out)).set _ _).set _ _, ?_⟩
  · rw [HRR.out]; rfl
  · have := HGV.out; have := HB3.out.size; have := HSZ.out; omega
  · rw [HVO.out]
    unfold Rw
    rw [set_other _ _ _ _ _ hgv2.symm, set_other _ _ _ _ _ hgv2.symm]
    exact HR5.out
  · have := HB5.out.size; have := HSZ.out; simp [World.setCell]; omega
  · intro j hj h1
    rw [set_other _ _ _ _ _ h1, set_other _ _ _ _ _ h1, HB5.out.block j (by rw [HSZ.out]; exact hj)]
    exact HFR.out j h1
  · have h1 := set_heap w5 g 4 (.map none) _ _ _ hg5
    have h2 := set_heap _ g 5 (.pointer none) _ _ _ h1
    exact h2
theorem dclose_ok (kt : Nat → Int) (g m K M C V n len : Nat) (last : Value) (D : DataW Nat) (F : List UInt8 → List UInt8) (w : World)
    (hg : w.heap[g]? = some (.cells (dC K M C V (.map (some m)) last n len) 252 (0, 0))) (hg1 : 4 ≤ g) (hm : w.ownsMap Tryz.prog 9 pE m n D) (hO : Obs w D F) (hn : n ≤ 16) (hF : ∀ s, s ∈ strKeys D → (F s).length ≤ 4096) (hN : ∀ s, s ∈ strKeys D → s.length ≤ 1000)
    (hlen : len = (dtT F (nmS D)).size) (hl1 : len ≤ 100000) (hK1 : 1 ≤ K) (hKM : K + M ≤ 255) (hC1 : 1 ≤ C) (hC2 : C ≤ 64) (hV1 : 1 ≤ V) (hV2 : V ≤ 16) (hB : nbT K M C (dtT F (nmS D)) ≤ 512) (hG : Gd kt w) :
    Calls Tryz.prog 103 #[.pointer (some ⟨g, 0, none⟩)] w fun e w' => ∃ gv, e = .returned (.tuple #[.slice (some ⟨gv, 0, none⟩) V V, .string (rtT kt K M C V F (nmS D)), .nilIface]) ∧ w.heap.size ≤ gv ∧ Rw w' gv V 9 (tX (voT kt K M C V F (nmS D))) ∧ w.heap.size ≤ w'.heap.size ∧ (∀ j, j < w.heap.size → j ≠ g → w'.heap[j]? = w.heap[j]?) ∧ Calm w w' :=
  (dclose_full kt g m K M C V n len last D F w hg hg1 hm hO hn hF hN hlen hl1 hK1 hKM hC1 hC2 hV1 hV2 hB hG).mono fun _ _ ⟨gv, h1, h2, h3, h4, h5, h6, _⟩ => ⟨gv, h1, h2, h3, h4, h5, h6⟩
end Go.Proofs.YtadinjaocnlglaaGreatDoor
namespace Go.Proofs.YtadinjaocnlglaaGreatDoor
abbrev muN : Go.Conc.Locks.MuLink := { lock := 68, unlock := 69, ilock := 118, iunlock := 119, lockSlow := 173, unlockSlow := 176, disable := 169, enable := 171, acquire := 172, relMerge := 174, cas32 := 170, add32 := 175, tMutex := 156, tIMutex := 154, tPMutex := 218, tPIMutex := 277, tPI32 := 279, tUP := 281, tNoCopy := 151, tU32 := 152 }
theorem muL : Go.Conc.Locks.MuLib Tryz.prog muN :=
  ⟨Tryz.func68, Tryz.func69, Tryz.func118, Tryz.func119, Tryz.func169, Tryz.func171, Tryz.func172, Tryz.func174, Tryz.func170, Tryz.func175,
   Tryz.underlying154, Tryz.runUnderlying154, Tryz.sizeOf154, Tryz.isAgg154, Tryz.zeroValue154,
   Tryz.underlying156, Tryz.runUnderlying156, Tryz.sizeOf156, Tryz.isAgg156, Tryz.zeroValue156,
   Tryz.underlying218, Tryz.runUnderlying218, Tryz.sizeOf218, Tryz.isAgg218, Tryz.zeroValue218,
   Tryz.underlying277, Tryz.runUnderlying277, Tryz.sizeOf277, Tryz.isAgg277, Tryz.zeroValue277,
   Tryz.underlying279, Tryz.runUnderlying279, Tryz.sizeOf279, Tryz.isAgg279, Tryz.zeroValue279,
   Tryz.underlying281, Tryz.runUnderlying281, Tryz.sizeOf281, Tryz.isAgg281, Tryz.zeroValue281,
   Tryz.underlying151, Tryz.runUnderlying151, Tryz.sizeOf151, Tryz.isAgg151, Tryz.zeroValue151,
   Tryz.underlying21, Tryz.runUnderlying21, Tryz.sizeOf21, Tryz.isAgg21, Tryz.zeroValue21, (by kernel_rfl)⟩
end Go.Proofs.YtadinjaocnlglaaGreatDoor
namespace Go.Proofs.YtadinjaocnlglaaGreatDoor
open Go.RowKit Go.MuLone
set_option maxRecDepth 100000
set_option maxHeartbeats 1000000
/-- the cells of what holds a lock -/
def wC (x : Int) (g : Nat) : Array Value := #[.int .i32 x, .int .u32 0, .pointer (some ⟨g, 0, none⟩)]
/-- behind a call within, the lock is given back -/
def Lk (T wb g : Nat) (Q : Value → World → Prop) (v : Value) (w' : World) : Prop := w'.heap[wb]? = some (.cells (wC 1 g) T (0, 0)) ∧ Q v (w'.setCell ⟨wb, 0, none⟩ (.int .i32 0))
theorem lk_begin (wb g : Nat) (s : ByteArray) (w : World) (Q : Value → World → Prop) (hwb : w.heap[wb]? = some (.cells (wC 0 g) 180 (0, 0)))
    (H : Calls Tryz.prog 101 #[.pointer (some ⟨g, 0, none⟩), .string s] (w.setCell ⟨wb, 0, none⟩ (.int .i32 1)) fun e w' => ∃ v, e = .returned v ∧ Lk 180 wb g Q v w') :
    Calls Tryz.prog 56 #[.pointer (some ⟨wb, 0, none⟩), .string s] w fun e w' => ∃ v, e = .returned v ∧ Q v w' := by
  have h0 : w.cell? ⟨wb, 0, none⟩ = some (.int .i32 0) := cell_of_row _ _ _ _ 180 _ hwb
  have f0 : w.frozen? ⟨wb, 0, none⟩ = false := frozen_of_row _ _ _ _ 180 hwb
  have HL : Hid _ := lock_free muL ⟨wb, 0, none⟩ w h0 f0
  obtain ⟨W, hW⟩ : ∃ W, w.setCell ⟨wb, 0, none⟩ (.int .i32 1) = W := ⟨_, rfl⟩
  have hwW : W.heap[wb]? = some (.cells (wC 1 g) 180 (0, 0)) := by rw [← hW]; have := set_heap w wb 0 (.int .i32 1) _ _ _ hwb; simpa [wC] using this
  have c2 : W.cell? ⟨wb, 2, none⟩ = some (.pointer (some ⟨g, 0, none⟩)) := cell_of_row _ _ _ _ 180 _ hwW
  rw [hW] at HL H
  have HD : Hid _ := H
  clear hW H hwW
  go_enter_defers Tryz.func56, Tryz.ntmps56
  go_wp2_with fail
  refine Calls.mono HL.out ?_
  rintro e w1 ⟨rfl, rfl⟩
  go_wp2_with fail
  refine Calls.mono HD.out ?_
  rintro e w2 ⟨v, rfl, hw2, hQ⟩
  go_wp2
  refine leaves_cons (f := 69) (args := #[.pointer (some ⟨wb, 0, none⟩)]) (by simp) (by simp [go_sem]) ?_
  refine (unlock_deferred muL ⟨wb, 0, none⟩ .returning w2 (cell_of_row _ _ _ _ 180 _ hw2) (frozen_of_row _ _ _ _ 180 hw2)).mono ?_
  rintro e u' w3 ⟨rfl, rfl, rfl⟩
  exact ⟨_, results_tmp rfl _ _ _, v, rfl, hQ⟩
theorem lk_write (wb g : Nat) (s : ByteArray) (w : World) (Q : Value → World → Prop) (hwb : w.heap[wb]? = some (.cells (wC 0 g) 180 (0, 0)))
    (H : Calls Tryz.prog 102 #[.pointer (some ⟨g, 0, none⟩), .string s] (w.setCell ⟨wb, 0, none⟩ (.int .i32 1)) fun e w' => ∃ a b, e = .returned (.tuple #[a, b]) ∧ Lk 180 wb g Q (.tuple #[a, b]) w') :
    Calls Tryz.prog 57 #[.pointer (some ⟨wb, 0, none⟩), .string s] w fun e w' => ∃ a b, e = .returned (.tuple #[a, b]) ∧ Q (.tuple #[a, b]) w' := by
  have h0 : w.cell? ⟨wb, 0, none⟩ = some (.int .i32 0) := cell_of_row _ _ _ _ 180 _ hwb
  have f0 : w.frozen? ⟨wb, 0, none⟩ = false := frozen_of_row _ _ _ _ 180 hwb
  have HL : Hid _ := lock_free muL ⟨wb, 0, none⟩ w h0 f0
  obtain ⟨W, hW⟩ : ∃ W, w.setCell ⟨wb, 0, none⟩ (.int .i32 1) = W := ⟨_, rfl⟩
  have hwW : W.heap[wb]? = some (.cells (wC 1 g) 180 (0, 0)) := by rw [← hW]; have := set_heap w wb 0 (.int .i32 1) _ _ _ hwb; simpa [wC] using this
  have c2 : W.cell? ⟨wb, 2, none⟩ = some (.pointer (some ⟨g, 0, none⟩)) := cell_of_row _ _ _ _ 180 _ hwW
  rw [hW] at HL H
  have HD : Hid _ := H
  clear hW H hwW
  go_enter_defers Tryz.func57, Tryz.ntmps57
  go_wp2_with fail
  refine Calls.mono HL.out ?_
  rintro e w1 ⟨rfl, rfl⟩
  go_wp2_with fail
  refine Calls.mono HD.out ?_
  rintro e w2 ⟨a, b, rfl, hw2, hQ⟩
  go_wp2
  refine leaves_cons (f := 69) (args := #[.pointer (some ⟨wb, 0, none⟩)]) (by simp) (by simp [go_sem]) ?_
  refine (unlock_deferred muL ⟨wb, 0, none⟩ .returning w2 (cell_of_row _ _ _ _ 180 _ hw2) (frozen_of_row _ _ _ _ 180 hw2)).mono ?_
  rintro e u' w3 ⟨rfl, rfl, rfl⟩
  exact ⟨_, results_tmp2 rfl _ _ _, a, b, rfl, hQ⟩
theorem lk_close (wb g : Nat) (w : World) (Q : Value → World → Prop) (hwb : w.heap[wb]? = some (.cells (wC 0 g) 180 (0, 0)))
    (H : Calls Tryz.prog 103 #[.pointer (some ⟨g, 0, none⟩)] (w.setCell ⟨wb, 0, none⟩ (.int .i32 1)) fun e w' => ∃ a b c, e = .returned (.tuple #[a, b, c]) ∧ Lk 180 wb g Q (.tuple #[a, b, c]) w') :
    Calls Tryz.prog 58 #[.pointer (some ⟨wb, 0, none⟩)] w fun e w' => ∃ a b c, e = .returned (.tuple #[a, b, c]) ∧ Q (.tuple #[a, b, c]) w' := by
  have h0 : w.cell? ⟨wb, 0, none⟩ = some (.int .i32 0) := cell_of_row _ _ _ _ 180 _ hwb
  have f0 : w.frozen? ⟨wb, 0, none⟩ = false := frozen_of_row _ _ _ _ 180 hwb
  have HL : Hid _ := lock_free muL ⟨wb, 0, none⟩ w h0 f0
  obtain ⟨W, hW⟩ : ∃ W, w.setCell ⟨wb, 0, none⟩ (.int .i32 1) = W := ⟨_, rfl⟩
  have hwW : W.heap[wb]? = some (.cells (wC 1 g) 180 (0, 0)) := by rw [← hW]; have := set_heap w wb 0 (.int .i32 1) _ _ _ hwb; simpa [wC] using this
  have c2 : W.cell? ⟨wb, 2, none⟩ = some (.pointer (some ⟨g, 0, none⟩)) := cell_of_row _ _ _ _ 180 _ hwW
  rw [hW] at HL H
  have HD : Hid _ := H
  clear hW H hwW
  go_enter_defers Tryz.func58, Tryz.ntmps58
  go_wp2_with fail
  refine Calls.mono HL.out ?_
  rintro e w1 ⟨rfl, rfl⟩
  go_wp2_with fail
  refine Calls.mono HD.out ?_
  rintro e w2 ⟨a, b, c, rfl, hw2, hQ⟩
  go_wp2
  refine leaves_cons (f := 69) (args := #[.pointer (some ⟨wb, 0, none⟩)]) (by simp) (by simp [go_sem]) ?_
  refine (unlock_deferred muL ⟨wb, 0, none⟩ .returning w2 (cell_of_row _ _ _ _ 180 _ hw2) (frozen_of_row _ _ _ _ 180 hw2)).mono ?_
  rintro e u' w3 ⟨rfl, rfl, rfl⟩
  exact ⟨_, results_tmp3 rfl _ _ _, a, b, c, rfl, hQ⟩
theorem lk_root (wb g : Nat) (w : World) (Q : Value → World → Prop) (hwb : w.heap[wb]? = some (.cells (wC 0 g) 159 (0, 0)))
    (H : Calls Tryz.prog 71 #[.pointer (some ⟨g, 0, none⟩)] (w.setCell ⟨wb, 0, none⟩ (.int .i32 1)) fun e w' => ∃ v, e = .returned v ∧ Lk 159 wb g Q v w') :
    Calls Tryz.prog 24 #[.pointer (some ⟨wb, 0, none⟩)] w fun e w' => ∃ v, e = .returned v ∧ Q v w' := by
  have h0 : w.cell? ⟨wb, 0, none⟩ = some (.int .i32 0) := cell_of_row _ _ _ _ 159 _ hwb
  have f0 : w.frozen? ⟨wb, 0, none⟩ = false := frozen_of_row _ _ _ _ 159 hwb
  have HL : Hid _ := lock_free muL ⟨wb, 0, none⟩ w h0 f0
  obtain ⟨W, hW⟩ : ∃ W, w.setCell ⟨wb, 0, none⟩ (.int .i32 1) = W := ⟨_, rfl⟩
  have hwW : W.heap[wb]? = some (.cells (wC 1 g) 159 (0, 0)) := by rw [← hW]; have := set_heap w wb 0 (.int .i32 1) _ _ _ hwb; simpa [wC] using this
  have c2 : W.cell? ⟨wb, 2, none⟩ = some (.pointer (some ⟨g, 0, none⟩)) := cell_of_row _ _ _ _ 159 _ hwW
  rw [hW] at HL H
  have HD : Hid _ := H
  clear hW H hwW
  go_enter_defers Tryz.func24, Tryz.ntmps24
  go_wp2_with fail
  refine Calls.mono HL.out ?_
  rintro e w1 ⟨rfl, rfl⟩
  go_wp2_with fail
  refine Calls.mono HD.out ?_
  rintro e w2 ⟨v, rfl, hw2, hQ⟩
  go_wp2
  refine leaves_cons (f := 69) (args := #[.pointer (some ⟨wb, 0, none⟩)]) (by simp) (by simp [go_sem]) ?_
  refine (unlock_deferred muL ⟨wb, 0, none⟩ .returning w2 (cell_of_row _ _ _ _ 159 _ hw2) (frozen_of_row _ _ _ _ 159 hw2)).mono ?_
  rintro e u' w3 ⟨rfl, rfl, rfl⟩
  exact ⟨_, results_tmp rfl _ _ _, v, rfl, hQ⟩
theorem lk_objects (wb g : Nat) (w : World) (Q : Value → World → Prop) (hwb : w.heap[wb]? = some (.cells (wC 0 g) 159 (0, 0)))
    (H : Calls Tryz.prog 72 #[.pointer (some ⟨g, 0, none⟩)] (w.setCell ⟨wb, 0, none⟩ (.int .i32 1)) fun e w' => ∃ v, e = .returned v ∧ Lk 159 wb g Q v w') :
    Calls Tryz.prog 25 #[.pointer (some ⟨wb, 0, none⟩)] w fun e w' => ∃ v, e = .returned v ∧ Q v w' := by
  have h0 : w.cell? ⟨wb, 0, none⟩ = some (.int .i32 0) := cell_of_row _ _ _ _ 159 _ hwb
  have f0 : w.frozen? ⟨wb, 0, none⟩ = false := frozen_of_row _ _ _ _ 159 hwb
  have HL : Hid _ := lock_free muL ⟨wb, 0, none⟩ w h0 f0
  obtain ⟨W, hW⟩ : ∃ W, w.setCell ⟨wb, 0, none⟩ (.int .i32 1) = W := ⟨_, rfl⟩
  have hwW : W.heap[wb]? = some (.cells (wC 1 g) 159 (0, 0)) := by rw [← hW]; have := set_heap w wb 0 (.int .i32 1) _ _ _ hwb; simpa [wC] using this
  have c2 : W.cell? ⟨wb, 2, none⟩ = some (.pointer (some ⟨g, 0, none⟩)) := cell_of_row _ _ _ _ 159 _ hwW
  rw [hW] at HL H
  have HD : Hid _ := H
  clear hW H hwW
  go_enter_defers Tryz.func25, Tryz.ntmps25
  go_wp2_with fail
  refine Calls.mono HL.out ?_
  rintro e w1 ⟨rfl, rfl⟩
  go_wp2_with fail
  refine Calls.mono HD.out ?_
  rintro e w2 ⟨v, rfl, hw2, hQ⟩
  go_wp2
  refine leaves_cons (f := 69) (args := #[.pointer (some ⟨wb, 0, none⟩)]) (by simp) (by simp [go_sem]) ?_
  refine (unlock_deferred muL ⟨wb, 0, none⟩ .returning w2 (cell_of_row _ _ _ _ 159 _ hw2) (frozen_of_row _ _ _ _ 159 hw2)).mono ?_
  rintro e u' w3 ⟨rfl, rfl, rfl⟩
  exact ⟨_, results_tmp rfl _ _ _, v, rfl, hQ⟩
theorem lk_unpack (wb g : Nat) (w : World) (Q : Value → World → Prop) (hwb : w.heap[wb]? = some (.cells (wC 0 g) 159 (0, 0)))
    (H : Calls Tryz.prog 73 #[.pointer (some ⟨g, 0, none⟩)] (w.setCell ⟨wb, 0, none⟩ (.int .i32 1)) fun e w' => ∃ a b, e = .returned (.tuple #[a, b]) ∧ Lk 159 wb g Q (.tuple #[a, b]) w') :
    Calls Tryz.prog 27 #[.pointer (some ⟨wb, 0, none⟩)] w fun e w' => ∃ a b, e = .returned (.tuple #[a, b]) ∧ Q (.tuple #[a, b]) w' := by
  have h0 : w.cell? ⟨wb, 0, none⟩ = some (.int .i32 0) := cell_of_row _ _ _ _ 159 _ hwb
  have f0 : w.frozen? ⟨wb, 0, none⟩ = false := frozen_of_row _ _ _ _ 159 hwb
  have HL : Hid _ := lock_free muL ⟨wb, 0, none⟩ w h0 f0
  obtain ⟨W, hW⟩ : ∃ W, w.setCell ⟨wb, 0, none⟩ (.int .i32 1) = W := ⟨_, rfl⟩
  have hwW : W.heap[wb]? = some (.cells (wC 1 g) 159 (0, 0)) := by rw [← hW]; have := set_heap w wb 0 (.int .i32 1) _ _ _ hwb; simpa [wC] using this
  have c2 : W.cell? ⟨wb, 2, none⟩ = some (.pointer (some ⟨g, 0, none⟩)) := cell_of_row _ _ _ _ 159 _ hwW
  rw [hW] at HL H
  have HD : Hid _ := H
  clear hW H hwW
  go_enter_defers Tryz.func27, Tryz.ntmps27
  go_wp2_with fail
  refine Calls.mono HL.out ?_
  rintro e w1 ⟨rfl, rfl⟩
  go_wp2_with fail
  refine Calls.mono HD.out ?_
  rintro e w2 ⟨a, b, rfl, hw2, hQ⟩
  go_wp2
  refine leaves_cons (f := 69) (args := #[.pointer (some ⟨wb, 0, none⟩)]) (by simp) (by simp [go_sem]) ?_
  refine (unlock_deferred muL ⟨wb, 0, none⟩ .returning w2 (cell_of_row _ _ _ _ 159 _ hw2) (frozen_of_row _ _ _ _ 159 hw2)).mono ?_
  rintro e u' w3 ⟨rfl, rfl, rfl⟩
  exact ⟨_, results_tmp2 rfl _ _ _, a, b, rfl, hQ⟩
theorem lk_repair (wb g : Nat) (w : World) (Q : Value → World → Prop) (hwb : w.heap[wb]? = some (.cells (wC 0 g) 159 (0, 0)))
    (H : Calls Tryz.prog 74 #[.pointer (some ⟨g, 0, none⟩)] (w.setCell ⟨wb, 0, none⟩ (.int .i32 1)) fun e w' => ∃ a b, e = .returned (.tuple #[a, b]) ∧ Lk 159 wb g Q (.tuple #[a, b]) w') :
    Calls Tryz.prog 28 #[.pointer (some ⟨wb, 0, none⟩)] w fun e w' => ∃ a b, e = .returned (.tuple #[a, b]) ∧ Q (.tuple #[a, b]) w' := by
  have h0 : w.cell? ⟨wb, 0, none⟩ = some (.int .i32 0) := cell_of_row _ _ _ _ 159 _ hwb
  have f0 : w.frozen? ⟨wb, 0, none⟩ = false := frozen_of_row _ _ _ _ 159 hwb
  have HL : Hid _ := lock_free muL ⟨wb, 0, none⟩ w h0 f0
  obtain ⟨W, hW⟩ : ∃ W, w.setCell ⟨wb, 0, none⟩ (.int .i32 1) = W := ⟨_, rfl⟩
  have hwW : W.heap[wb]? = some (.cells (wC 1 g) 159 (0, 0)) := by rw [← hW]; have := set_heap w wb 0 (.int .i32 1) _ _ _ hwb; simpa [wC] using this
  have c2 : W.cell? ⟨wb, 2, none⟩ = some (.pointer (some ⟨g, 0, none⟩)) := cell_of_row _ _ _ _ 159 _ hwW
  rw [hW] at HL H
  have HD : Hid _ := H
  clear hW H hwW
  go_enter_defers Tryz.func28, Tryz.ntmps28
  go_wp2_with fail
  refine Calls.mono HL.out ?_
  rintro e w1 ⟨rfl, rfl⟩
  go_wp2_with fail
  refine Calls.mono HD.out ?_
  rintro e w2 ⟨a, b, rfl, hw2, hQ⟩
  go_wp2
  refine leaves_cons (f := 69) (args := #[.pointer (some ⟨wb, 0, none⟩)]) (by simp) (by simp [go_sem]) ?_
  refine (unlock_deferred muL ⟨wb, 0, none⟩ .returning w2 (cell_of_row _ _ _ _ 159 _ hw2) (frozen_of_row _ _ _ _ 159 hw2)).mono ?_
  rintro e u' w3 ⟨rfl, rfl, rfl⟩
  exact ⟨_, results_tmp2 rfl _ _ _, a, b, rfl, hQ⟩
end Go.Proofs.YtadinjaocnlglaaGreatDoor
