/-
  The walk of Matrix.Times.
-/
import Derived.Test.YtbjgchlckmecaaaDoorS7
import Derived.Test.YtbjgchlckmecaaaDoorS6
import Derived.WalkKit
import Derived.WalkSpells
import Derived.WalkLawsBesides
import Derived.BigRegion
import Derived.BigQuiet
import Derived.Deep.QuietTactic
import Derived.Deep.RegionWith
import Derived.Deep.RegionHeld3
namespace Go.Proofs.YtbjgchlckmecaaaDoor
open Go.RowKit
theorem MatP.mat {w : World} {B g m n : Nat} {V : Nat → Nat → Nat} {G : Nat → Nat} (h : MatP w B g m m n V G) : Mat w g m n V G :=
  ⟨fun i hi => by rw [h.top.cell i hi]; simp [part', hi], h.top.lt, fun i hi => ⟨(h.rows i hi).2.2.cl, (h.rows i hi).2.2.lt⟩⟩
/-- one row more -/
theorem MatP.step {w w2 : World} {B g m k n : Nat} {V : Nat → Nat → Nat} {G : Nat → Nat} (h : MatP w B g m k n V G) (hb : Below w.heap.size w w2) (o : Nat) (ho : w.heap.size ≤ o) (hB : B ≤ w.heap.size) (hr : Rw w2 o n 108 (nb (V k))) :
    MatP (w2.setCell ⟨g, k, none⟩ (.slice (some ⟨o, 0, none⟩) n n)) B g m (k + 1) n V (fun i => if i = k then o else G i) := by
  have hgl := h.top.lt
  refine ⟨?_, fun i hi => ?_⟩
  · refine ((h.top.below hb hgl).put k _).to (fun j _ => ?_)
    rw [← part_step]
    simp only [updV, part']
    by_cases e : j = k
    · simp [e]
    · by_cases e2 : j < k
      · simp [e, e2]
      · simp [e, e2]
  · by_cases e : i = k
    · subst e
      simp only [if_true]
      exact ⟨by omega, by omega, hr.other _ _ (by simp; omega)⟩
    · have hl : i < k := by omega
      simp only [if_neg e]
      exact ⟨(h.rows i hl).1, (h.rows i hl).2.1, ((h.rows i hl).2.2.below hb (h.rows i hl).2.2.lt).other _ _ (by simpa using (h.rows i hl).2.1)⟩
set_option maxHeartbeats 1000000 in
theorem mtimes_any (U V : Nat → Nat → Nat) (G1 G2 : Nat → Nat) (b1 m r b2 c : Nat) (w : World) (hm : m ≤ 1000) (hr0 : 0 < r) (hr : r ≤ 1000) (hcc : c ≤ 140737488351232) (hU : ∀ i j, U i j < 256) (hV : ∀ i j, V i j < 256) (h1 : Mat w b1 m r U G1) (h2 : Mat w b2 r c V G2) :
    Calls Tryd.prog 47 #[.slice (some ⟨b1, 0, none⟩) m m, .slice (some ⟨b2, 0, none⟩) r r] w fun e w' => ∃ G, e = .returned (.slice (some ⟨w.heap.size, 0, none⟩) m m) ∧ MatP w' w.heap.size w.heap.size m m c (fun i j => sm (U i) V j r) G ∧ Below w.heap.size w w' := by
  have H1 : Hid _ := h1
  have H2 : Hid _ := h2
  have HU : Hid _ := hU
  have HV : Hid _ := hV
  clear h1 h2 hU hV
  have hmk := run_make_row' (P := Tryd.prog) 104 105 (.slice none 0 0) 24 Tryd.underlying104 info53 rfl .i64 .i64 m (by omega) (by omega)
  go_enter Tryd.func47, Tryd.ntmps47
  go_wp2
  go_loopw [13] (fun iv wr => ∃ i G, i ≤ m ∧ iv = .int .i64 (i : Nat) ∧ MatP wr w.heap.size w.heap.size m i c (fun i j => sm (U i) V j r) G ∧ Below w.heap.size w wr) (fun iv _ => m - (intOf iv).toNat)
  case atStart => exact ⟨0, fun _ => 0, by omega, rfl, ⟨(Rw.made w m 105 (.slice none 0 0)).to (fun j _ => (part_0 _ _ j).symm), fun i hi => by omega⟩, (Below.refl _ _).alloc (Nat.le_refl _) _⟩
  case round =>
    obtain ⟨i, G, hi, rfl, hM, hb⟩ := hrel
    by_cases hlt : i < m
    · have hA := Mat.below H1.out hb
      have hBm := Mat.below H2.out hb
      have c1 := hA.top i hlt
      have hrow := hA.rows i hlt
      have HRow : Hid _ := hrow
      have HBm : Hid _ := hBm
      clear hA hBm hrow
      go_wp2_with fail
      refine (weighted_any (U i) V G2 b2 r c (G1 i) r wr hr0 hr hcc (HU.out i) HV.out HBm.out HRow.out.2 HRow.out.1).mono ?_
      rintro e w2 ⟨rfl, hR2, hB2⟩
      have hM2 := hM.step hB2 wr.heap.size (Nat.le_refl _) hb.size hR2
      have c2 := (hM.top.below hB2 hM.top.lt).cell i hlt
      have c3 := (hM.top.below hB2 hM.top.lt).free i
      have hbb := (hb.trans (hB2.mono hb.size)).setCell (p := ⟨w.heap.size, i, none⟩) (Nat.le_refl _) (.slice (some ⟨wr.heap.size, 0, none⟩) c c)
      have HM2 : Hid _ := hM2
      clear hM2 hR2
      go_wp2
      go_roundw
      case rel => exact ⟨i + 1, _, by omega, by go_num, HM2.out, hbb⟩
      case measure => simp [intOf]; omega
    · have e : i = m := by omega
      subst e
      go_wp2
      go_ret
      exact ⟨G, rfl, hM, hb⟩
end Go.Proofs.YtbjgchlckmecaaaDoor
