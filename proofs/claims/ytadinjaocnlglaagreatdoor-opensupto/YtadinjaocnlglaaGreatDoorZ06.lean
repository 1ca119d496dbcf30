/-
  The reader: a number.
  The document's Cursor: what it reads is what the program's Reader reads.
  The walk of layout.readEntry.
  The walk of draft's Begin (nothing refused): the map leads from each name to its object's block.
  The walks of slices.Grow at nil, slices.Concat of two lists, stripe.Whole.
-/
import Derived.Test.YtadinjaocnlglaaGreatDoorZ05
import Derived.BigRegion
import Derived.BigQuiet
import Derived.Maps.OwnSet
import Derived.Deep.RegionHeld3
import Derived.Test.YtadinjaocnlglaaGreatDoorZ04
import Derived.Lib.Walk
import Derived.Lib.SliceRun
import Derived.Lib.AppendZerosOnto
namespace Go.Proofs.YtadinjaocnlglaaGreatDoor
open Go.RowKit
set_option maxRecDepth 100000
set_option maxHeartbeats 4000000
theorem vrF_le (t : ByteArray) : ∀ (k i sum : Nat), (vrF t i sum k).2 ≤ t.size ∧ (vrF t i sum k).1 ≤ 4294967295
 | 0, i, sum => by simp [vrF]
 | k + 1, i, sum => by
  rw [vrF]
  split
  ·split
   ·exact vrF_le t k _ _
   ·split
    ·simp
    ·rename_i h1 h2 h3
     exact ⟨h1, by simp only [not_or] at h3; show sum + t[i].toNat % 128 * 128 ^ i ≤ 4294967295; omega⟩
  ·simp
theorem vrd_le (t : ByteArray) : (vrd t).2 ≤ t.size ∧ (vrd t).1 ≤ 4294967295 := vrF_le t 5 0 0
def RS.num (s : RS) (lo : Nat) (hi : Int) : RS × Nat :=
 if s.wrong then (s, 0) else
  if (vrd (s.text.extract s.next s.text.size)).2 = 0 ∨ (vrd (s.text.extract s.next s.text.size)).1 < lo ∨ hi < ((vrd (s.text.extract s.next s.text.size)).1 : Int) then ({ s with field := s.next, wrong := true }, 0)
  else ({ s with field := s.next, next := s.next + (vrd (s.text.extract s.next s.text.size)).2 }, (vrd (s.text.extract s.next s.text.size)).1)
theorem rnum (r : Nat) (s : RS) (lo : Nat) (hi : Int) (w : World) (h : RI r s w) : Calls Tryz.prog 289 #[.pointer (some ⟨r, 0, none⟩), .int .i64 lo, .int .i64 hi] w fun e w' => e = .returned (.int .i64 (s.num lo hi).2) ∧ RDid r (s.num lo hi).1 w w' := by
 have HB : Hid _ := rbeg r s w h
 have hnt := h.nt
 have hsm := h.small
 cases hw : s.wrong with
 | true =>
  have e1 : s.num lo hi = (s, 0) := by unfold RS.num; rw [hw]; rfl
  have e2 : s.begin = s := by unfold RS.begin; rw [hw]; rfl
  rw [e1]
  rw [hw, e2] at HB
  clear h e1 e2
  go_enter Tryz.func289, Tryz.ntmps289
  go_wp2_with fail
  refine Calls.mono HB.out ?_
  rintro e w1 ⟨rfl, hD⟩
  have HD : Hid _ := hD
  clear hD
  go_wp2
  go_ret
  exact ⟨rfl, HD.out⟩
 | false =>
  rw [hw] at HB
  have hle := vrd_le (s.text.extract s.next s.text.size)
  have HV : Hid (∀ V : World, Calls Tryz.prog 320 #[.string (s.text.extract s.next s.text.size)] V fun e w' => e = .returned (.tuple #[.int .u32 (vrd (s.text.extract s.next s.text.size)).1, .int .i64 (vrd (s.text.extract s.next s.text.size)).2]) ∧ w' = V) := fun V => vread _ V (by rw [ByteArray.size_extract]; omega)
  have hes : (s.text.extract s.next s.text.size).size = s.text.size - s.next := by rw [ByteArray.size_extract]; omega
  rw [hes] at hle
  have hn0 : s.num lo hi = if (vrd (s.text.extract s.next s.text.size)).2 = 0 ∨ (vrd (s.text.extract s.next s.text.size)).1 < lo ∨ hi < ((vrd (s.text.extract s.next s.text.size)).1 : Int) then ({ s with field := s.next, wrong := true }, 0) else ({ s with field := s.next, next := s.next + (vrd (s.text.extract s.next s.text.size)).2 }, (vrd (s.text.extract s.next s.text.size)).1) := by
   unfold RS.num; rw [hw]; rfl
  obtain ⟨v, hv⟩ : ∃ v, (vrd (s.text.extract s.next s.text.size)).1 = v := ⟨_, rfl⟩
  obtain ⟨l, hl⟩ : ∃ l, (vrd (s.text.extract s.next s.text.size)).2 = l := ⟨_, rfl⟩
  rw [hv, hl] at hle HV hn0
  have hwv : IntKind.i64.wrap (v : Int) = (v : Int) := by rw [IntKind.wrap_i64]; omega
  have hin : (s.next : Int) ≤ (s.text.size : Int) := by omega
  have hi0 : (0 : Int) ≤ (s.next : Int) := by omega
  have HW : Hid _ := hw
  clear h hes hv hl
  by_cases hbad : l = 0 ∨ v < lo ∨ hi < (v : Int)
  ·rw [hn0, if_pos hbad]
   clear hn0
   by_cases hl0 : l = 0
   ·have hl' : ((l : Int) == 0) = true := by simp [hl0]
    clear hbad hl0
    go_enter Tryz.func289, Tryz.ntmps289
    go_wp2_with fail
    refine Calls.mono HB.out ?_
    rintro e w1 ⟨rfl, hD⟩
    have hD1 := RI.begin HW.out hD
    have c0 := hD1.1.c0
    have c2 := hD1.1.c2
    have HD1 : Hid _ := hD1
    clear hD hD1
    go_wp2_with fail
    go_region_held3 (fun w2 => w2.cell? ⟨r, 0, none⟩ = some (.string s.text) ∧ w2.cell? ⟨r, 2, none⟩ = some (.int .i64 s.next)) (go_keep) ((go_at_call 320; refine Calls.mono (HV.out _) ?_; rintro e w2 ⟨rfl, rfl⟩))
    obtain ⟨V, hV⟩ : ∃ V, w1.drew = V := ⟨_, rfl⟩
    have HBV : Hid (Below w1.heap.size w1 V) := by show Below _ _ _; rw [← hV]; exact (Below.refl _ _).drew
    rw [hV]
    have hIV := RI.low HD1.out.1 HBV.out
    have d2 := hIV.c2
    have g2 := hIV.fz 2
    have HIV : Hid _ := hIV
    have HFV : Hid (Fr (fun j => j = r) w V) := HD1.out.2.thenBelow HBV.out
    clear hV c0 c2 hIV
    have HR : Hid (Calls Tryz.prog 290 #[.pointer (some ⟨r, 0, none⟩)] V fun e w' => e = .returned (.tuple #[]) ∧ RDid r { s with field := s.next, wrong := true } w w') := by
     refine (rrefuse r _ V HIV.out).mono ?_
     rintro e w' ⟨rfl, hR⟩
     exact ⟨rfl, hR.1, HFV.out.trans' hR.2⟩
    go_wp2_with fail
    refine Calls.mono HR.out ?_
    rintro e w3 ⟨rfl, hR⟩
    have HRR : Hid _ := hR
    clear hR
    go_wp2
    go_ret
    exact ⟨rfl, HRR.out⟩
   ·have hl' : ((l : Int) == 0) = false := by simp; omega
    by_cases hv0 : v < lo
    ·have hv' : (v : Int) < (lo : Int) := by omega
     clear hbad hl0
     go_enter Tryz.func289, Tryz.ntmps289
     go_wp2_with fail
     refine Calls.mono HB.out ?_
     rintro e w1 ⟨rfl, hD⟩
     have hD1 := RI.begin HW.out hD
     have c0 := hD1.1.c0
     have c2 := hD1.1.c2
     have HD1 : Hid _ := hD1
     clear hD hD1
     go_wp2_with fail
     go_region_held3 (fun w2 => w2.cell? ⟨r, 0, none⟩ = some (.string s.text) ∧ w2.cell? ⟨r, 2, none⟩ = some (.int .i64 s.next)) (go_keep) ((go_at_call 320; refine Calls.mono (HV.out _) ?_; rintro e w2 ⟨rfl, rfl⟩))
     obtain ⟨V, hV⟩ : ∃ V, w1.drew = V := ⟨_, rfl⟩
     have HBV : Hid (Below w1.heap.size w1 V) := by show Below _ _ _; rw [← hV]; exact (Below.refl _ _).drew
     rw [hV]
     have hIV := RI.low HD1.out.1 HBV.out
     have d2 := hIV.c2
     have g2 := hIV.fz 2
     have HIV : Hid _ := hIV
     have HFV : Hid (Fr (fun j => j = r) w V) := HD1.out.2.thenBelow HBV.out
     clear hV c0 c2 hIV
     have HR : Hid (Calls Tryz.prog 290 #[.pointer (some ⟨r, 0, none⟩)] V fun e w' => e = .returned (.tuple #[]) ∧ RDid r { s with field := s.next, wrong := true } w w') := by
      refine (rrefuse r _ V HIV.out).mono ?_
      rintro e w' ⟨rfl, hR⟩
      exact ⟨rfl, hR.1, HFV.out.trans' hR.2⟩
     go_wp2_with fail
     refine Calls.mono HR.out ?_
     rintro e w3 ⟨rfl, hR⟩
     have HRR : Hid _ := hR
     clear hR
     go_wp2
     go_ret
     exact ⟨rfl, HRR.out⟩
    ·have hv' : ¬ ((v : Int) < (lo : Int)) := by omega
     have hh' : (v : Int) > hi := by omega
     clear hbad hl0
     go_enter Tryz.func289, Tryz.ntmps289
     go_wp2_with fail
     refine Calls.mono HB.out ?_
     rintro e w1 ⟨rfl, hD⟩
     have hD1 := RI.begin HW.out hD
     have c0 := hD1.1.c0
     have c2 := hD1.1.c2
     have HD1 : Hid _ := hD1
     clear hD hD1
     go_wp2_with fail
     go_region_held3 (fun w2 => w2.cell? ⟨r, 0, none⟩ = some (.string s.text) ∧ w2.cell? ⟨r, 2, none⟩ = some (.int .i64 s.next)) (go_keep) ((go_at_call 320; refine Calls.mono (HV.out _) ?_; rintro e w2 ⟨rfl, rfl⟩))
     obtain ⟨V, hV⟩ : ∃ V, w1.drew = V := ⟨_, rfl⟩
     have HBV : Hid (Below w1.heap.size w1 V) := by show Below _ _ _; rw [← hV]; exact (Below.refl _ _).drew
     rw [hV]
     have hIV := RI.low HD1.out.1 HBV.out
     have d2 := hIV.c2
     have g2 := hIV.fz 2
     have HIV : Hid _ := hIV
     have HFV : Hid (Fr (fun j => j = r) w V) := HD1.out.2.thenBelow HBV.out
     clear hV c0 c2 hIV
     have HR : Hid (Calls Tryz.prog 290 #[.pointer (some ⟨r, 0, none⟩)] V fun e w' => e = .returned (.tuple #[]) ∧ RDid r { s with field := s.next, wrong := true } w w') := by
      refine (rrefuse r _ V HIV.out).mono ?_
      rintro e w' ⟨rfl, hR⟩
      exact ⟨rfl, hR.1, HFV.out.trans' hR.2⟩
     go_wp2_with fail
     refine Calls.mono HR.out ?_
     rintro e w3 ⟨rfl, hR⟩
     have HRR : Hid _ := hR
     clear hR
     go_wp2
     go_ret
     exact ⟨rfl, HRR.out⟩
  ·rw [hn0, if_neg hbad]
   clear hn0
   have hl' : ((l : Int) == 0) = false := by simp; omega
   have hv' : ¬ ((v : Int) < (lo : Int)) := by omega
   have hh' : ¬ ((v : Int) > hi) := by omega
   have hadd : IntKind.i64.wrap ((s.next : Int) + (l : Int)) = (s.next : Int) + (l : Int) := by rw [IntKind.wrap_i64]; omega
   clear hbad
   go_enter Tryz.func289, Tryz.ntmps289
   go_wp2_with fail
   refine Calls.mono HB.out ?_
   rintro e w1 ⟨rfl, hD⟩
   have hD1 := RI.begin HW.out hD
   have c0 := hD1.1.c0
   have c2 := hD1.1.c2
   have HD1 : Hid _ := hD1
   clear hD hD1
   go_wp2_with fail
   go_region_held3 (fun w2 => w2.cell? ⟨r, 0, none⟩ = some (.string s.text) ∧ w2.cell? ⟨r, 2, none⟩ = some (.int .i64 s.next)) (go_keep) ((go_at_call 320; refine Calls.mono (HV.out _) ?_; rintro e w2 ⟨rfl, rfl⟩))
   obtain ⟨V, hV⟩ : ∃ V, w1.drew = V := ⟨_, rfl⟩
   have HBV : Hid (Below w1.heap.size w1 V) := by show Below _ _ _; rw [← hV]; exact (Below.refl _ _).drew
   rw [hV]
   have hIV := RI.low HD1.out.1 HBV.out
   have d2 := hIV.c2
   have g2 := hIV.fz 2
   have HIV : Hid _ := hIV
   have HFV : Hid (Fr (fun j => j = r) w V) := HD1.out.2.thenBelow HBV.out
   clear hV c0 c2 hIV
   have HF : Hid (RDid r { s with field := s.next, next := s.next + l } w (V.setCell ⟨r, 2, none⟩ (.int .i64 ((s.next : Int) + (l : Int))))) := by
    have hrow := set_heap V r 2 (.int .i64 ((s.next : Int) + (l : Int))) _ _ _ HIV.out.row
    refine ⟨?_, HFV.out.set (g := r) (.inl rfl) 2 _⟩
    rw [show (s.next : Int) + (l : Int) = ((s.next + l : Nat) : Int) by omega] at hrow ⊢
    exact ⟨hrow, by simp, by show s.next + l ≤ s.text.size; omega, hsm⟩
   go_wp2
   go_ret
   have hfin := HF.out
   rw [HW.out] at hfin
   exact ⟨rfl, hfin⟩
def atC (s : RS) : Nat := if s.wrong = true then s.field else s.next
def cuC (s : RS) : Array Value := #[.string s.text, .int .i64 (atC s : Nat), .bool s.wrong]
structure CR (c : Nat) (s : RS) (w : World) : Prop where
 row : w.heap[c]? = some (.cells (cuC s) 239 (0, 0))
 nt : s.next ≤ s.text.size
 small : s.text.size ≤ 1000000000
def CDid (c : Nat) (s : RS) (w w' : World) : Prop := CR c s w' ∧ Fr (fun j => j = c) w w'
theorem CR.below {c : Nat} {s : RS} {w w' : World} (h : CR c s w) (hb : Below w.heap.size w w') : CR c s w' := ⟨by rw [hb.block c (Array.getElem?_eq_some_iff.1 h.row).1]; exact h.row, h.nt, h.small⟩
theorem ctake (c : Nat) (s : RS) (n : Nat) (w : World) (h : CR c s w) (hn : n ≤ 1000000000) :
  Calls Tryz.prog 130 #[.pointer (some ⟨c, 0, none⟩), .int .i64 n] w fun e w' => e = .returned (.string (s.bytes n).2) ∧ CDid c (s.bytes n).1 w w' := by
 have c0 : w.cell? ⟨c, 0, none⟩ = some (.string s.text) := cell_of_row _ _ _ _ 239 _ h.row
 have c1 : w.cell? ⟨c, 1, none⟩ = some (.int .i64 (atC s : Nat)) := cell_of_row _ _ _ _ 239 _ h.row
 have c2 : w.cell? ⟨c, 2, none⟩ = some (.bool s.wrong) := cell_of_row _ _ _ _ 239 _ h.row
 have f1 := frozen_of_row w c 1 _ 239 h.row
 have f2 := frozen_of_row w c 2 _ 239 h.row
 have HH : Hid (CR c s w) := h
 have hnt := h.nt
 have hsm := h.small
 clear h
 obtain ⟨text, field, next, wrong⟩ := s
 cases wrong
 ·have e1 : atC ⟨text, field, next, false⟩ = next := rfl
  rw [e1] at c1
  have hnt' : next ≤ text.size := hnt
  have hsm' : text.size ≤ 1000000000 := hsm
  clear hnt hsm
  by_cases hlt : text.size - next < n
  ·have hlt' : (text.size : Int) - (next : Int) < (n : Int) := by omega
   have u1 : IntKind.i64.wrap ((text.size : Int) - (next : Int)) = (text.size : Int) - (next : Int) := by rw [IntKind.wrap_i64]; omega
   have HE : Hid (RS.bytes ⟨text, field, next, false⟩ n = (⟨text, next, next, true⟩, ⟨#[]⟩)) := by
    show _ = _
    unfold RS.bytes
    simp [hlt]
   go_enter Tryz.func130, Tryz.ntmps130
   go_wp2_with fail
   go_quiet (fail)
   obtain ⟨W, hW⟩ : ∃ W, w.drewN nq = W := ⟨_, rfl⟩
   have g2 : W.cell? ⟨c, 2, none⟩ = some (.bool false) := by rw [← hW]; exact c2
   have k2 : W.frozen? ⟨c, 2, none⟩ = false := by rw [← hW]; exact f2
   have HR : Hid (W.heap[c]? = some (.cells (cuC ⟨text, field, next, false⟩) 239 (0, 0))) := by show _ = _; rw [← hW]; exact HH.out.row
   have HF : Hid (Fr (fun j => j = c) w W) := by show Fr _ _ _; rw [← hW]; exact Fr.below (below_drewN (Below.refl _ _) _)
   rw [hW]
   clear hW c0 c1 c2 f1 f2
   go_wp2_with fail
   go_ret
   rw [HE.out]
   exact ⟨rfl, ⟨set_heap _ _ 2 _ _ _ _ HR.out, hnt', hsm'⟩, HF.out.set (.inl rfl) _ _⟩
  ·have hlt' : ¬ (text.size : Int) - (next : Int) < (n : Int) := by omega
   have u1 : IntKind.i64.wrap ((text.size : Int) - (next : Int)) = (text.size : Int) - (next : Int) := by rw [IntKind.wrap_i64]; omega
   have u2 : IntKind.i64.wrap ((next : Int) + (n : Int)) = ((next + n : Nat) : Int) := by rw [IntKind.wrap_i64]; omega
   have HE : Hid (RS.bytes ⟨text, field, next, false⟩ n = (⟨text, next, next + n, false⟩, text.extract next (next + n))) := by
    show _ = _
    unfold RS.bytes
    simp [hlt]
   obtain ⟨m, hm⟩ : ∃ m, next + n = m := ⟨_, rfl⟩
   rw [hm] at u2 HE
   have em : (next : Int) + (n : Int) = (m : Int) := by omega
   have k1 : (0 : Int) ≤ (next : Int) := by omega
   have k2 : (next : Int) ≤ (m : Int) := by omega
   have k3 : (m : Int) ≤ (text.size : Int) := by omega
   have HM : Hid (m ≤ text.size) := by show m ≤ _; omega
   clear hm
   go_enter Tryz.func130, Tryz.ntmps130
   go_wp2_with fail
   go_quiet (fail)
   obtain ⟨W, hW⟩ : ∃ W, w.drewN nq = W := ⟨_, rfl⟩
   have g0 : W.cell? ⟨c, 0, none⟩ = some (.string text) := by rw [← hW]; exact c0
   have g1 : W.cell? ⟨c, 1, none⟩ = some (.int .i64 next) := by rw [← hW]; exact c1
   have l1 : W.frozen? ⟨c, 1, none⟩ = false := by rw [← hW]; exact f1
   have HR : Hid (W.heap[c]? = some (.cells (cuC ⟨text, field, next, false⟩) 239 (0, 0))) := by show _ = _; rw [← hW]; exact HH.out.row
   have HF : Hid (Fr (fun j => j = c) w W) := by show Fr _ _ _; rw [← hW]; exact Fr.below (below_drewN (Below.refl _ _) _)
   rw [hW]
   clear hW c0 c1 c2 f1 f2
   go_wp2_with fail
   go_quiet (fail)
   obtain ⟨W2, hW2⟩ : ∃ W2, W.drewN nq = W2 := ⟨_, rfl⟩
   have i1 : W2.cell? ⟨c, 1, none⟩ = some (.int .i64 next) := by rw [← hW2]; exact g1
   have j1 : W2.frozen? ⟨c, 1, none⟩ = false := by rw [← hW2]; exact l1
   have HR2 : Hid (W2.heap[c]? = some (.cells (cuC ⟨text, field, next, false⟩) 239 (0, 0))) := by show _ = _; rw [← hW2]; exact HR.out
   have HF2 : Hid (Fr (fun j => j = c) w W2) := by show Fr _ _ _; rw [← hW2]; exact HF.out.thenBelow (below_drewN (Below.refl _ _) _)
   rw [hW2]
   clear hW2 g0 g1 l1
   go_wp2_with fail
   go_ret
   rw [HE.out]
   exact ⟨rfl, ⟨set_heap _ _ 1 _ _ _ _ HR2.out, HM.out, hsm'⟩, HF2.out.set (.inl rfl) _ _⟩
 ·have HE : Hid (RS.bytes ⟨text, field, next, true⟩ n = (⟨text, field, next, true⟩, ⟨#[]⟩)) := rfl
  go_enter Tryz.func130, Tryz.ntmps130
  go_wp2_with fail
  go_quiet (fail)
  obtain ⟨W, hW⟩ : ∃ W, w.drewN nq = W := ⟨_, rfl⟩
  have g2 : W.cell? ⟨c, 2, none⟩ = some (.bool true) := by rw [← hW]; exact c2
  have k2 : W.frozen? ⟨c, 2, none⟩ = false := by rw [← hW]; exact f2
  have HR : Hid (W.heap[c]? = some (.cells (cuC ⟨text, field, next, true⟩) 239 (0, 0))) := by show _ = _; rw [← hW]; exact HH.out.row
  have HF : Hid (Fr (fun j => j = c) w W) := by show Fr _ _ _; rw [← hW]; exact Fr.below (below_drewN (Below.refl _ _) _)
  rw [hW]
  clear hW c0 c1 c2 f1 f2
  go_wp2_with fail
  go_ret
  rw [HE.out]
  exact ⟨rfl, ⟨set_heap _ _ 2 _ _ _ _ HR.out, HH.out.nt, HH.out.small⟩, HF.out.set (.inl rfl) _ _⟩
def leT (a b : ByteArray) : Bool := Op.bytesLess a.toList b.toList || a.toList == b.toList
def RS.entry (s : RS) (before : ByteArray) (longest : Int) : RS × ByteArray × Nat :=
 let p := (s.num 1 255).1.bytes (s.num 1 255).2
 let q := (if leT p.2 before then p.1.refuse else p.1).num 0 longest
 (q.1, p.2, q.2)
theorem num_hi (s : RS) (lo : Nat) (hi : Nat) : (s.num lo hi).2 ≤ hi := by
 unfold RS.num
 split
 ·simp
 ·split
  ·simp
  ·rename_i h
   simp only [not_or] at h
   show (vrd (s.text.extract s.next s.text.size)).1 ≤ hi
   omega
theorem rentry (r : Nat) (s : RS) (before : ByteArray) (longest : Int) (w : World) (h : RI r s w) : Calls Tryz.prog 319 #[.pointer (some ⟨r, 0, none⟩), .string before, .int .i64 longest] w fun e w' => e = .returned (.agg #[.string (s.entry before longest).2.1, .int .i64 (s.entry before longest).2.2]) ∧ RDid r (s.entry before longest).1 w w' := by
 have hrl : r < w.heap.size := (Array.getElem?_eq_some_iff.1 h.row).1
 have hn : (s.num 1 255).2 ≤ 255 := num_hi s 1 255
 obtain ⟨s1, hs1⟩ : ∃ s1, (s.num 1 255).1 = s1 := ⟨_, rfl⟩
 obtain ⟨n1, hn1⟩ : ∃ n1, (s.num 1 255).2 = n1 := ⟨_, rfl⟩
 obtain ⟨s2, hs2⟩ : ∃ s2, (s1.bytes n1).1 = s2 := ⟨_, rfl⟩
 obtain ⟨nm, hnm⟩ : ∃ nm, (s1.bytes n1).2 = nm := ⟨_, rfl⟩
 obtain ⟨s3, hs3⟩ : ∃ s3, (if leT nm before then s2.refuse else s2) = s3 := ⟨_, rfl⟩
 obtain ⟨s4, hs4⟩ : ∃ s4, (s3.num 0 longest).1 = s4 := ⟨_, rfl⟩
 obtain ⟨ln, hln⟩ : ∃ ln, (s3.num 0 longest).2 = ln := ⟨_, rfl⟩
 have e : s.entry before longest = (s4, nm, ln) := by
  unfold RS.entry
  simp only [hs1, hn1, hs2, hnm, hs3, hs4, hln]
 rw [e]
 rw [hn1] at hn
 have hI0 : RI r s (w.alloc (.cells #[.string ⟨#[]⟩, .int .i64 0] 70)) := h.low ((Below.refl _ _).alloc (Nat.le_refl _) _)
 have H1 : Hid _ := rnum r s 1 255 (w.alloc (.cells #[.string ⟨#[]⟩, .int .i64 0] 70)) hI0
 rw [hs1, hn1] at H1
 have H2 : Hid (∀ V : World, RI r s1 V → Calls Tryz.prog 249 #[.pointer (some ⟨r, 0, none⟩), .int .i64 n1] V fun e w' => e = .returned (.string nm) ∧ RDid r s2 V w') := fun V hV => by
  have := rbytes r s1 n1 V hV (by omega)
  rw [hs2, hnm] at this
  exact this
 have H3 : Hid (∀ V : World, RI r s3 V → Calls Tryz.prog 289 #[.pointer (some ⟨r, 0, none⟩), .int .i64 0, .int .i64 longest] V fun e w' => e = .returned (.int .i64 ln) ∧ RDid r s4 V w') := fun V hV => by
  have := rnum r s3 0 longest V hV
  rw [hs4, hln] at this
  exact this
 have HS3 : Hid _ := hs3
 have hW0 : (w.alloc (.cells #[.string ⟨#[]⟩, .int .i64 0] 70)).heap[w.heap.size]? = some (.cells #[.string ⟨#[]⟩, .int .i64 0] 70 (0, 0)) := heap_alloc_new _ _
 have HF0 : Hid (Fr (fun j => j = r) w (w.alloc (.cells #[.string ⟨#[]⟩, .int .i64 0] 70))) := (Fr.refl _ w).alloc _
 obtain ⟨W, hW⟩ : ∃ W, w.alloc (.cells #[.string ⟨#[]⟩, .int .i64 0] 70) = W := ⟨_, rfl⟩
 obtain ⟨g, hg⟩ : ∃ g, w.heap.size = g := ⟨_, rfl⟩
 have HG : Hid _ := hg
 rw [hW] at H1 hW0 HF0
 rw [hg] at hW0 hrl
 have hgl : g < W.heap.size := (Array.getElem?_eq_some_iff.1 hW0).1
 have hgr : g ≠ r := by omega
 have HW0 : Hid _ := hW0
 have KEEP : Hid (∀ V, Fr (fun j => j = r) W V → V.heap[g]? = some (.cells #[.string ⟨#[]⟩, .int .i64 0] 70 (0, 0))) := fun V hV => by rw [hV.old g hgl hgr]; exact HW0.out
 clear h hs1 hn1 hs2 hnm hs3 hs4 hln e hI0 hW0
 go_enter Tryz.func319, Tryz.ntmps319
 go_wp2_with fail
 try rw [hW]
 try rw [hg]
 clear hW hg
 refine Calls.mono H1.out ?_
 rintro e w1 ⟨rfl, hD1⟩
 have HD1 : Hid _ := hD1
 clear hD1
 go_wp2_with fail
 refine Calls.mono (H2.out _ HD1.out.1) ?_
 rintro e w2 ⟨rfl, hD2⟩
 have HD2 : Hid (RDid r s2 W w2) := RDid.then HD1.out hD2
 clear hD2
 cases hle : leT nm before with
 | true =>
  have hle' : (Op.bytesLess nm.toList before.toList || nm.toList == before.toList) = true := hle
  have e3 : s2.refuse = s3 := by rw [← HS3.out, hle]; rfl
  have HR : Hid _ := rrefuse r s2 w2 HD2.out.1
  rw [e3] at HR
  clear e3
  go_wp2_with fail
  refine Calls.mono HR.out ?_
  rintro e w3 ⟨rfl, hD3⟩
  have HD3 : Hid (RDid r s3 W w3) := RDid.then HD2.out hD3
  clear hD3
  go_wp2_with fail
  refine Calls.mono (H3.out _ HD3.out.1) ?_
  rintro e w4 ⟨rfl, hD4⟩
  have HD4 : Hid (RDid r s4 W w4) := RDid.then HD3.out hD4
  have hrow := KEEP.out w4 HD4.out.2
  have c0 : w4.cell? ⟨g, 0, none⟩ = some (.string ⟨#[]⟩) := cell_of_row _ _ _ _ 70 _ hrow
  have c1 : w4.cell? ⟨g, 1, none⟩ = some (.int .i64 0) := cell_of_row _ _ _ _ 70 _ hrow
  have f0 := frozen_of_row w4 g 0 _ 70 hrow
  have f1 := frozen_of_row w4 g 1 _ 70 hrow
  have HROW : Hid _ := hrow
  clear hD4 hrow
  go_wp2
  have hR : ((w4.setCell ⟨g, 0, none⟩ (.string nm)).setCell ⟨g, 1, none⟩ (.int .i64 ln)).heap[g]? = some (.cells #[.string nm, .int .i64 ln] 70 (0, 0)) := set_heap _ _ 1 _ _ _ _ (set_heap _ _ 0 _ _ _ _ HROW.out)
  refine bodyPost_ret (v := .agg #[.string nm, .int .i64 ln]) ?_ rfl ?_
  ·exact results_cell_row Tryz.results319 _ _ g 70 _ (0, 0) _ rfl hR Tryz.underlying70 rfl (by kernel_rfl)
  ·refine ⟨rfl, ⟨?_, HD4.out.1.fn, HD4.out.1.nt, HD4.out.1.small⟩, ?_⟩
   ·rw [set_other _ _ _ _ _ hgr.symm, set_other _ _ _ _ _ hgr.symm]; exact HD4.out.1.row
   ·have hgg : w.heap.size ≤ g := by rw [HG.out]; exact Nat.le_refl _
    exact ((HF0.out.trans' HD4.out.2).set (g := g) (.inr hgg) 0 _).set (g := g) (.inr hgg) 1 _
 | false =>
  have hle' : (Op.bytesLess nm.toList before.toList || nm.toList == before.toList) = false := hle
  have e3 : s2 = s3 := by rw [← HS3.out, hle]; rfl
  have HD3 : Hid (RDid r s3 W w2) := by rw [← e3]; exact HD2.out
  clear e3
  go_wp2_with fail
  refine Calls.mono (H3.out _ HD3.out.1) ?_
  rintro e w4 ⟨rfl, hD4⟩
  have HD4 : Hid (RDid r s4 W w4) := RDid.then HD3.out hD4
  have hrow := KEEP.out w4 HD4.out.2
  have c0 : w4.cell? ⟨g, 0, none⟩ = some (.string ⟨#[]⟩) := cell_of_row _ _ _ _ 70 _ hrow
  have c1 : w4.cell? ⟨g, 1, none⟩ = some (.int .i64 0) := cell_of_row _ _ _ _ 70 _ hrow
  have f0 := frozen_of_row w4 g 0 _ 70 hrow
  have f1 := frozen_of_row w4 g 1 _ 70 hrow
  have HROW : Hid _ := hrow
  clear hD4 hrow
  go_wp2
  have hR : ((w4.setCell ⟨g, 0, none⟩ (.string nm)).setCell ⟨g, 1, none⟩ (.int .i64 ln)).heap[g]? = some (.cells #[.string nm, .int .i64 ln] 70 (0, 0)) := set_heap _ _ 1 _ _ _ _ (set_heap _ _ 0 _ _ _ _ HROW.out)
  refine bodyPost_ret (v := .agg #[.string nm, .int .i64 ln]) ?_ rfl ?_
  ·exact results_cell_row Tryz.results319 _ _ g 70 _ (0, 0) _ rfl hR Tryz.underlying70 rfl (by kernel_rfl)
  ·refine ⟨rfl, ⟨?_, HD4.out.1.fn, HD4.out.1.nt, HD4.out.1.small⟩, ?_⟩
   ·rw [set_other _ _ _ _ _ hgr.symm, set_other _ _ _ _ _ hgr.symm]; exact HD4.out.1.row
   ·have hgg : w.heap.size ≤ g := by rw [HG.out]; exact Nat.le_refl _
    exact ((HF0.out.trans' HD4.out.2).set (g := g) (.inr hgg) 0 _).set (g := g) (.inr hgg) 1 _
theorem own_below {w w' : World} {base : Nat} {e : TypeId} {size : Nat} {v : Value} {n : Nat} {xs : List Value} (h : w.ownsRow base e size v n xs) (hb : Below w.heap.size w w') : w'.ownsRow base e size v n xs := by
 refine ⟨h.1, ?_⟩
 rcases h.2 with h2 | ⟨g, cap, cur, hv, hg, hh, rest⟩
 ·exact .inl h2
 ·exact .inr ⟨g, cap, cur, hv, hg, by rw [hb.block g (Array.getElem?_eq_some_iff.1 hh).1]; exact hh, rest⟩
def tV (T : Nat → ByteArray) (n : Nat) : List Value := (List.range n).map fun i => .string (T i)
theorem tV_len (T : Nat → ByteArray) (n : Nat) : (tV T n).length = n := by simp [tV]
end Go.Proofs.YtadinjaocnlglaaGreatDoor
