/-
  What Parity and Restore answer; the refusals of Parity, both.
  NewWriter where params are refused, both; the document's Writer begun.
  The walk of layout.readBlocks.
  The walk of layout.readBlocks.
  A whole volume, as data.
-/
import Derived.Test.YtadinjaocnlglaaGreatDoorZ18
import Derived.Test.YtadinjaocnlglaaGreatDoorZ08
import Derived.Test.YtadinjaocnlglaaGreatDoorZ16
import Derived.Test.YtadinjaocnlglaaGreatDoorZ05
import Derived.Test.YtadinjaocnlglaaGreatDoorZ14
namespace Go.Proofs.YtadinjaocnlglaaGreatDoor
open Go.RowKit
set_option maxRecDepth 100000
set_option maxHeartbeats 1000000
abbrev Out : Type := (Int × Int) ⊕ (Nat × (Nat → ByteArray))
abbrev Out.bad (k i : Int) : Out := .inl (k, i)
abbrev Out.good (n : Nat) (T : Nat → ByteArray) : Out := .inr (n, T)
def GoOut (w : World) (o : Out) (x y : Value) (w' : World) : Prop := match o with
 | .inl (k, i) => ∃ g, x = .slice none 0 0 ∧ y = .iface 305 (.pointer (some ⟨g, 0, none⟩)) ∧ w.heap.size ≤ g ∧ w'.heap[g]? = some (.cells #[.int .i64 k, .int .i64 i, .nilIface] 307 (0, 0)) ∧ Below w.heap.size w w'
 | .inr (n, T) => ∃ g, x = .slice (some ⟨g, 0, none⟩) n n ∧ y = .nilIface ∧ w.heap.size ≤ g ∧ Rw w' g n 9 (tI T) ∧ Below w.heap.size w w'
def RefOut (w : World) (o : Out) (x y : Value) (w' : World) : Prop := match o with
 | .inl (k, i) => ∃ g c, x = .slice none 0 0 ∧ y = .slice (some ⟨g, 0, none⟩) 1 c ∧ w'.cell? ⟨g, 0, none⟩ = some (.int .i64 k) ∧ w'.cell? ⟨g, 1, none⟩ = some (.int .i64 i) ∧ Below w.heap.size w w'
 | .inr (n, T) => y = .slice none 0 0 ∧ w'.ownsRow w.heap.size 9 1 x n ((List.range n).map fun i => .string (T i)) ∧ Below w.heap.size w w'
theorem refBad (w w' : World) (k i : Int) (hb : Below w.heap.size w w') : RefOut w (.bad k i) (.slice none 0 0) (.slice (some ⟨w'.heap.size, 0, none⟩) 1 1) (w'.alloc (.cells #[.int .i64 k, .int .i64 i] 250)) :=
 ⟨w'.heap.size, 1, rfl, rfl, cell_of_row _ _ 0 _ 250 _ (heap_alloc_new _ _), cell_of_row _ _ 1 _ 250 _ (heap_alloc_new _ _), hb.alloc hb.size _⟩
theorem pt_ok (k m : Nat) (w : World) (hk1 : 1 ≤ k) (hkm : k + m ≤ 255) :
  Calls Tryz.prog 235 #[.int .i64 k, .int .i64 m] w fun e w' => e = .returned (.slice none 0 0) ∧ w' = w := by
 have h1 : (1 : Int) ≤ (k : Int) := by omega
 have h2 : (k : Int) ≤ 255 := by omega
 have h3 : (0 : Int) ≤ (m : Int) := by omega
 have h4 : (m : Int) ≤ 255 - (k : Int) := by omega
 go_enter Tryz.func235, Tryz.ntmps235
 go_wp2
 go_ret
 exact ⟨rfl, rfl⟩
theorem at_err (k i : Int) (w : World) : Calls Tryz.prog 151 #[.int .i64 k, .int .i64 i] w fun e w' => ∃ g, e = .returned (.iface 305 (.pointer (some ⟨g, 0, none⟩))) ∧ w'.heap[g]? = some (.cells #[.int .i64 k, .int .i64 i, .nilIface] 307 (0, 0)) ∧ Below w.heap.size w w' := by
 refine (At_any k i w).mono ?_
 rintro e w' ⟨rfl, rfl⟩
 exact ⟨_, rfl, heap_alloc_new _ _, (Below.refl _ _).alloc (Nat.le_refl _) _⟩
theorem over_err (k i : Int) (a : Addr) (w : World) : Calls Tryz.prog 178 #[.int .i64 k, .int .i64 i, .iface 305 (.pointer (some a))] w fun e w' => ∃ g, e = .returned (.iface 305 (.pointer (some ⟨g, 0, none⟩))) ∧ w'.heap[g]? = some (.cells #[.int .i64 k, .int .i64 i, .iface 305 (.pointer (some a))] 307 (0, 0)) ∧ Below w.heap.size w w' := by
 go_enter Tryz.func178, Tryz.ntmps178
 go_wp2
 go_ret
 exact ⟨_, rfl, heap_alloc_new _ _, (Below.refl _ _).alloc (Nat.le_refl _) _⟩
theorem own_le {w : World} {base b' : Nat} {e : TypeId} {size : Nat} {v : Value} {n : Nat} {xs : List Value} (h : w.ownsRow base e size v n xs) (hb : b' ≤ base) : w.ownsRow b' e size v n xs := by
 refine ⟨h.1, ?_⟩
 rcases h.2 with h2 | ⟨g, cap, cur, hv, hg, rest⟩
 ·exact .inl h2
 ·exact .inr ⟨g, cap, cur, hv, Nat.le_trans hb hg, rest⟩
set_option maxHeartbeats 4000000
theorem cut_gen (s : ByteArray) (z c : Nat) (w : World) (hz : 0 < z) (hsz : s.size ≤ 100000) (hq0 : s.size / z = c) :
  Calls Tryz.prog 203 #[.string s, .int .i64 z] w fun e w' => e = .returned (.slice (some ⟨w.heap.size, 0, none⟩) c c) ∧ Rw w' w.heap.size c 9 (tX (pc s z)) ∧ Below w.heap.size w w' := by
 have hd := wrap_div s.size z (by omega)
 rw [hq0] at hd
 have hz0 : ((z : Int) == 0) = false := by simp; omega
 have hcs : c * z ≤ s.size := by rw [← hq0]; exact Nat.div_mul_le_self _ _
 have hcm : c ≤ 100000 := by rw [← hq0]; exact Nat.le_trans (Nat.div_le_self _ _) hsz
 have hmk := run_make_row' (P := Tryz.prog) 42 9 (.string ⟨#[]⟩) 16 Tryz.underlying42 info9 rfl .i64 .i64 c (by omega) (by omega)
 have HS : Hid _ := hcs
 clear hcs hq0
 go_enter Tryz.func203, Tryz.ntmps203
 go_wp2
 go_loopw [14] (fun iv wr => ∃ i : Nat, i ≤ c ∧ iv = .int .i64 i ∧ Below w.heap.size w wr ∧ Rw wr w.heap.size c 9 (part' i (tX (pc s z)) (.string ⟨#[]⟩))) (fun iv _ => c - (intOf iv).toNat)
 case atStart => exact ⟨0, by omega, rfl, (Below.refl _ _).alloc (Nat.le_refl _) _, (Rw.made w c 9 (.string ⟨#[]⟩)).to (fun j _ => (part_0 _ _ j).symm)⟩
 case round =>
  obtain ⟨i, hi, rfl, hb, hR⟩ := hrel
  by_cases hlt : i < c
  ·have c1 := hR.cell i hlt
   have c2 := hR.free i
   have hle : (i + 1) * z ≤ s.size := Nat.le_trans (Nat.mul_le_mul_right z (by omega)) HS.out
   have hll : i * z ≤ (i + 1) * z := Nat.mul_le_mul_right z (by omega)
   obtain ⟨lo, hlo⟩ : ∃ lo, i * z = lo := ⟨_, rfl⟩
   obtain ⟨up, hup⟩ : ∃ up, (i + 1) * z = up := ⟨_, rfl⟩
   have e1 : (i : Int) * (z : Int) = ((lo : Nat) : Int) := by rw [← hlo]; simp
   have e2 : ((i : Int) + 1) * (z : Int) = ((up : Nat) : Int) := by rw [← hup]; simp
   rw [hlo, hup] at hll
   rw [hup] at hle
   have HPC : Hid (pc s z i = s.extract lo up) := by show pc s z i = s.extract lo up; unfold pc; rw [hlo, hup]
   clear hlo hup
   have hsl : ∀ W, (Instr.slice 9 (.string s) (some (.int .i64 ((lo : Nat) : Int))) (some (.int .i64 ((up : Nat) : Int))) none).run Tryz.prog W = .ok (.string (s.extract lo up)) W := fun W => by
    rw [run_slice_string W 9 s .i64 .i64 _ _ Tryz.underlying9 (by omega) (by omega) (by omega), Int.toNat_natCast, Int.toNat_natCast]
   have hc' : (i : Int) < (c : Int) := by omega
   go_wp2
   go_roundw
   case rel => exact ⟨i + 1, by omega, by go_num, hb.setCell (Nat.le_refl _) _, (hR.put i _).to (fun j _ => by rw [← HPC.out, ← part_step]; rfl)⟩
   case measure => simp [intOf]; omega
  ·have e : i = c := by omega
   subst e
   go_wp2
   go_ret
   exact ⟨rfl, hR.to (fun j hj => by simp [part', hj]), hb⟩
theorem rest_bytes (s : RS) (hw : s.wrong = false) (hn : s.next ≤ s.text.size) : s.bytes (s.text.size - s.next) = ({ s with field := s.next, next := s.text.size }, s.text.extract s.next s.text.size) := by
 unfold RS.bytes
 rw [hw]
 simp only [Bool.false_eq_true, if_false]
 rw [if_neg (by omega), show s.next + (s.text.size - s.next) = s.text.size by omega]
theorem rblk (r g B K M C V num cn first en size c : Nat) (aE : Option Addr) (kE : Nat) (es : List (ByteArray × Nat)) (root lst lv rest : ByteArray) (s : RS) (w : World) (h : RI r s w) (hw : s.wrong = false) (ht : s.text.size ≤ 60000)
  (hg : w.heap[g]? = some (.cells (volC root lst K M C V (.slice aE es.length kE) lv num 0 (.slice none 0 0)) 319 (0, 0))) (ho : w.ownsRow B 70 2 (.slice aE es.length kE) es.length (enV es)) (hl : es.length ≤ 16) (hsum : lenE es ≤ 4096)
  (hK : 1 ≤ K) (hKM : K + M ≤ 255) (hC : 1 ≤ C) (hC2 : C ≤ 64) (hV : 1 ≤ V) (hV2 : V ≤ 16) (hnum : num < V) (hcn : nst (K * C) (lenE es) * (K + M) = cn) (hcn2 : cn ≤ 512) (hfirst : num * cn / V = first) (hen : (num + 1) * cn / V = en) (hsize : (en - first) * C = size)
  (hrest : s.text.extract s.next s.text.size = rest) (hc0 : rest.size / C = c) :
  Calls Tryz.prog 251 #[.pointer (some ⟨r, 0, none⟩), .pointer (some ⟨g, 0, none⟩)] w fun e w' =>
   (size < rest.size ∧ ∃ q, e = .returned (.iface 305 (.pointer (some ⟨q, 0, none⟩))) ∧ w'.heap[q]? = some (.cells #[.int .i64 7, .int .i64 (s.next + size : Nat), .nilIface] 307 (0, 0)) ∧ Fr (fun j => j = r) w w')
   ∨ (rest.size ≤ size ∧ e = .returned .nilIface ∧ ∃ q, w.heap.size ≤ q ∧ w'.heap[g]? = some (.cells (volC root lst K M C V (.slice aE es.length kE) lv num first (.slice (some ⟨q, 0, none⟩) c c)) 319 (0, 0)) ∧ Rw w' q c 9 (tX (pc rest C)) ∧ w'.ownsRow B 70 2 (.slice aE es.length kE) es.length (enV es) ∧ Fr (fun j => j = r ∨ j = g) w w') := by
 have hgl : g < w.heap.size := (Array.getElem?_eq_some_iff.1 hg).1
 have hrl : r < w.heap.size := (Array.getElem?_eq_some_iff.1 h.row).1
 have hgr : g ≠ r := fun e => by have h1 := hg; rw [e, h.row] at h1; simp at h1
 have c2 : w.cell? ⟨g, 2, none⟩ = some (.int .i64 K) := cell_of_row _ _ _ _ 319 _ hg
 have c3 : w.cell? ⟨g, 3, none⟩ = some (.int .i64 M) := cell_of_row _ _ _ _ 319 _ hg
 have c4 : w.cell? ⟨g, 4, none⟩ = some (.int .i64 C) := cell_of_row _ _ _ _ 319 _ hg
 have c5 : w.cell? ⟨g, 5, none⟩ = some (.int .i64 V) := cell_of_row _ _ _ _ 319 _ hg
 obtain ⟨p, hp⟩ : ∃ p, w.heap.size = p := ⟨_, rfl⟩
 obtain ⟨W, hW⟩ : ∃ W, w.alloc (.cells #[.int .i64 K, .int .i64 M, .int .i64 C, .int .i64 V] 23) = W := ⟨_, rfl⟩
 have hbW : Below w.heap.size w W := by rw [← hW]; exact (Below.refl _ _).alloc (Nat.le_refl _) _
 have hpW : W.heap[p]? = some (.cells #[.int .i64 K, .int .i64 M, .int .i64 C, .int .i64 V] 23 (0, 0)) := by rw [← hW, ← hp]; exact heap_alloc_new _ _
 have HBW : Hid _ := hbW
 have HPW : Hid (w.heap.size = p) := hp
 have hpl : p < W.heap.size := (Array.getElem?_eq_some_iff.1 hpW).1
 have HPV : Hid (∀ X : World, Below W.heap.size W X → X.cell? ⟨p, 3, none⟩ = some (.int .i64 V)) := fun X hX => cell_of_row X p 3 #[.int .i64 K, .int .i64 M, .int .i64 C, .int .i64 V] 23 (0, 0) (by rw [hX.block p hpl]; exact hpW)
 have HPC : Hid (∀ X : World, X.heap[p]? = W.heap[p]? → X.cell? ⟨p, 2, none⟩ = some (.int .i64 C)) := fun X hX => cell_of_row X p 2 #[.int .i64 K, .int .i64 M, .int .i64 C, .int .i64 V] 23 (0, 0) (by rw [hX]; exact hpW)
 have hgW : W.heap[g]? = some (.cells (volC root lst K M C V (.slice aE es.length kE) lv num 0 (.slice none 0 0)) 319 (0, 0)) := by rw [hbW.block g hgl]; exact hg
 have HNUM : Hid (∀ X : World, Below W.heap.size W X → X.cell? ⟨g, 8, none⟩ = some (.int .i64 num)) := fun X hX => cell_of_row X g 8 (volC root lst K M C V (.slice aE es.length kE) lv num 0 (.slice none 0 0)) 319 (0, 0) (by rw [hX.block g (Nat.lt_of_lt_of_le hgl hbW.size)]; exact hgW)
 have H1 : Hid (∀ X : World, Below W.heap.size W X → Calls Tryz.prog 252 #[.pointer (some ⟨g, 0, none⟩)] X fun e w' => e = .returned (.int .i64 cn) ∧ Below X.heap.size X w') := fun X hX => by
  have hx : X.heap[g]? = some (.cells (volC root lst K M C V (.slice aE es.length kE) lv num 0 (.slice none 0 0)) 319 (0, 0)) := by rw [hX.block g (Nat.lt_of_lt_of_le hgl hbW.size)]; exact hgW
  rw [← hcn]
  exact hcount g B es.length kE K M C V aE es X (cell_of_row _ _ _ _ 319 _ hx) (cell_of_row _ _ _ _ 319 _ hx) (cell_of_row _ _ _ _ 319 _ hx) (cell_of_row _ _ _ _ 319 _ hx) (cell_of_row _ _ _ _ 319 _ hx) rfl (own_below (own_below ho hbW) hX) (fun i => Nat.le_trans (lenE_take_le _ i) (by omega)) (by omega) hK hKM hC hC2
 have H2 : Hid (∀ X : World, Calls Tryz.prog 185 #[.int .i64 V, .int .i64 cn, .int .i64 num] X fun e w' => e = .returned (.tuple #[.int .i64 first, .int .i64 en]) ∧ Below X.heap.size X w') := fun X => by
  refine (share_any V cn num X (by omega) (by omega) (by omega) (by omega)).mono ?_
  rintro e w' ⟨rfl, q, rfl⟩
  exact ⟨by rw [hfirst, hen], below_drewN (Below.refl _ _) _⟩
 have q5 := HPV.out W (Below.refl _ _)
 have q8 := HNUM.out W (Below.refl _ _)
 go_enter Tryz.func251, Tryz.ntmps251
 go_wp2_with fail
 try rw [hW]
 try rw [hp]
 clear hW hp c2 c3 c4 c5
 go_region_held3 (fun w2 => w2.cell? ⟨p, 3, none⟩ = some (.int .i64 V) ∧ w2.cell? ⟨g, 8, none⟩ = some (.int .i64 num)) (go_keep) (first | (go_at_call 252; refine Calls.mono (H1.out _ (by first | exact Below.refl _ _ | exact (Below.refl _ _).drew)) ?_; rintro e w1 ⟨rfl, hb1⟩; have hB1 : Below W.heap.size W w1 := (by first | exact hb1 | exact ((Below.refl _ _).drew).trans hb1); have q2 := HPV.out w1 hB1; have q3 := HNUM.out w1 hB1) | (go_at_call 185; refine Calls.mono (H2.out _) ?_; rintro e w2 ⟨rfl, hb2⟩; have hB2 : Below W.heap.size W w2 := (hB1.trans (hb2.mono hB1.size)); have u2 := HPV.out w2 hB2; have u3 := HNUM.out w2 hB2))
 have HB2 : Hid (Below w.heap.size w w2) := HBW.out.trans (hB2.mono HBW.out.size)
 have hI2 : RI r s w2 := h.low HB2.out
 have HPL : Hid _ := rplace r s w2 hI2
 have HRS : Hid (Calls Tryz.prog 292 #[.pointer (some ⟨r, 0, none⟩)] w2 fun e w' => e = .returned (.string rest) ∧ Fr (fun j => j = r) w2 w') := by
  refine Calls.mono (rrest r s w2 hI2) ?_
  rintro e w' ⟨rfl, hD⟩
  rw [rest_bytes s hw h.nt, hrest] at *
  exact ⟨rfl, hD.2⟩
 have hrz : rest.size ≤ 60000 := by rw [← hrest, ByteArray.size_extract]; omega
 have HC0 : Hid _ := hc0
 clear hc0
 have hfe : first ≤ en := by rw [← hfirst, ← hen]; exact Nat.div_le_div_right (Nat.mul_le_mul_right _ (by omega))
 have hec : en ≤ 512 := by rw [← hen]; exact Nat.le_trans (Nat.div_le_div_right (Nat.mul_le_mul (show num + 1 ≤ V by omega) hcn2)) (by rw [Nat.mul_div_cancel_left _ (by omega)]; exact Nat.le_refl _)
 have hsz : size ≤ 32768 := by rw [← hsize]; exact Nat.le_trans (Nat.mul_le_mul (show en - first ≤ 512 by omega) hC2) (by omega)
 have e3 : ((en : Int) - (first : Int)) * (C : Int) = ((size : Nat) : Int) := by rw [← hsize, show (en : Int) - (first : Int) = ((en - first : Nat) : Int) by omega]; simp
 have HW2 : Hid (W.heap.size ≤ w2.heap.size) := hB2.size
 have HPP : Hid (w2.heap[p]? = W.heap[p]?) := hB2.block p hpl
 have d2 := HPC.out w2 HPP.out
 have hnx : s.next ≤ 60000 := Nat.le_trans h.nt ht
 clear hb1 hb2 hB1 hB2 q2 q3 u2 u3 q5 q8 H1 H2 HNUM HPV hfirst hen hsize hcn hrest
 go_wp2_with fail
 refine Calls.mono HPL.out ?_
 rintro e w2' ⟨rfl, rfl⟩
 go_wp2_with fail
 refine Calls.mono HRS.out ?_
 rintro e w3 ⟨rfl, hF3⟩
 have HF3 : Hid _ := hF3
 clear hF3
 have hFw : Fr (fun j => j = r) w w3 := (Fr.below HB2.out).trans' HF3.out
 have hg3 : w3.heap[g]? = some (.cells (volC root lst K M C V (.slice aE es.length kE) lv num 0 (.slice none 0 0)) 319 (0, 0)) := by rw [hFw.old g hgl hgr]; exact hg
 have ho3 : w3.ownsRow B 70 2 (.slice aE es.length kE) es.length (enV es) := own_kept ho (fun q hq => hFw.old q (own_lt ho q hq) (fun e => by
  obtain ⟨cur, hc⟩ := own_type ho q hq
  have h2 := h.row
  rw [← e, hc] at h2; simp at h2))
 have HFW : Hid _ := hFw
 have HG3 : Hid _ := hg3
 have HO3 : Hid _ := ho3
 have hpr : p ≠ r := by rw [← HPW.out]; omega
 have hpg : p ≠ g := by rw [← HPW.out]; omega
 have HP3 : Hid (w3.heap[p]? = W.heap[p]?) := by show _ = _; rw [HF3.out.old p (Nat.lt_of_lt_of_le hpl HW2.out) hpr, HPP.out]
 clear d2 hFw hg3 ho3 h hg ho
 by_cases hbig : size < rest.size
 ·have hbi : (size : Int) < (rest.size : Int) := by omega
  go_wp2_with fail
  refine Calls.mono (at_err 7 _ w3) ?_
  rintro e w4 ⟨q, rfl, hq, hB⟩
  have HQ : Hid _ := hq
  have HB4 : Hid _ := hB
  clear hq hB
  go_wp2_with fail
  go_ret
  exact .inl ⟨hbig, q, rfl, by rw [HQ.out]; simp, HFW.out.thenBelow HB4.out⟩
 ·have hbi : ¬ (size : Int) < (rest.size : Int) := by omega
  have a9 : w3.cell? ⟨g, 9, none⟩ = some (.int .i64 0) := cell_of_row _ _ _ _ 319 _ HG3.out
  have b9 := frozen_of_row w3 g 9 _ 319 HG3.out
  obtain ⟨X, hX⟩ : ∃ X, w3.setCell ⟨g, 9, none⟩ (.int .i64 first) = X := ⟨_, rfl⟩
  have HGX : Hid (X.heap[g]? = some (.cells (volC root lst K M C V (.slice aE es.length kE) lv num first (.slice none 0 0)) 319 (0, 0))) := by show _ = _; rw [← hX]; exact set_heap _ _ _ _ _ _ _ HG3.out
  have dX : X.cell? ⟨p, 2, none⟩ = some (.int .i64 C) := HPC.out X (by rw [← hX, set_other _ _ _ _ _ hpg]; exact HP3.out)
  have HFX : Hid (Fr (fun j => j = r ∨ j = g) w X) := by show Fr _ _ _; rw [← hX]; exact (HFW.out.mono (fun j _ hj => .inl hj)).set (.inl (.inr rfl)) _ _
  have HOX : Hid (X.ownsRow B 70 2 (.slice aE es.length kE) es.length (enV es)) := by
   show World.ownsRow _ _ _ _ _ _ _
   rw [← hX]
   exact own_kept HO3.out (fun q hq => set_other _ _ _ _ _ (fun e => by
    obtain ⟨cur, hc⟩ := own_type HO3.out q hq
    rw [e, HG3.out] at hc; simp at hc))
  have HC : Hid _ := cut_gen rest C c X (by omega) (by omega) HC0.out
  go_wp2_with fail
  clear hX a9 b9
  refine Calls.mono HC.out ?_
  rintro e w5 ⟨rfl, hR, hB⟩
  have hg5 : w5.heap[g]? = _ := (hB.block g (Array.getElem?_eq_some_iff.1 HGX.out).1).trans HGX.out
  have a10 : w5.cell? ⟨g, 10, none⟩ = some (.slice none 0 0) := cell_of_row _ _ _ _ 319 _ hg5
  have b10 := frozen_of_row w5 g 10 _ 319 hg5
  have HG5 : Hid _ := hg5
  have HB5 : Hid _ := hB
  have HR5 : Hid _ := hR
  clear hg5 hB hR dX
  go_wp2_with fail
  go_ret
  have hgX : g < X.heap.size := (Array.getElem?_eq_some_iff.1 HGX.out).1
  refine .inr ⟨by omega, rfl, X.heap.size, HFX.out.size, set_heap _ _ _ _ _ _ _ HG5.out, ?_, ?_, (HFX.out.thenBelow HB5.out).set (.inl (.inr rfl)) _ _⟩
  ·show (World.heap _)[X.heap.size]? = _
   rw [set_other _ _ _ _ _ (by omega)]
   exact HR5.out
  ·exact own_kept (own_below HOX.out HB5.out) (fun q hq => set_other _ _ _ _ _ (fun e => by
    obtain ⟨cur, hc⟩ := own_type (own_below HOX.out HB5.out) q hq
    rw [e, HG5.out] at hc; simp at hc))
theorem bytes_sz {s : RS} {n : Nat} (h : (s.bytes n).1.wrong = false) : (s.bytes n).2.size = n := by
 have hw := bytes_ok h
 unfold RS.bytes at h ⊢
 rw [hw] at h ⊢
 simp only [Bool.false_eq_true, if_false] at h ⊢
 split at h
 ·cases h
 ·rename_i h2
  rw [if_neg h2]
  show (s.text.extract s.next (s.next + n)).size = n
  rw [ByteArray.size_extract]
  omega
theorem refuse_adv {s s' : RS} (h : Adv s s') (b : Prop) [Decidable b] : Adv s (if b then s'.refuse else s') := by
 split
 ·exact h
 ·exact h
theorem told_adv (s : RS) : Adv s s.told.st := by
 have h1 : Adv s ((s.word ⟨#[86, 79, 76, 49]⟩).bytes 32).1 := (word_adv s _).trans (bytes_adv _ _)
 have h2 := h1.trans (list_adv _)
 have h3 := h2.trans (num_adv _ 0 ((((s.word ⟨#[86, 79, 76, 49]⟩).bytes 32).1.list.V : Int) - 1))
 unfold RS.told
 simp only []
 split
 ·exact h3
 ·exact (refuse_adv h3 _).trans (bytes_adv _ _)
theorem told_lst (s : RS) : s.told.lst.size ≤ s.text.size := by
 have h1 : Adv s ((s.word ⟨#[86, 79, 76, 49]⟩).bytes 32).1 := (word_adv s _).trans (bytes_adv _ _)
 have h2 := h1.trans (list_adv _)
 unfold RS.told
 simp only []
 split <;> (show (ByteArray.extract _ _ _).size ≤ _; rw [ByteArray.size_extract, h2.1]; omega)
theorem told_len (s : RS) : s.told.L.es.length ≤ 16 ∧ lenE s.told.L.es ≤ 4096 := by
 unfold RS.told
 simp only []
 split <;> exact ⟨list_len _, list_sum _⟩
theorem lt_pred (a b : Nat) (h : (a : Int) ≤ (b : Int) - 1) : a < b := by omega
structure Told1 (T : TT) : Prop where
 k1 : 1 ≤ T.L.K
 km : T.L.K + T.L.M ≤ 255
 c1 : 1 ≤ T.L.C
 c64 : T.L.C ≤ 64
 v1 : 1 ≤ T.L.V
 v16 : T.L.V ≤ 16
 num : T.num < T.L.V
 cnt : T.L.cnt ≤ 512
 lv : T.lv.size = T.L.cnt * 32
theorem told_ok {s : RS} (h : s.told.st.wrong = false) : Told1 s.told := by
 unfold RS.told at h ⊢
 simp only [] at h ⊢
 split at h
 ·rename_i hw
  have hw' : (((s.word ⟨#[86, 79, 76, 49]⟩).bytes 32).1.list.st.num 0 ((((s.word ⟨#[86, 79, 76, 49]⟩).bytes 32).1.list.V : Int) - 1)).1.wrong = false := h
  rw [hw] at hw'; cases hw'
 ·rename_i hw
  rw [if_neg hw]
  have hw0 : (((s.word ⟨#[86, 79, 76, 49]⟩).bytes 32).1.list.st.num 0 ((((s.word ⟨#[86, 79, 76, 49]⟩).bytes 32).1.list.V : Int) - 1)).1.wrong = false := by simpa using hw
  have h1 := num_ok hw0
  have h2 := list_ok h1.1
  have h3 := bytes_ok h
  have h4 := bytes_sz h
  have h5 : ((s.word ⟨#[86, 79, 76, 49]⟩).bytes 32).1.list.cnt ≤ 512 := by
   by_cases hc : 512 < ((s.word ⟨#[86, 79, 76, 49]⟩).bytes 32).1.list.cnt
   ·rw [if_pos hc] at h3; cases h3
   ·omega
  exact ⟨h2.2.1, h2.2.2.1, h2.2.2.2.1, h2.2.2.2.2.1, h2.2.2.2.2.2.1, h2.2.2.2.2.2.2, lt_pred _ _ h1.2.2, h5, h4⟩
def RS.on (t : ByteArray) : RS := ⟨t, 0, 0, false⟩
def tTold (t : ByteArray) : ByteArray := t.extract 0 (RS.on t).told.st.next
def tCk (t : ByteArray) : RS × ByteArray := (RS.on t).told.st.bytes 32
def tRest (t : ByteArray) : ByteArray := t.extract (tCk t).1.next t.size
def TT.first (T : TT) : Nat := T.num * T.L.cnt / T.L.V
def TT.size (T : TT) : Nat := ((T.num + 1) * T.L.cnt / T.L.V - T.first) * T.L.C
def rdE (kt : Nat → Int) (t : ByteArray) : Option (Nat × Nat) :=
 if 60000 < t.size then some (4, t.size)
 else if (tCk t).1.wrong then some (7, (tCk t).1.field)
 else if (tCk t).2 = ofT kt (⟨#[3]⟩ ++ tTold t) then
  if (RS.on t).told.root = rootT (ofT kt) (RS.on t).told.lst (RS.on t).told.L.cnt (pc (RS.on t).told.lv 32) then
   if (RS.on t).told.size < (tRest t).size then some (7, (tCk t).1.next + (RS.on t).told.size) else none
  else some (9, 4)
 else some (8, (RS.on t).told.st.next)
theorem ck_ok {t : ByteArray} (h : (tCk t).1.wrong = false) : Told1 (RS.on t).told := told_ok (bytes_ok h)
theorem ck_text (t : ByteArray) : (tCk t).1.text = t := ((told_adv (RS.on t)).trans (bytes_adv _ _)).1
end Go.Proofs.YtadinjaocnlglaaGreatDoor
