/-
  The walk of stock.Open.
-/
import Derived.Test.YtadinjaocnlglaaGreatDoorZ24
namespace Go.Proofs.YtadinjaocnlglaaGreatDoor
open Go.RowKit
set_option maxRecDepth 100000
set_option maxHeartbeats 4000000
def texL (L : Nat → ByteArray) (n : Nat) : List ByteArray := (List.range n).map L
def FirstE (kt : Nat → Int) (rt : ByteArray) (L : Nat → ByteArray) (i : Nat) (v : Value) (w : World) : Prop :=
 (0 < i → ∀ k p, sdE kt rt (L 0) = some (k, p) → ∃ z : Nat, v = .iface 305 (.pointer (some ⟨z, 0, none⟩)) ∧ w.heap[z]? = some (.cells #[.int .i64 (k : Nat), .int .i64 (p : Nat), .nilIface] 307 (0, 0))) ∧ (i = 0 ∨ sdE kt rt (L 0) = none → v = .nilIface)
def OpD (kt : Nat → Int) (rt : ByteArray) (L : Nat → ByteArray) (n : Nat) (B : Nat) (e : Ending) (w : World) : Prop :=
 match OS.run kt rt 0 (texL L n) OS.new with
 | .error (a, b) => ∃ v, e = .returned (.tuple #[.pointer none, v]) ∧ ErrD a b (.returned v) w
 | .ok s => (s.hd = none ∧ ∃ v, e = .returned (.tuple #[.pointer none, v]) ∧ (n = 0 → ErrD 11 0 (.returned v) w) ∧ (0 < n → ∀ k p, sdE kt rt (L 0) = some (k, p) → ErrD3 n k p (.returned v) w)) ∨ (s.hd ≠ none ∧ ∃ k, e = .returned (.tuple #[.pointer (some ⟨k, 0, none⟩), .nilIface]) ∧ OI kt B k s w)
theorem texL_succ (L : Nat → ByteArray) (i : Nat) : texL L (i + 1) = texL L i ++ [L i] := by unfold texL; rw [List.range_succ, List.map_append]; rfl
theorem texL_len (L : Nat → ByteArray) (i : Nat) : (texL L i).length = i := by unfold texL; simp
theorem texL_split (L : Nat → ByteArray) (m : Nat) : ∀ n, m ≤ n → ∃ r, texL L n = texL L m ++ r
 | 0, h => ⟨[], by
  have : m = 0 := by omega
  subst this; simp⟩
 | n + 1, h => by
  by_cases e : m = n + 1
  ·exact ⟨[], by rw [e]; simp⟩
  ·obtain ⟨r, hr⟩ := texL_split L m n (by omega)
   exact ⟨r ++ [L n], by rw [texL_succ, hr, List.append_assoc]⟩
theorem FirstE.good {kt : Nat → Int} {rt : ByteArray} {L : Nat → ByteArray} {i : Nat} {v : Value} {w w' : World} (h : FirstE kt rt L i v w) (hs : sdE kt rt (L i) = none) (hk : Keep w w') : FirstE kt rt L (i + 1) v w' := by
 refine ⟨fun _ k p hkp => ?_, fun hc => ?_⟩
 ·by_cases h0 : 0 < i
  ·obtain ⟨z, e, hz⟩ := h.1 h0 k p hkp
   exact ⟨z, e, hk z _ hz⟩
  ·have : i = 0 := by omega
   subst this
   rw [hs] at hkp; cases hkp
 ·rcases hc with e | e
  ·exact absurd e (by omega)
  ·exact h.2 (.inr e)
theorem FirstE.bad {kt : Nat → Int} {rt : ByteArray} {L : Nat → ByteArray} {i : Nat} {v : Value} {w w' : World} (h : FirstE kt rt L i v w) (h0 : 0 < i) (hk : Keep w w') : FirstE kt rt L (i + 1) v w' := by
 refine ⟨fun _ k p hkp => ?_, fun hc => ?_⟩
 ·obtain ⟨z, e, hz⟩ := h.1 h0 k p hkp
  exact ⟨z, e, hk z _ hz⟩
 ·rcases hc with e | e
  ·exact absurd e (by omega)
  ·exact h.2 (.inr e)
theorem OpD.err {kt : Nat → Int} {rt : ByteArray} {L : Nat → ByteArray} {n B i a b : Nat} {s : OS} {v : Value} {w : World} (hr : OS.run kt rt 0 (texL L i) OS.new = .ok s) (hs : s.step kt rt i (L i) = .error (a, b)) (hi : i < n) (he : ErrD a b (.returned v) w) : OpD kt rt L n B (.returned (.tuple #[.pointer none, v])) w := by
 obtain ⟨r, hr2⟩ := texL_split L (i + 1) n (by omega)
 have h1 := run_snoc kt rt (L i) _ 0 _ _ hr
 rw [texL_len, Nat.zero_add, hs, ← texL_succ] at h1
 have h2 := run_err kt rt r _ 0 _ _ h1
 rw [← hr2] at h2
 unfold OpD
 rw [h2]
 exact ⟨v, rfl, he⟩
theorem step_hd {kt : Nat → Int} {rt t : ByteArray} {i : Nat} {s s1 : OS} (h : s.step kt rt i t = .ok s1) (hh : s.hd ≠ none ∨ sdE kt rt t = none) : s1.hd ≠ none := by
 unfold OS.step at h
 split at h
 ·rename_i hs
  cases h
  rcases hh with e | e
  ·exact e
  ·rw [e] at hs; cases hs
 ·split at h
  ·cases h
   intro e; cases e
  ·rename_i t0 hd
   split at h
   ·split at h
    ·cases h
    ·cases h
     intro e
     rw [show (s.take t).hd = s.hd from rfl, hd] at e; cases e
   ·cases h
theorem run_hd {kt : Nat → Int} {rt : ByteArray} : ∀ (l : List ByteArray) (i : Nat) (s s1 : OS), OS.run kt rt i l s = .ok s1 → s.hd ≠ none → s1.hd ≠ none
 | [], _, _, _, h, hh => by cases h; exact hh
 | t :: l, i, s, s1, h, hh => by
  rw [OS.run] at h
  cases hs : s.step kt rt i t with
  | error e => rw [hs] at h; cases h
  | ok s' => rw [hs] at h; exact run_hd l (i + 1) s' s1 h (step_hd hs (.inl hh))
theorem first_bad {kt : Nat → Int} {rt : ByteArray} {L : Nat → ByteArray} {n : Nat} {s : OS} (h : OS.run kt rt 0 (texL L n) OS.new = .ok s) (hn : 0 < n) (hd : s.hd = none) : sdE kt rt (L 0) ≠ none := fun e => by
 obtain ⟨r, hr⟩ := texL_split L 1 n (by omega)
 rw [hr, show texL L 1 ++ r = L 0 :: r from rfl, OS.run] at h
 cases hs : OS.new.step kt rt 0 (L 0) with
 | error e' => rw [hs] at h; cases h
 | ok s' => rw [hs] at h; exact run_hd r 1 s' s h (step_hd hs (.inr e)) hd
theorem step_un {kt : Nat → Int} {rt t : ByteArray} {i : Nat} {s s1 : OS} (h : s.step kt rt i t = .ok s1) : s1.un.length ≤ s.un.length + 1 := by
 unfold OS.step at h
 split at h
 ·cases h; simp
 ·split at h
  ·cases h; exact Nat.le_succ _
  ·split at h
   ·split at h
    ·cases h
    ·cases h; exact Nat.le_succ _
   ·cases h
theorem run_un {kt : Nat → Int} {rt : ByteArray} : ∀ (l : List ByteArray) (i : Nat) (s s1 : OS), OS.run kt rt i l s = .ok s1 → s1.un.length ≤ s.un.length + l.length
 | [], _, _, _, h => by cases h; exact Nat.le_refl _
 | t :: l, i, s, s1, h => by
  rw [OS.run] at h
  cases hs : s.step kt rt i t with
  | error e => rw [hs] at h; cases h
  | ok s' =>
   rw [hs] at h
   have h1 := run_un l (i + 1) s' s1 h
   have h2 := step_un hs
   rw [List.length_cons]
   omega
theorem sopen (kt : Nat → Int) (rt : ByteArray) (L : Nat → ByteArray) (b n cap : Nat) (w : World) (hG : Gd kt w) (hb : b < w.heap.size) (hC : Cl w b n (tI L)) (hn : n ≤ 10000000000000) (hL : ∀ i, i < n → (L i).size ≤ 140737488351232) (hrt : rt.size = 0 ∨ rt.size = 32) :
  Calls Tryz.prog 104 #[.slice (some ⟨b, 0, none⟩) n cap, .string rt] w fun e w' => OpD kt rt L n w.heap.size e w' ∧ Below w.heap.size w w' := by
 have HG : Hid _ := hG
 have HC : Hid _ := hC
 have HL : Hid _ := hL
 clear hG hC hL
 go_enter Tryz.func104, Tryz.ntmps104
 rcases hrt with h0 | h32
 ·have h0' : (rt.size : Int) = 0 := by omega
  obtain ⟨k, hk⟩ : ∃ k, w.heap.size = k := ⟨_, rfl⟩
  go_wp2_with fail
  go_loopw [7, 26] (fun fv iv wr => ∃ (i : Nat) (s : OS) (ff : Value), i ≤ n ∧ ff = fv ∧ iv = .int .i64 i ∧ OS.run kt rt 0 (texL L i) OS.new = .ok s ∧ OI kt w.heap.size k s wr ∧ FirstE kt rt L i ff wr ∧ Below w.heap.size w wr) (fun _ iv _ => n - (intOf iv).toNat)
  case atStart =>
   refine ⟨0, OS.new, _, Nat.zero_le _, rfl, rfl, rfl, ⟨.slice none 0 0, ⟨rfl, .inl ⟨rfl, rfl⟩⟩, .inl ⟨rfl, by rw [← hk]; exact heap_alloc_new _ _⟩⟩, ⟨fun h => absurd h (by omega), fun _ => rfl⟩, (Below.refl _ _).alloc (Nat.le_refl _) _⟩
  case round =>
   obtain ⟨i, s, ff, hi, rfl, rfl, hrun, hOI, hFE, hB⟩ := hrel
   have HRUN : Hid _ := hrun
   have HOI : Hid (OI kt w.heap.size k s wr) := hOI
   have HFE : Hid (FirstE kt rt L i ff wr) := hFE
   have HB : Hid _ := hB
   clear hrun hOI hFE hB
   by_cases hlt : i < n
   ·have hlt' : (i : Int) < (n : Int) := by omega
    have cb : wr.cell? ⟨b, i, none⟩ = some (.string (L i)) := (HB.out.cell (p := ⟨b, i, none⟩) hb).trans (HC.out i hlt)
    have HSR : Hid _ := sread kt (L i) rt wr (HG.out.below HB.out) (HL.out i hlt)
    obtain ⟨t, ht⟩ : ∃ t, L i = t := ⟨_, rfl⟩
    rw [ht] at cb HSR
    go_wp2_with fail
    refine Calls.mono HSR.out ?_
    rintro e w1 ⟨hB1, h1, h2⟩
    have HB1 : Hid _ := hB1
    clear hB1 cb HSR
    cases hE : sdE kt rt t with
    | some kp =>
     obtain ⟨a, p⟩ := kp
     obtain ⟨z, rfl, hz⟩ := h1 a p hE
     have HZ : Hid (w1.heap[z]? = some (.cells #[.int .i64 (a : Nat), .int .i64 (p : Nat), .nilIface] 307 (0, 0))) := hz
     clear h1 h2 hz
     have hul : s.un.length ≤ i := by have h1 := run_un _ _ _ _ HRUN.out; rw [texL_len] at h1; have h2 : OS.new.un.length = 0 := rfl; omega
     obtain ⟨un, hun, hc⟩ := HOI.out.below HB1.out
     obtain ⟨vh, rd', bl', fi', hkr⟩ : ∃ vh rd' bl' fi', w1.heap[k]? = some (.cells (stC vh un rd' bl' fi') 224 (0, 0)) := by
      rcases hc with ⟨_, h⟩ | ⟨t0, g, p, q, f, _, _, _, _, _, hS⟩
      ·exact ⟨_, _, _, _, h⟩
      ·exact ⟨_, _, _, _, hS.row⟩
     obtain ⟨au, cu, rfl⟩ := own_shape hun
     have c1 : w1.cell? ⟨k, 1, none⟩ = some (.slice au s.un.length cu) := cell_of_row _ _ _ _ 224 _ hkr
     have HKR : Hid _ := hkr
     have HU : Hid (w1.ownsRow w.heap.size 3 1 (.slice au s.un.length cu) s.un.length (unV s.un)) := hun
     have HCC : Hid _ := hc
     clear hkr hun hc
     obtain ⟨i0, hi0, z0, z1, z2⟩ : ∃ i0, Tryz.prog.info? 3 = some i0 ∧ i0.zero = some (.int .i64 0) ∧ i0.size = 1 ∧ i0.bytes = 8 := by
      have h := info3
      cases hi : Tryz.prog.info? 3 with
      | none => rw [hi] at h; cases h
      | some i => rw [hi] at h; simp at h; exact ⟨i, rfl, h.1, h.2.1, h.2.2⟩
     have HBL1 : Hid (Below w.heap.size w w1) := HB.out.trans (HB1.out.mono HB.out.size)
     have hwl : w.heap.size ≤ w1.heap.size := HBL1.out.size
     have HOLD : Hid (∀ w2 : World, (w1.alloc (.cells #[.int .i64 i] 3)).grownBy w2 (Value.slice au s.un.length cu).ownBlock → ∀ j, j < w1.heap.size → (Value.slice au s.un.length cu).ownBlock ≠ some j → w2.heap[j]? = w1.heap[j]?) := fun w2 hG j hj hne => by rw [hG.block j (by simp; omega) (fun e => hne e.symm), heap_alloc_old _ _ hj]
     have HKU : Hid (k < w1.heap.size ∧ (Value.slice au s.un.length cu).ownBlock ≠ some k) := ⟨(Array.getElem?_eq_some_iff.1 HKR.out).1, fun e => by
      obtain ⟨cur, hcur⟩ := own_type HU.out k e
      exact row_ne HKR.out hcur (by decide) rfl⟩
     have HSTEP : Hid (s.step kt rt i t = .ok { s with un := s.un ++ [i] }) := by
      show _ = _
      unfold OS.step
      rw [hE]
      rfl
     have HR2 : Hid (OS.run kt rt 0 (texL L (i + 1)) OS.new = .ok { s with un := s.un ++ [i] }) := by
      show _ = _
      rw [texL_succ, run_snoc kt rt (L i) _ 0 _ _ HRUN.out, texL_len, Nat.zero_add, ht]
      exact HSTEP.out
     have HK2 : Hid (∀ w2 : World, (w1.alloc (.cells #[.int .i64 i] 3)).grownBy w2 (Value.slice au s.un.length cu).ownBlock → w2.heap[k]? = some (.cells (stC vh (.slice au s.un.length cu) rd' bl' fi') 224 (0, 0))) := fun w2 hG => (HOLD.out w2 hG k HKU.out.1 HKU.out.2).trans HKR.out
     by_cases h00 : i = 0
     ·have hi00 : ((i : Int) == 0) = true := by simp; omega
      have H00 : Hid (i = 0) := h00
      clear h00
      go_wp2_with (at_builtin; refine wpList_append_own _ rfl (.tmp 46) (.tmp 48) 39 rfl w.heap.size 3 i0 (.int .i64 0) 1 8 Tryz.underlying39 hi0 z0 z1 z2 rfl (by decide) (.slice au s.un.length cu) s.un.length (unV s.un) (by simp [Act.eval]) (HU.out.alloc _) ⟨w1.heap.size, 0, none⟩ 1 1 [.int .i64 i] (by simp [Act.eval]) rfl (cell_one_new _ _ _) (by intro u hu; simp at hu; subst hu; rfl) (by unfold maxLen; omega) (by omega) (by simp; omega) ?_; intro v2 w2 hO2 hG2 _; obtain ⟨a2, k2, hv2⟩ := own_shape hO2; subst hv2; have hk2 := HK2.out w2 hG2; have m1 : w2.cell? ⟨k, 1, none⟩ = some (.slice au s.un.length cu) := (cell_of_row _ _ _ _ 224 _ hk2); have m2 := frozen_of_row w2 k 1 _ 224 hk2; have HO2 : Hid _ := hO2; have HG2 : Hid _ := hG2; clear hO2 hG2 hk2)
      have hOI2 : OI kt w.heap.size k { s with un := s.un ++ [i] } (w2.setCell ⟨k, 1, none⟩ (.slice a2 (s.un.length + 1) k2)) := OI.more HU.out HCC.out HO2.out (HOLD.out w2 HG2.out)
      have hkw : w.heap.size ≤ k := Nat.le_of_eq hk
      have hB2 : Below w.heap.size w (w2.setCell ⟨k, 1, none⟩ (.slice a2 (s.un.length + 1) k2)) := Fr.toBelow ((((Fr.below HBL1.out).alloc (.cells #[.int .i64 i] 3)).grown HG2.out (fun q hq => .inr (own_ge HU.out q hq))).set (g := k) (.inr hkw) _ _)
      have hke : (w2.setCell ⟨k, 1, none⟩ (.slice a2 (s.un.length + 1) k2)).heap[z]? = some (.cells #[.int .i64 (a : Nat), .int .i64 (p : Nat), .nilIface] 307 (0, 0)) := by
       rw [set_other _ _ _ _ _ (row_ne HZ.out HKR.out (by decide)), HOLD.out w2 HG2.out z (Array.getElem?_eq_some_iff.1 HZ.out).1 (fun e => by
        obtain ⟨cur, hcur⟩ := own_type HU.out z e
        exact row_ne HZ.out hcur (by decide) rfl)]
       exact HZ.out
      refine ⟨⟨i + 1, { s with un := s.un ++ [i] }, _, by omega, rfl, by go_num, HR2.out, hOI2, ⟨fun _ k' p' h' => ?_, fun hc' => ?_⟩, hB2⟩, ?_⟩
      ·have e0 : L 0 = t := by rw [← H00.out]; exact ht
       rw [e0, hE] at h'
       cases h'
       exact ⟨z, rfl, hke⟩
      ·rcases hc' with e | e
       ·exact absurd e (by omega)
       ·rw [show L 0 = t by rw [← H00.out]; exact ht, hE] at e
        cases e
      ·simp [intOf]; omega
     ·have hi00 : ((i : Int) == 0) = false := by simp; omega
      have H00 : Hid (0 < i) := Nat.pos_of_ne_zero h00
      clear h00
      go_wp2_with (at_builtin; refine wpList_append_own _ rfl (.tmp 46) (.tmp 48) 39 rfl w.heap.size 3 i0 (.int .i64 0) 1 8 Tryz.underlying39 hi0 z0 z1 z2 rfl (by decide) (.slice au s.un.length cu) s.un.length (unV s.un) (by simp [Act.eval]) (HU.out.alloc _) ⟨w1.heap.size, 0, none⟩ 1 1 [.int .i64 i] (by simp [Act.eval]) rfl (cell_one_new _ _ _) (by intro u hu; simp at hu; subst hu; rfl) (by unfold maxLen; omega) (by omega) (by simp; omega) ?_; intro v2 w2 hO2 hG2 _; obtain ⟨a2, k2, hv2⟩ := own_shape hO2; subst hv2; have hk2 := HK2.out w2 hG2; have m1 : w2.cell? ⟨k, 1, none⟩ = some (.slice au s.un.length cu) := (cell_of_row _ _ _ _ 224 _ hk2); have m2 := frozen_of_row w2 k 1 _ 224 hk2; have HO2 : Hid _ := hO2; have HG2 : Hid _ := hG2; clear hO2 hG2 hk2)
      have hOI2 : OI kt w.heap.size k { s with un := s.un ++ [i] } (w2.setCell ⟨k, 1, none⟩ (.slice a2 (s.un.length + 1) k2)) := OI.more HU.out HCC.out HO2.out (HOLD.out w2 HG2.out)
      have hkw : w.heap.size ≤ k := Nat.le_of_eq hk
      have hB2 : Below w.heap.size w (w2.setCell ⟨k, 1, none⟩ (.slice a2 (s.un.length + 1) k2)) := Fr.toBelow ((((Fr.below HBL1.out).alloc (.cells #[.int .i64 i] 3)).grown HG2.out (fun q hq => .inr (own_ge HU.out q hq))).set (g := k) (.inr hkw) _ _)
      have hke : Keep wr (w2.setCell ⟨k, 1, none⟩ (.slice a2 (s.un.length + 1) k2)) := fun z' cs hz' => by
       have hz1 := Keep.below HB1.out z' cs hz'
       rw [set_other _ _ _ _ _ (row_ne hz1 HKR.out (by decide)), HOLD.out w2 HG2.out z' (Array.getElem?_eq_some_iff.1 hz1).1 (fun e => by
        obtain ⟨cur, hcur⟩ := own_type HU.out z' e
        exact row_ne hz1 hcur (by decide) rfl)]
       exact hz1
      refine ⟨⟨i + 1, { s with un := s.un ++ [i] }, _, by omega, rfl, by go_num, HR2.out, hOI2, HFE.out.bad H00.out hke, hB2⟩, ?_⟩
      simp [intOf]; omega
    | none =>
     obtain ⟨hrd, g2, rfl, hV⟩ := h2 hE
     have HAD : Hid _ := sadd_os kt rt t w.heap.size wr.heap.size k g2 i s w1 (HOI.out.below HB1.out) (Nat.le_of_eq hk) (HB.out.trans (HB1.out.mono HB.out.size)).size hE hrd hV HB.out.size
     clear h1 h2 hV
     go_wp2_with fail
     refine Calls.mono HAD.out ?_
     rintro e w2 ⟨q1, q2, q3, q4⟩
     have HBL : Hid (Below w.heap.size w w2) := (HB.out.trans (HB1.out.mono HB.out.size)).trans q3
     have hke : Keep wr w2 := fun z cs hz => q4 z cs (Keep.below HB1.out z cs hz)
     have HF2 : Hid (FirstE kt rt L (i + 1) ff w2) := HFE.out.good (by rw [ht]; exact hE) hke
     clear q3 q4 hke
     cases hst : s.step kt rt i t with
     | ok s' =>
      obtain ⟨rfl, hOI'⟩ := q1 s' hst
      have HO2 : Hid (OI kt w.heap.size k s' w2) := hOI'
      have HR2 : Hid (OS.run kt rt 0 (texL L (i + 1)) OS.new = .ok s') := by
       show _ = _
       rw [texL_succ, run_snoc kt rt (L i) _ 0 _ _ HRUN.out, texL_len, Nat.zero_add, ht]
       exact hst
      clear q1 q2 hOI'
      go_wp2_with fail
      go_roundw
      case rel => exact ⟨i + 1, s', ff, by omega, rfl, by go_num, HR2.out, HO2.out, HF2.out, HBL.out⟩
      case measure => simp [intOf]; omega
     | error ab =>
      obtain ⟨a, b'⟩ := ab
      obtain ⟨z, rfl, hz⟩ := q2 a b' hst
      have HZ : Hid _ := hz
      clear q1 q2 hz
      go_wp2_with fail
      go_ret2
      exact ⟨OpD.err HRUN.out (by rw [ht]; exact hst) hlt ⟨z, rfl, HZ.out⟩, HBL.out⟩
   ·have e : i = n := by omega
    subst e
    obtain ⟨un, hun, hc⟩ := HOI.out
    clear hun
    rcases hc with ⟨hd, hkr⟩ | ⟨t0, g, p, q, f, hd, hr, hp, hq, hfB, hS⟩
    ·have c0 : wr.cell? ⟨k, 0, none⟩ = some (.pointer none) := cell_of_row _ _ _ _ 224 _ hkr
     clear hkr
     by_cases hn0 : 0 < i
     ·cases hE : sdE kt rt (L 0) with
      | none => exact absurd hE (first_bad HRUN.out hn0 hd)
      | some kp =>
       obtain ⟨a, p⟩ := kp
       obtain ⟨z, rfl, hz⟩ := HFE.out.1 hn0 a p hE
       have HN : Hid _ := none_some i z a p wr hn0 hz
       clear hz
       go_wp2_with fail
       refine Calls.mono HN.out ?_
       rintro e w2 ⟨⟨x, y, z', rfl, hx⟩, hB2⟩
       have HX : Hid _ := hx
       have HB2 : Hid _ := hB2
       clear hx hB2
       go_wp2_with fail
       go_ret2
       refine ⟨?_, HB.out.trans (HB2.out.mono HB.out.size)⟩
       unfold OpD
       rw [HRUN.out]
       refine .inl ⟨hd, _, rfl, fun h => absurd h (by omega), fun _ k' p' h' => ?_⟩
       rw [hE] at h'
       cases h'
       exact ⟨x, y, z', rfl, HX.out⟩
     ·have e0 : i = 0 := by omega
      subst e0
      have HN : Hid _ := none_zero ff wr
      go_wp2_with fail
      refine Calls.mono HN.out ?_
      rintro e w2 ⟨⟨z, rfl, hz⟩, hB2⟩
      have HZ : Hid _ := hz
      have HB2 : Hid _ := hB2
      clear hz hB2
      go_wp2_with fail
      go_ret2
      refine ⟨?_, HB.out.trans (HB2.out.mono HB.out.size)⟩
      unfold OpD
      rw [HRUN.out]
      exact .inl ⟨hd, _, rfl, fun _ => ⟨z, rfl, HZ.out⟩, fun h => absurd h (by omega)⟩
    ·have c0 : wr.cell? ⟨k, 0, none⟩ = some (.pointer (some ⟨g, 0, none⟩)) := cell_of_row _ _ _ _ 224 _ hS.row
     clear hS
     go_wp2_with fail
     go_ret2
     refine ⟨?_, HB.out⟩
     unfold OpD
     rw [HRUN.out]
     exact .inr ⟨by rw [hd]; simp, k, rfl, HOI.out⟩
 ·have h32' : (rt.size : Int) = 32 := by omega
  obtain ⟨k, hk⟩ : ∃ k, w.heap.size = k := ⟨_, rfl⟩
  go_wp2_with fail
  go_loopw [7, 26] (fun fv iv wr => ∃ (i : Nat) (s : OS) (ff : Value), i ≤ n ∧ ff = fv ∧ iv = .int .i64 i ∧ OS.run kt rt 0 (texL L i) OS.new = .ok s ∧ OI kt w.heap.size k s wr ∧ FirstE kt rt L i ff wr ∧ Below w.heap.size w wr) (fun _ iv _ => n - (intOf iv).toNat)
  case atStart =>
   refine ⟨0, OS.new, _, Nat.zero_le _, rfl, rfl, rfl, ⟨.slice none 0 0, ⟨rfl, .inl ⟨rfl, rfl⟩⟩, .inl ⟨rfl, by rw [← hk]; exact heap_alloc_new _ _⟩⟩, ⟨fun h => absurd h (by omega), fun _ => rfl⟩, (Below.refl _ _).alloc (Nat.le_refl _) _⟩
  case round =>
   obtain ⟨i, s, ff, hi, rfl, rfl, hrun, hOI, hFE, hB⟩ := hrel
   have HRUN : Hid _ := hrun
   have HOI : Hid (OI kt w.heap.size k s wr) := hOI
   have HFE : Hid (FirstE kt rt L i ff wr) := hFE
   have HB : Hid _ := hB
   clear hrun hOI hFE hB
   by_cases hlt : i < n
   ·have hlt' : (i : Int) < (n : Int) := by omega
    have cb : wr.cell? ⟨b, i, none⟩ = some (.string (L i)) := (HB.out.cell (p := ⟨b, i, none⟩) hb).trans (HC.out i hlt)
    have HSR : Hid _ := sread kt (L i) rt wr (HG.out.below HB.out) (HL.out i hlt)
    obtain ⟨t, ht⟩ : ∃ t, L i = t := ⟨_, rfl⟩
    rw [ht] at cb HSR
    go_wp2_with fail
    refine Calls.mono HSR.out ?_
    rintro e w1 ⟨hB1, h1, h2⟩
    have HB1 : Hid _ := hB1
    clear hB1 cb HSR
    cases hE : sdE kt rt t with
    | some kp =>
     obtain ⟨a, p⟩ := kp
     obtain ⟨z, rfl, hz⟩ := h1 a p hE
     have HZ : Hid (w1.heap[z]? = some (.cells #[.int .i64 (a : Nat), .int .i64 (p : Nat), .nilIface] 307 (0, 0))) := hz
     clear h1 h2 hz
     have hul : s.un.length ≤ i := by have h1 := run_un _ _ _ _ HRUN.out; rw [texL_len] at h1; have h2 : OS.new.un.length = 0 := rfl; omega
     obtain ⟨un, hun, hc⟩ := HOI.out.below HB1.out
     obtain ⟨vh, rd', bl', fi', hkr⟩ : ∃ vh rd' bl' fi', w1.heap[k]? = some (.cells (stC vh un rd' bl' fi') 224 (0, 0)) := by
      rcases hc with ⟨_, h⟩ | ⟨t0, g, p, q, f, _, _, _, _, _, hS⟩
      ·exact ⟨_, _, _, _, h⟩
      ·exact ⟨_, _, _, _, hS.row⟩
     obtain ⟨au, cu, rfl⟩ := own_shape hun
     have c1 : w1.cell? ⟨k, 1, none⟩ = some (.slice au s.un.length cu) := cell_of_row _ _ _ _ 224 _ hkr
     have HKR : Hid _ := hkr
     have HU : Hid (w1.ownsRow w.heap.size 3 1 (.slice au s.un.length cu) s.un.length (unV s.un)) := hun
     have HCC : Hid _ := hc
     clear hkr hun hc
     obtain ⟨i0, hi0, z0, z1, z2⟩ : ∃ i0, Tryz.prog.info? 3 = some i0 ∧ i0.zero = some (.int .i64 0) ∧ i0.size = 1 ∧ i0.bytes = 8 := by
      have h := info3
      cases hi : Tryz.prog.info? 3 with
      | none => rw [hi] at h; cases h
      | some i => rw [hi] at h; simp at h; exact ⟨i, rfl, h.1, h.2.1, h.2.2⟩
     have HBL1 : Hid (Below w.heap.size w w1) := HB.out.trans (HB1.out.mono HB.out.size)
     have hwl : w.heap.size ≤ w1.heap.size := HBL1.out.size
     have HOLD : Hid (∀ w2 : World, (w1.alloc (.cells #[.int .i64 i] 3)).grownBy w2 (Value.slice au s.un.length cu).ownBlock → ∀ j, j < w1.heap.size → (Value.slice au s.un.length cu).ownBlock ≠ some j → w2.heap[j]? = w1.heap[j]?) := fun w2 hG j hj hne => by rw [hG.block j (by simp; omega) (fun e => hne e.symm), heap_alloc_old _ _ hj]
     have HKU : Hid (k < w1.heap.size ∧ (Value.slice au s.un.length cu).ownBlock ≠ some k) := ⟨(Array.getElem?_eq_some_iff.1 HKR.out).1, fun e => by
      obtain ⟨cur, hcur⟩ := own_type HU.out k e
      exact row_ne HKR.out hcur (by decide) rfl⟩
     have HSTEP : Hid (s.step kt rt i t = .ok { s with un := s.un ++ [i] }) := by
      show _ = _
      unfold OS.step
      rw [hE]
      rfl
     have HR2 : Hid (OS.run kt rt 0 (texL L (i + 1)) OS.new = .ok { s with un := s.un ++ [i] }) := by
      show _ = _
      rw [texL_succ, run_snoc kt rt (L i) _ 0 _ _ HRUN.out, texL_len, Nat.zero_add, ht]
      exact HSTEP.out
     have HK2 : Hid (∀ w2 : World, (w1.alloc (.cells #[.int .i64 i] 3)).grownBy w2 (Value.slice au s.un.length cu).ownBlock → w2.heap[k]? = some (.cells (stC vh (.slice au s.un.length cu) rd' bl' fi') 224 (0, 0))) := fun w2 hG => (HOLD.out w2 hG k HKU.out.1 HKU.out.2).trans HKR.out
     by_cases h00 : i = 0
     ·have hi00 : ((i : Int) == 0) = true := by simp; omega
      have H00 : Hid (i = 0) := h00
      clear h00
      go_wp2_with (at_builtin; refine wpList_append_own _ rfl (.tmp 46) (.tmp 48) 39 rfl w.heap.size 3 i0 (.int .i64 0) 1 8 Tryz.underlying39 hi0 z0 z1 z2 rfl (by decide) (.slice au s.un.length cu) s.un.length (unV s.un) (by simp [Act.eval]) (HU.out.alloc _) ⟨w1.heap.size, 0, none⟩ 1 1 [.int .i64 i] (by simp [Act.eval]) rfl (cell_one_new _ _ _) (by intro u hu; simp at hu; subst hu; rfl) (by unfold maxLen; omega) (by omega) (by simp; omega) ?_; intro v2 w2 hO2 hG2 _; obtain ⟨a2, k2, hv2⟩ := own_shape hO2; subst hv2; have hk2 := HK2.out w2 hG2; have m1 : w2.cell? ⟨k, 1, none⟩ = some (.slice au s.un.length cu) := (cell_of_row _ _ _ _ 224 _ hk2); have m2 := frozen_of_row w2 k 1 _ 224 hk2; have HO2 : Hid _ := hO2; have HG2 : Hid _ := hG2; clear hO2 hG2 hk2)
      have hOI2 : OI kt w.heap.size k { s with un := s.un ++ [i] } (w2.setCell ⟨k, 1, none⟩ (.slice a2 (s.un.length + 1) k2)) := OI.more HU.out HCC.out HO2.out (HOLD.out w2 HG2.out)
      have hkw : w.heap.size ≤ k := Nat.le_of_eq hk
      have hB2 : Below w.heap.size w (w2.setCell ⟨k, 1, none⟩ (.slice a2 (s.un.length + 1) k2)) := Fr.toBelow ((((Fr.below HBL1.out).alloc (.cells #[.int .i64 i] 3)).grown HG2.out (fun q hq => .inr (own_ge HU.out q hq))).set (g := k) (.inr hkw) _ _)
      have hke : (w2.setCell ⟨k, 1, none⟩ (.slice a2 (s.un.length + 1) k2)).heap[z]? = some (.cells #[.int .i64 (a : Nat), .int .i64 (p : Nat), .nilIface] 307 (0, 0)) := by
       rw [set_other _ _ _ _ _ (row_ne HZ.out HKR.out (by decide)), HOLD.out w2 HG2.out z (Array.getElem?_eq_some_iff.1 HZ.out).1 (fun e => by
        obtain ⟨cur, hcur⟩ := own_type HU.out z e
        exact row_ne HZ.out hcur (by decide) rfl)]
       exact HZ.out
      refine ⟨⟨i + 1, { s with un := s.un ++ [i] }, _, by omega, rfl, by go_num, HR2.out, hOI2, ⟨fun _ k' p' h' => ?_, fun hc' => ?_⟩, hB2⟩, ?_⟩
      ·have e0 : L 0 = t := by rw [← H00.out]; exact ht
       rw [e0, hE] at h'
       cases h'
       exact ⟨z, rfl, hke⟩
      ·rcases hc' with e | e
       ·exact absurd e (by omega)
       ·rw [show L 0 = t by rw [← H00.out]; exact ht, hE] at e
        cases e
      ·simp [intOf]; omega
     ·have hi00 : ((i : Int) == 0) = false := by simp; omega
      have H00 : Hid (0 < i) := Nat.pos_of_ne_zero h00
      clear h00
      go_wp2_with (at_builtin; refine wpList_append_own _ rfl (.tmp 46) (.tmp 48) 39 rfl w.heap.size 3 i0 (.int .i64 0) 1 8 Tryz.underlying39 hi0 z0 z1 z2 rfl (by decide) (.slice au s.un.length cu) s.un.length (unV s.un) (by simp [Act.eval]) (HU.out.alloc _) ⟨w1.heap.size, 0, none⟩ 1 1 [.int .i64 i] (by simp [Act.eval]) rfl (cell_one_new _ _ _) (by intro u hu; simp at hu; subst hu; rfl) (by unfold maxLen; omega) (by omega) (by simp; omega) ?_; intro v2 w2 hO2 hG2 _; obtain ⟨a2, k2, hv2⟩ := own_shape hO2; subst hv2; have hk2 := HK2.out w2 hG2; have m1 : w2.cell? ⟨k, 1, none⟩ = some (.slice au s.un.length cu) := (cell_of_row _ _ _ _ 224 _ hk2); have m2 := frozen_of_row w2 k 1 _ 224 hk2; have HO2 : Hid _ := hO2; have HG2 : Hid _ := hG2; clear hO2 hG2 hk2)
      have hOI2 : OI kt w.heap.size k { s with un := s.un ++ [i] } (w2.setCell ⟨k, 1, none⟩ (.slice a2 (s.un.length + 1) k2)) := OI.more HU.out HCC.out HO2.out (HOLD.out w2 HG2.out)
      have hkw : w.heap.size ≤ k := Nat.le_of_eq hk
      have hB2 : Below w.heap.size w (w2.setCell ⟨k, 1, none⟩ (.slice a2 (s.un.length + 1) k2)) := Fr.toBelow ((((Fr.below HBL1.out).alloc (.cells #[.int .i64 i] 3)).grown HG2.out (fun q hq => .inr (own_ge HU.out q hq))).set (g := k) (.inr hkw) _ _)
      have hke : Keep wr (w2.setCell ⟨k, 1, none⟩ (.slice a2 (s.un.length + 1) k2)) := fun z' cs hz' => by
       have hz1 := Keep.below HB1.out z' cs hz'
       rw [set_other _ _ _ _ _ (row_ne hz1 HKR.out (by decide)), HOLD.out w2 HG2.out z' (Array.getElem?_eq_some_iff.1 hz1).1 (fun e => by
        obtain ⟨cur, hcur⟩ := own_type HU.out z' e
        exact row_ne hz1 hcur (by decide) rfl)]
       exact hz1
      refine ⟨⟨i + 1, { s with un := s.un ++ [i] }, _, by omega, rfl, by go_num, HR2.out, hOI2, HFE.out.bad H00.out hke, hB2⟩, ?_⟩
      simp [intOf]; omega
    | none =>
     obtain ⟨hrd, g2, rfl, hV⟩ := h2 hE
     have HAD : Hid _ := sadd_os kt rt t w.heap.size wr.heap.size k g2 i s w1 (HOI.out.below HB1.out) (Nat.le_of_eq hk) (HB.out.trans (HB1.out.mono HB.out.size)).size hE hrd hV HB.out.size
     clear h1 h2 hV
     go_wp2_with fail
     refine Calls.mono HAD.out ?_
     rintro e w2 ⟨q1, q2, q3, q4⟩
     have HBL : Hid (Below w.heap.size w w2) := (HB.out.trans (HB1.out.mono HB.out.size)).trans q3
     have hke : Keep wr w2 := fun z cs hz => q4 z cs (Keep.below HB1.out z cs hz)
     have HF2 : Hid (FirstE kt rt L (i + 1) ff w2) := HFE.out.good (by rw [ht]; exact hE) hke
     clear q3 q4 hke
     cases hst : s.step kt rt i t with
     | ok s' =>
      obtain ⟨rfl, hOI'⟩ := q1 s' hst
      have HO2 : Hid (OI kt w.heap.size k s' w2) := hOI'
      have HR2 : Hid (OS.run kt rt 0 (texL L (i + 1)) OS.new = .ok s') := by
       show _ = _
       rw [texL_succ, run_snoc kt rt (L i) _ 0 _ _ HRUN.out, texL_len, Nat.zero_add, ht]
       exact hst
      clear q1 q2 hOI'
      go_wp2_with fail
      go_roundw
      case rel => exact ⟨i + 1, s', ff, by omega, rfl, by go_num, HR2.out, HO2.out, HF2.out, HBL.out⟩
      case measure => simp [intOf]; omega
     | error ab =>
      obtain ⟨a, b'⟩ := ab
      obtain ⟨z, rfl, hz⟩ := q2 a b' hst
      have HZ : Hid _ := hz
      clear q1 q2 hz
      go_wp2_with fail
      go_ret2
      exact ⟨OpD.err HRUN.out (by rw [ht]; exact hst) hlt ⟨z, rfl, HZ.out⟩, HBL.out⟩
   ·have e : i = n := by omega
    subst e
    obtain ⟨un, hun, hc⟩ := HOI.out
    clear hun
    rcases hc with ⟨hd, hkr⟩ | ⟨t0, g, p, q, f, hd, hr, hp, hq, hfB, hS⟩
    ·have c0 : wr.cell? ⟨k, 0, none⟩ = some (.pointer none) := cell_of_row _ _ _ _ 224 _ hkr
     clear hkr
     by_cases hn0 : 0 < i
     ·cases hE : sdE kt rt (L 0) with
      | none => exact absurd hE (first_bad HRUN.out hn0 hd)
      | some kp =>
       obtain ⟨a, p⟩ := kp
       obtain ⟨z, rfl, hz⟩ := HFE.out.1 hn0 a p hE
       have HN : Hid _ := none_some i z a p wr hn0 hz
       clear hz
       go_wp2_with fail
       refine Calls.mono HN.out ?_
       rintro e w2 ⟨⟨x, y, z', rfl, hx⟩, hB2⟩
       have HX : Hid _ := hx
       have HB2 : Hid _ := hB2
       clear hx hB2
       go_wp2_with fail
       go_ret2
       refine ⟨?_, HB.out.trans (HB2.out.mono HB.out.size)⟩
       unfold OpD
       rw [HRUN.out]
       refine .inl ⟨hd, _, rfl, fun h => absurd h (by omega), fun _ k' p' h' => ?_⟩
       rw [hE] at h'
       cases h'
       exact ⟨x, y, z', rfl, HX.out⟩
     ·have e0 : i = 0 := by omega
      subst e0
      have HN : Hid _ := none_zero ff wr
      go_wp2_with fail
      refine Calls.mono HN.out ?_
      rintro e w2 ⟨⟨z, rfl, hz⟩, hB2⟩
      have HZ : Hid _ := hz
      have HB2 : Hid _ := hB2
      clear hz hB2
      go_wp2_with fail
      go_ret2
      refine ⟨?_, HB.out.trans (HB2.out.mono HB.out.size)⟩
      unfold OpD
      rw [HRUN.out]
      exact .inl ⟨hd, _, rfl, fun _ => ⟨z, rfl, HZ.out⟩, fun h => absurd h (by omega)⟩
    ·have c0 : wr.cell? ⟨k, 0, none⟩ = some (.pointer (some ⟨g, 0, none⟩)) := cell_of_row _ _ _ _ 224 _ hS.row
     clear hS
     go_wp2_with fail
     go_ret2
     refine ⟨?_, HB.out⟩
     unfold OpD
     rw [HRUN.out]
     exact .inr ⟨by rw [hd]; simp, k, rfl, HOI.out⟩
end Go.Proofs.YtadinjaocnlglaaGreatDoor
