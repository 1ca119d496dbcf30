/-
  The walk of Matrix.Times.
  The walk of stripe.values.
  The walks of stripe.CheckParams and parity, where nothing is refused.
  The walk of strings.Clone.
  The walks of pick, sameTexts.
  The walk of varint.Of; plain: the bytes of a varint.
-/
import Derived.Test.YtadinjaocnlglaaGreatDoorZ03
import Derived.WalkKit
import Derived.WalkSpells
import Derived.WalkLawsBesides
import Derived.BigRegion
import Derived.BigQuiet
import Derived.Deep.QuietTactic
import Derived.Deep.RegionWith
import Derived.Deep.RegionHeld3
import Derived.Lib.UnsafeStr
import Derived.Lib.BufferWrite
import Derived.Lib.Strings
import Derived.Test.YtadinjaocnlglaaGreatDoorProg
namespace Go.Proofs.YtadinjaocnlglaaGreatDoor
open Go.RowKit
theorem MatP.mat {w : World} {B g m n : Nat} {V : Nat → Nat → Nat} {G : Nat → Nat} (h : MatP w B g m m n V G) : Mat w g m n V G :=
  ⟨fun i hi => by rw [h.top.cell i hi]; simp [part', hi], h.top.lt, fun i hi => ⟨(h.rows i hi).2.2.cl, (h.rows i hi).2.2.lt⟩⟩
/-- one row more -/
theorem MatP.step {w w2 : World} {B g m k n : Nat} {V : Nat → Nat → Nat} {G : Nat → Nat} (h : MatP w B g m k n V G) (hb : Below w.heap.size w w2) (o : Nat) (ho : w.heap.size ≤ o) (hB : B ≤ w.heap.size) (hr : Rw w2 o n 393 (nb (V k))) :
    MatP (w2.setCell ⟨g, k, none⟩ (.slice (some ⟨o, 0, none⟩) n n)) B g m (k + 1) n V (fun i => if i = k then o else G i) := by
  have hgl := h.top.lt
  refine ⟨?_, fun i hi => ?_⟩
  · refine ((h.top.below hb hgl).put k _).to (fun j _ => ?_)
    rw [← part_step]
    simp only [updV, part']
    by_cases e : j = k
    · simp [e]
    · by_cases e2 : j < k
      · simp [e, e2]
      · simp [e, e2]
  · by_cases e : i = k
    · subst e
      simp only [if_true]
      exact ⟨by omega, by omega, hr.other _ _ (by simp; omega)⟩
    · have hl : i < k := by omega
      simp only [if_neg e]
      exact ⟨(h.rows i hl).1, (h.rows i hl).2.1, ((h.rows i hl).2.2.below hb (h.rows i hl).2.2.lt).other _ _ (by simpa using (h.rows i hl).2.1)⟩
set_option maxHeartbeats 1000000 in
theorem mtimes_any (U V : Nat → Nat → Nat) (G1 G2 : Nat → Nat) (b1 m r b2 c : Nat) (w : World) (hm : m ≤ 1000) (hr0 : 0 < r) (hr : r ≤ 1000) (hcc : c ≤ 140737488351232) (hU : ∀ i j, U i j < 256) (hV : ∀ i j, V i j < 256) (h1 : Mat w b1 m r U G1) (h2 : Mat w b2 r c V G2) :
    Calls Tryz.prog 273 #[.slice (some ⟨b1, 0, none⟩) m m, .slice (some ⟨b2, 0, none⟩) r r] w fun e w' => ∃ G, e = .returned (.slice (some ⟨w.heap.size, 0, none⟩) m m) ∧ MatP w' w.heap.size w.heap.size m m c (fun i j => sm (U i) V j r) G ∧ Below w.heap.size w w' := by
  have H1 : Hid _ := h1
  have H2 : Hid _ := h2
  have HU : Hid _ := hU
  have HV : Hid _ := hV
  clear h1 h2 hU hV
  have hmk := run_make_row' (P := Tryz.prog) 389 390 (.slice none 0 0) 24 Tryz.underlying389 info53 rfl .i64 .i64 m (by omega) (by omega)
  go_enter Tryz.func273, Tryz.ntmps273
  go_wp2
  go_loopw [13] (fun iv wr => ∃ i G, i ≤ m ∧ iv = .int .i64 (i : Nat) ∧ MatP wr w.heap.size w.heap.size m i c (fun i j => sm (U i) V j r) G ∧ Below w.heap.size w wr) (fun iv _ => m - (intOf iv).toNat)
  case atStart => exact ⟨0, fun _ => 0, by omega, rfl, ⟨(Rw.made w m 390 (.slice none 0 0)).to (fun j _ => (part_0 _ _ j).symm), fun i hi => by omega⟩, (Below.refl _ _).alloc (Nat.le_refl _) _⟩
  case round =>
    obtain ⟨i, G, hi, rfl, hM, hb⟩ := hrel
    by_cases hlt : i < m
    · have hA := Mat.below H1.out hb
      have hBm := Mat.below H2.out hb
      have c1 := hA.top i hlt
      have hrow := hA.rows i hlt
      have HRow : Hid _ := hrow
      have HBm : Hid _ := hBm
      clear hA hBm hrow
      go_wp2_with fail
      refine (weighted_any (U i) V G2 b2 r c (G1 i) r wr hr0 hr hcc (HU.out i) HV.out HBm.out HRow.out.2 HRow.out.1).mono ?_
      rintro e w2 ⟨rfl, hR2, hB2⟩
      have hM2 := hM.step hB2 wr.heap.size (Nat.le_refl _) hb.size hR2
      have c2 := (hM.top.below hB2 hM.top.lt).cell i hlt
      have c3 := (hM.top.below hB2 hM.top.lt).free i
      have hbb := (hb.trans (hB2.mono hb.size)).setCell (p := ⟨w.heap.size, i, none⟩) (Nat.le_refl _) (.slice (some ⟨wr.heap.size, 0, none⟩) c c)
      have HM2 : Hid _ := hM2
      clear hM2 hR2
      go_wp2
      go_roundw
      case rel => exact ⟨i + 1, _, by omega, by go_num, HM2.out, hbb⟩
      case measure => simp [intOf]; omega
    · have e : i = m := by omega
      subst e
      go_wp2
      go_ret
      exact ⟨G, rfl, hM, hb⟩
end Go.Proofs.YtadinjaocnlglaaGreatDoor
namespace Go.Proofs.YtadinjaocnlglaaGreatDoor
open Go.RowKit
set_option maxRecDepth 100000
/-- a list of points that may be nil -/
def Pts (w : World) (v : Value) (n : Nat) (q : Nat → Nat) : Prop := (v = .slice none 0 0 ∧ n = 0) ∨ ∃ b cap, v = .slice (some ⟨b, 0, none⟩) n cap ∧ b < w.heap.size ∧ Cl w b n (pI q)
theorem Pts.below {w w' : World} {v : Value} {n : Nat} {q : Nat → Nat} (h : Pts w v n q) (hb : Below w.heap.size w w') : Pts w' v n q := by
  rcases h with h | ⟨b, cap, h1, h2, h3⟩
  · exact .inl h
  · exact .inr ⟨b, cap, h1, Nat.lt_of_lt_of_le h2 hb.size, h3.below hb h2⟩
theorem numbers_at (p : Nat → Nat) (n : Nat) (v : Value) (w : World) (hn : n ≤ 1000) (hp : ∀ i, i < n → p i < 256) (h : Pts w v n p) :
    Calls Tryz.prog 272 #[v] w fun e w' => e = .returned (.slice (some ⟨w.heap.size, 0, none⟩) n n) ∧ Rw w' w.heap.size n 393 (nb p) ∧ Below w.heap.size w w' := by
  rcases h with ⟨rfl, rfl⟩ | ⟨b, cap, rfl, hb, hc⟩
  · exact (numbers_nil w).mono fun e w' h => ⟨h.1, h.2.1.to (fun j hj => by omega), h.2.2⟩
  · exact numbers_any p b n cap w hn hp hb hc
/-- the texts of a list -/
def tI (S : Nat → ByteArray) : Nat → Value := fun i => .string (S i)
/-- the i-th text that comes of the texts S at the points p, at the points q -/
def vl (p q : Nat → Nat) (r c : Nat) (S : Nat → ByteArray) (i : Nat) : ByteArray := txtN c (fun j => sm (wt p r (q i)) (fun k j => bN (S k) j) j r)
set_option maxHeartbeats 1000000 in
theorem values_any (p q : Nat → Nat) (S : Nat → ByteArray) (r m c b cap : Nat) (vf vt : Value) (w : World) (hr0 : 0 < r) (hr : r ≤ 1000) (hm : m ≤ 1000) (hc : c ≤ 140737488351232) (hS : ∀ i, i < r → (S i).size = c) (hp : ∀ i, i < r → p i < 256) (hq : ∀ i, i < m → q i < 256)
    (hb : b < w.heap.size) (hC : Cl w b r (tI S)) (hf : Pts w vf r p) (ht : Pts w vt m q) :
    Calls Tryz.prog 231 #[.slice (some ⟨b, 0, none⟩) r cap, vf, vt] w fun e w' => ∃ g, e = .returned (.slice (some ⟨g, 0, none⟩) m m) ∧ w.heap.size ≤ g ∧ Rw w' g m 9 (tI (vl p q r c S)) ∧ Below w.heap.size w w' := by
  have HS : Hid _ := hS
  have HP : Hid _ := hp
  have HQ : Hid _ := hq
  have HC : Hid _ := hC
  have HF : Hid _ := hf
  have HT : Hid _ := ht
  clear hS hp hq hC hf ht
  have hmk := run_make_row' (P := Tryz.prog) 389 390 (.slice none 0 0) 24 Tryz.underlying389 info53 rfl .i64 .i64 r (by omega) (by omega)
  have hmk2 := run_make_row' (P := Tryz.prog) 42 9 (.string ⟨#[]⟩) 16 Tryz.underlying42 info9 rfl .i64 .i64 m (by omega) (by omega)
  go_enter Tryz.func231, Tryz.ntmps231
  go_wp2
  go_loopw [19] (fun iv wr => ∃ i G, i ≤ r ∧ iv = .int .i64 (i : Nat) ∧ MatP wr w.heap.size w.heap.size r i c (fun k j => bN (S k) j) G ∧ Below w.heap.size w wr) (fun iv _ => r - (intOf iv).toNat)
  case atStart => exact ⟨0, fun _ => 0, by omega, rfl, ⟨(Rw.made w r 390 (.slice none 0 0)).to (fun j _ => (part_0 _ _ j).symm), fun i hi => by omega⟩, (Below.refl _ _).alloc (Nat.le_refl _) _⟩
  case round =>
    obtain ⟨i, G, hi, rfl, hM, hbl⟩ := hrel
    by_cases hlt : i < r
    · have c1 : wr.cell? ⟨b, i, none⟩ = some (.string (S i)) := Cl.below HC.out hbl hb i hlt
      have hSi := HS.out i hlt
      have hSl : (S i).size ≤ 140737488351232 := by omega
      have HSi : Hid _ := hSi
      clear hSi
      go_wp2_with fail
      refine (row_any (S i) wr hSl).mono ?_
      rintro e w2 ⟨rfl, hR2, hB2⟩
      rw [HSi.out] at hR2 ⊢
      have hM2 := hM.step hB2 wr.heap.size (Nat.le_refl _) hbl.size hR2
      have c2 := (hM.top.below hB2 hM.top.lt).cell i hlt
      have c3 := (hM.top.below hB2 hM.top.lt).free i
      have hbb := (hbl.trans (hB2.mono hbl.size)).setCell (p := ⟨w.heap.size, i, none⟩) (Nat.le_refl _) (.slice (some ⟨wr.heap.size, 0, none⟩) c c)
      have HM2 : Hid _ := hM2
      clear hM2 hR2
      go_wp2
      go_roundw
      case rel => exact ⟨i + 1, _, by omega, by go_num, HM2.out, hbb⟩
      case measure => simp [intOf]; omega
    · have e : i = r := by omega
      subst e
      have hMat := hM.mat
      have HMat : Hid _ := hMat
      clear hMat
      have hF1 := Pts.below HF.out hbl
      go_wp2_with fail
      refine (numbers_at p i vf wr (by omega) HP.out hF1).mono ?_
      rintro e w2 ⟨rfl, hN2, hB2⟩
      have hT2 := (Pts.below HT.out hbl).below hB2
      go_wp2_with fail
      refine (numbers_at q m vt w2 hm HQ.out hT2).mono ?_
      rintro e w3 ⟨rfl, hN3, hB3⟩
      have hN2' := hN2.below hB3 hN2.lt
      go_wp2_with fail
      refine (interp_any p q wr.heap.size i i w2.heap.size m m w3 (by omega) hm HP.out HQ.out hN2'.lt hN3.lt hN2'.cl hN3.cl).mono ?_
      rintro e w4 ⟨g4, G4, rfl, hg4, hM4, hB4⟩
      have hMV := ((HMat.out.below hB2).below hB3).below hB4
      go_wp2_with fail
      refine (mtimes_any (fun k => wt p i (q k)) (fun k j => bN (S k) j) G4 G g4 m i w.heap.size c w4 hm hr0 (by omega) hc (fun k j => wt_lt p i (q k) j) (fun k j => bN_lt (S k) j) hM4.mat hMV).mono ?_
      rintro e w5 ⟨G5, rfl, hM5, hB5⟩
      have hb5 : Below w.heap.size w w5 := (((hbl.trans (hB2.mono hbl.size)).trans (hB3.mono (Nat.le_trans hbl.size hB2.size))).trans (hB4.mono (Nat.le_trans hbl.size (Nat.le_trans hB2.size hB3.size)))).trans (hB5.mono (Nat.le_trans hbl.size (Nat.le_trans hB2.size (Nat.le_trans hB3.size hB4.size))))
      obtain ⟨g, hg⟩ : ∃ g, g = w4.heap.size := ⟨_, rfl⟩
      rw [← hg] at hM5 ⊢
      have hM5m := hM5.mat
      have HM5 : Hid _ := hM5m
      clear hM5m hg hN2 hB2 hN3 hB3 hN2' hM4 hB4 hMV hB5 hM5 hT2 hF1 hM HMat hbl
      go_wp2
      go_loopw [42] (fun kv wr => ∃ k : Nat, k ≤ m ∧ kv = .int .i64 k ∧ Below w5.heap.size w5 wr ∧ Rw wr w5.heap.size m 9 (part' k (tI (vl p q i c S)) (.string ⟨#[]⟩))) (fun kv _ => m - (intOf kv).toNat)
      case atStart => exact ⟨0, by omega, rfl, (Below.refl _ _).alloc (Nat.le_refl _) _, (Rw.made w5 m 9 (.string ⟨#[]⟩)).to (fun j _ => (part_0 _ _ j).symm)⟩
      case round =>
        obtain ⟨k, hk, rfl, hbk, hRk⟩ := hrel
        by_cases hlk : k < m
        · have hMk := HM5.out.below hbk
          have c1 := hMk.top k hlk
          have hrow := hMk.rows k hlk
          have HRow : Hid _ := hrow
          clear hMk hrow
          go_wp2_with fail
          refine (text_any _ (G5 k) c c wr hc HRow.out.2 HRow.out.1).mono ?_
          rintro e w6 ⟨rfl, hB6⟩
          have hR6 := hRk.below hB6 hRk.lt
          have c2 := hR6.cell k hlk
          have c3 := hR6.free k
          have hbb := (hbk.trans (hB6.mono hbk.size)).setCell (p := ⟨w5.heap.size, k, none⟩) (Nat.le_refl _) (.string (vl p q i c S k))
          have hRR := (hR6.put k (.string (vl p q i c S k))).to (fun j _ => part_step k (tI (vl p q i c S)) (.string ⟨#[]⟩) j)
          have HRR : Hid _ := hRR
          clear hRR
          go_wp2
          go_roundw
          case rel => exact ⟨k + 1, by omega, by go_num, hbb, HRR.out⟩
          case measure => simp [intOf]; omega
        · have e : k = m := by omega
          subst e
          go_wp2
          go_ret
          exact ⟨w5.heap.size, rfl, hb5.size, hRk.to (fun j hj => by simp [part', hj]), hb5.trans (hbk.mono hb5.size)⟩
end Go.Proofs.YtadinjaocnlglaaGreatDoor
namespace Go.Proofs.YtadinjaocnlglaaGreatDoor
open Go.RowKit
set_option maxRecDepth 100000
set_option maxHeartbeats 400000 in
theorem checkParams_ok (k m : Nat) (w : World) (hk1 : 1 ≤ k) (hkm : k + m ≤ 255) :
    Calls Tryz.prog 190 #[.int .i64 k, .int .i64 m] w fun e w' => e = .returned .nilIface ∧ w' = w := by
  have h1 : (1 : Int) ≤ (k : Int) := by omega
  have h2 : (k : Int) ≤ 255 := by omega
  have h3 : (0 : Int) ≤ (m : Int) := by omega
  have h4 : (m : Int) ≤ 255 - (k : Int) := by omega
  go_enter Tryz.func190, Tryz.ntmps190
  go_wp2
  go_ret
  exact ⟨rfl, rfl⟩
set_option maxHeartbeats 1000000 in
theorem inner_ok (S : Nat → ByteArray) (k m c b cap : Nat) (w : World) (hk1 : 1 ≤ k) (hkm : k + m ≤ 255) (hc : c ≤ 140737488351232) (hS : ∀ i, i < k → (S i).size = c) (hb : b < w.heap.size) (hC : Cl w b k (tI S)) :
    Calls Tryz.prog 191 #[.int .i64 k, .int .i64 m, .slice (some ⟨b, 0, none⟩) k cap] w fun e w' => ∃ g, e = .returned (.slice (some ⟨g, 0, none⟩) m m) ∧ w.heap.size ≤ g ∧ Rw w' g m 9 (tI (vl (fun i => i) (fun i => k + i) k c S)) ∧ Below w.heap.size w w' := by
  have HS : Hid _ := hS
  have HC : Hid _ := hC
  clear hS hC
  have hk255 : k ≤ 255 := by omega
  go_enter Tryz.func191, Tryz.ntmps191
  go_wp2_with fail
  refine (points_any 0 k w (by omega) (by omega)).mono ?_
  rintro e w2 ⟨rfl, hP2, hB2⟩
  rw [Nat.sub_zero] at hP2 ⊢
  go_wp2_with fail
  have hkm2 : ((k : Int) + (m : Int)) = ((k + m : Nat) : Int) := by omega
  rw [hkm2]
  clear hkm2
  refine (points_any k (k + m) w2 (by omega) (by omega)).mono ?_
  rintro e w3 ⟨rfl, hP3, hB3⟩
  rw [Nat.add_sub_cancel_left] at hP3 ⊢
  have hf : Pts w3 (.slice (some ⟨w.heap.size, 0, none⟩) k k) k (fun j => j) := .inr ⟨_, _, rfl, Nat.lt_of_lt_of_le hP2.lt hB3.size, fun j hj => by rw [(hP2.below hB3 hP2.lt).cell j hj]; simp [from', pI]⟩
  have ht : Pts w3 (.slice (some ⟨w2.heap.size, 0, none⟩) m m) m (fun j => k + j) := .inr ⟨_, _, rfl, hP3.lt, fun j hj => by rw [hP3.cell j hj]; rfl⟩
  have hC3 : Cl w3 b k (tI S) := (Cl.below HC.out hB2 hb).below hB3 (Nat.lt_of_lt_of_le hb hB2.size)
  have HP2 : Hid _ := hf
  have HP3 : Hid _ := ht
  have HC3 : Hid _ := hC3
  clear hf ht hC3
  go_wp2_with fail
  refine (values_any (fun j => j) (fun j => k + j) S k m c b cap _ _ w3 (by omega) (by omega) (by omega) hc HS.out (fun j hj => by omega) (fun j hj => by omega) (Nat.lt_of_lt_of_le hb (Nat.le_trans hB2.size hB3.size)) HC3.out HP2.out HP3.out).mono ?_
  rintro e w4 ⟨g, rfl, hg, hR4, hB4⟩
  go_wp2
  go_ret
  exact ⟨g, rfl, Nat.le_trans hB2.size (Nat.le_trans hB3.size hg), hR4, (hB2.trans (hB3.mono hB2.size)).trans (hB4.mono (Nat.le_trans hB2.size hB3.size))⟩
end Go.Proofs.YtadinjaocnlglaaGreatDoor
namespace Go.Proofs.YtadinjaocnlglaaGreatDoor
open Go.RowKit
set_option maxRecDepth 100000
theorem cells5 : Tryz.prog.cellsOf 5 = 1 := by kernel_rfl
theorem size5 : (Tryz.prog.info? 5).map (·.size) = some 1 := by kernel_rfl
set_option maxHeartbeats 1000000 in
set_option maxRecDepth 100000 in
theorem clone_any (s : ByteArray) (w : World) (hs : s.size ≤ 140737488351232) :
    Calls Tryz.prog 196 #[.string s] w fun e w' => e = .returned (.string s) ∧ Below w.heap.size w w' := by
  by_cases h0 : s.size = 0
  · obtain rfl : s = ⟨#[]⟩ := ByteArray.ext (Array.eq_empty_of_size_eq_zero h0)
    go_enter Tryz.func196, Tryz.ntmps196
    go_wp2
    go_ret
    exact ⟨rfl, Below.refl _ _⟩
  · have hmk := run_make_row' (P := Tryz.prog) 165 5 (.int .u8 0) 1 Tryz.underlying165 info5 rfl .i64 .i64 s.size (by omega) (by omega)
    obtain ⟨M, hM⟩ : ∃ M, M = madeCells #[Value.int .u8 0] s.size := ⟨_, rfl⟩
    have hMs : M.size = s.size := by rw [hM, size_madeCells]
    rw [← hM] at hmk
    clear hM
    have hcp := Lib.run_copy_row_string (P := Tryz.prog) (w.alloc (.cells M 5)) 165 9 3 5 w.heap.size 0 s.size s.size s M 5 Tryz.underlying165 size5 (heap_alloc_new w _) (Nat.le_refl _) (by omega)
    obtain ⟨Y, hY⟩ : ∃ Y, Y = (M.toList.take 0 ++ Lib.byteCells s.data.toList ++ M.toList.drop (0 + s.size)).toArray := ⟨_, rfl⟩
    rw [← hY] at hcp
    have hYl : Y.toList = Lib.byteCells s.data.toList := by
      rw [hY, List.toList_toArray, List.take_zero, List.nil_append, List.drop_of_length_le (by rw [Array.length_toList]; omega), List.append_nil]
    have hYs : Y.size = s.size := by rw [← Array.length_toList, hYl, Lib.byteCells_length]; simp
    have hgY : ((w.alloc (.cells M 5)).setRow w.heap.size Y).heap[w.heap.size]? = some (.cells Y 5 (0, 0)) := setRow_heap _ _ M _ 5 (0, 0) (heap_alloc_new w _)
    have hsl : s.data.toList.length = s.size := by simp
    have hus := Lib.run_unsafeString_row (P := Tryz.prog) ((w.alloc (.cells M 5)).setRow w.heap.size Y) 352 3 9 5 Tryz.underlying352 cells5 w.heap.size Y.size (by unfold World.shape?; rw [hgY]) s.data.toList (fun e => h0 (by rw [← hsl, e]; rfl)) (by omega) (by omega)
      (fun j x hx => by
        have hadd : (⟨w.heap.size, 0, none⟩ : Addr).add j = ⟨w.heap.size, j, none⟩ := by unfold Addr.add; split <;> simp_all
        rw [hadd, cell_of_row _ _ _ _ 5 (0, 0) hgY, ← Array.getElem?_toList, hYl]
        simp [Lib.byteCells, hx])
    rw [hsl] at hus
    clear hY hYl hYs hsl
    have hB : Below w.heap.size w ((w.alloc (.cells M 5)).setRow w.heap.size Y) := ((Below.refl _ w).alloc (Nat.le_refl _) _).trans ⟨rfl, rfl, rfl, by simp, fun k hk => setRow_other _ _ _ _ (by omega)⟩
    go_enter Tryz.func196, Tryz.ntmps196
    go_wp2
    go_ret
    exact ⟨rfl, Lib.below_freeze hB (p := ⟨w.heap.size, 0, none⟩) (Nat.le_refl _) _⟩
set_option maxHeartbeats 400000 in
theorem sclone_any (s : ByteArray) (w : World) (hs : s.size ≤ 140737488351232) :
    Calls Tryz.prog 150 #[.string s] w fun e w' => e = .returned (.string s) ∧ Below w.heap.size w w' := by
  have H : Hid _ := clone_any s w hs
  go_enter Tryz.func150, Tryz.ntmps150
  go_wp2_with fail
  refine Calls.mono H.out ?_
  rintro e w1 ⟨rfl, hB⟩
  go_wp2
  go_ret
  exact ⟨rfl, hB⟩
end Go.Proofs.YtadinjaocnlglaaGreatDoor
namespace Go.Proofs.YtadinjaocnlglaaGreatDoor
open Go.RowKit
def absN (c : Int) : Nat := if c < 0 then (-(c + 1)).toNat else c.toNat
def pk (c : Int) (n : Nat) : Nat := absN c % n
theorem pk_lt (c : Int) (n : Nat) (hn : 0 < n) : pk c n < n := Nat.mod_lt _ hn
set_option maxHeartbeats 400000 in
theorem pick_any (c : Int) (n : Nat) (w : World) (hn : 0 < n) (hn2 : n ≤ 1000) (h0 : -9223372036854775808 ≤ c) (h1 : c ≤ 9223372036854775807) :
    Calls Tryz.prog 54 #[.int .i64 c, .int .i64 n] w fun e w' => e = .returned (.int .i64 (pk c n)) ∧ w' = w := by
  by_cases hc : c < 0
  · have E : Hid (-((c + 1).tmod (n : Int)) = ((pk c n : Nat) : Int)) := by
      show -((c + 1).tmod (n : Int)) = ((pk c n : Nat) : Int)
      unfold pk absN
      rw [if_pos hc, ← Int.neg_tmod]
      obtain ⟨a, ha⟩ : ∃ a : Nat, -(c + 1) = (a : Int) := ⟨(-(c + 1)).toNat, by omega⟩
      rw [ha, Int.toNat_natCast]
      exact Int.ofNat_tmod a n
    go_enter Tryz.func54, Tryz.ntmps54
    go_wp2
    go_ret
    rw [E.out]
    exact ⟨rfl, rfl⟩
  · have E : Hid (c % (n : Int) = ((pk c n : Nat) : Int)) := by
      show c % (n : Int) = ((pk c n : Nat) : Int)
      unfold pk absN
      rw [if_neg hc]
      obtain ⟨a, ha⟩ : ∃ a : Nat, c = (a : Int) := ⟨c.toNat, by omega⟩
      rw [ha, Int.toNat_natCast]
      exact (Int.natCast_emod a n).symm
    go_enter Tryz.func54, Tryz.ntmps54
    go_wp2
    go_ret
    rw [E.out]
    exact ⟨rfl, rfl⟩
end Go.Proofs.YtadinjaocnlglaaGreatDoor
namespace Go.Proofs.YtadinjaocnlglaaGreatDoor
open Go.RowKit
set_option maxRecDepth 100000
/-- the bytes of the varint of a number, at most f + 1 of them -/
def vb : Nat → Nat → List Nat
  | 0, n => [n]
  | f + 1, n => if n < 128 then [n] else (n % 128 + 128) :: vb f (n / 128)
theorem vb_len : ∀ f n, (vb f n).length ≤ f + 1
  | 0, n => by simp [vb]
  | f + 1, n => by
    rw [vb]
    have := vb_len f (n / 128)
    split
    · simp
    · simp; omega
def u8s (l : List Nat) : List Value := l.map fun x => .int .u8 ((x : Nat) : Int)
theorem u8s_snoc (l : List Nat) (x : Nat) : u8s (l ++ [x]) = u8s l ++ [.int .u8 ((x : Nat) : Int)] := by simp [u8s]
/-- the varint of a number, as a text -/
def vint (n : Nat) : ByteArray := strOfNums ((vb 4 n).map fun x => ((x : Nat) : Int))
theorem vint_size (n : Nat) : (vint n).size ≤ 5 := by
  unfold vint
  rw [strOfNums_size, List.length_map]
  exact vb_len 4 n
theorem or_128B : ∀ y : Fin 256, bits .or .u8 ((y.val : Nat) : Int) 128 = ((y.val % 128 + 128 : Nat) : Int) := by decide +kernel
theorem or_128 (x : Nat) : bits .or .u8 ((x : Int) % 256) 128 = ((x % 128 + 128 : Nat) : Int) := by
  have h := or_128B ⟨x % 256, Nat.mod_lt _ (by omega)⟩
  have e : ((x % 256 : Nat) : Int) = (x : Int) % 256 := by omega
  rw [← e, h]
  have e2 : x % 256 % 128 = x % 128 := by omega
  show (((x % 256) % 128 + 128 : Nat) : Int) = _
  rw [e2]
theorem info5v : (Tryz.prog.info? 5).map (fun i => (i.zero, i.size, i.bytes)) = some (some (.int .u8 0), 1, 1) := by kernel_rfl
theorem own_shape {w : World} {base : Nat} {e : TypeId} {size : Nat} {v : Value} {n : Nat} {xs : List Value} (h : w.ownsRow base e size v n xs) : ∃ a cap, v = .slice a n cap := by
  rcases h.2 with ⟨rfl, rfl⟩ | ⟨g, cap, cur, rfl, _⟩
  · exact ⟨none, 0, rfl⟩
  · exact ⟨_, _, rfl⟩
theorem own_lt {w : World} {base : Nat} {e : TypeId} {size : Nat} {v : Value} {n : Nat} {xs : List Value} (h : w.ownsRow base e size v n xs) : ∀ r, v.ownBlock = some r → r < w.heap.size := by
  intro r hr
  rcases h.2 with ⟨rfl, _⟩ | ⟨g, cap, cur, rfl, _, hg, _⟩
  · cases hr
  · cases hr; exact (Array.getElem?_eq_some_iff.1 hg).1
theorem own_ge {w : World} {base : Nat} {e : TypeId} {size : Nat} {v : Value} {n : Nat} {xs : List Value} (h : w.ownsRow base e size v n xs) : ∀ g, v.ownBlock = some g → base ≤ g := by
  intro g hg
  rcases h.2 with ⟨rfl, _⟩ | ⟨g', cap, cur, rfl, hb, _⟩
  · simp [Value.ownBlock] at hg
  · simp [Value.ownBlock] at hg; omega
theorem own_bytes {w : World} {base : Nat} {v : Value} {n : Nat} {l : List Nat} (h : w.ownsRow base 5 1 v n (u8s l)) (hl : l.length = n) (h0 : 0 < n) : (convert 165 9 v).run Tryz.prog w = .ok (.string (strOfNums (l.map fun x => ((x : Nat) : Int)))) w := by
  rcases h.2 with ⟨_, h1⟩ | ⟨g, cap, cur, hv, _⟩
  · omega
  · subst hv
    refine run_convert_bytes_arg (P := Tryz.prog) w 165 5 Tryz.underlying165 Tryz.underlying5 g 0 n cap (l.map fun x => ((x : Nat) : Int)) (by simp [hl]) (fun i hi => ?_) 9 Tryz.underlying9
    rw [Nat.zero_add, h.cellAt i (by omega)]
    simp [u8s, hl, hi]
set_option maxHeartbeats 2000000 in
theorem varint_any (n : Nat) (w : World) (hn : n < 4294967296) :
    Calls Tryz.prog 183 #[.int .u32 n] w fun e w' => e = .returned (.string (vint n)) ∧ Below w.heap.size w w' := by
  obtain ⟨i0, hi, hz0, hz1, hz2⟩ := info_parts info5v
  go_enter Tryz.func183, Tryz.ntmps183
  go_wp2
  go_loopw [0, 3] (fun xv v wr => ∃ (x f L : Nat) (pre : List Nat), xv = .int .u32 x ∧ x < 4294967296 ∧ x < 128 ^ (f + 1) ∧ f ≤ 4 ∧ pre.length = L ∧ L + f = 4 ∧ pre ++ vb f x = vb 4 n ∧ wr.ownsRow w.heap.size 5 1 v L (u8s pre) ∧ Below w.heap.size w wr) (fun xv _ _ => (intOf xv).toNat)
  case atStart => exact ⟨n, 4, 0, [], rfl, hn, by omega, by omega, rfl, by omega, rfl, World.ownsRow_nil _ _ _ _, Below.refl _ _⟩
  case round =>
    obtain ⟨x, f, L, pre, rfl, hx, hxf, hf, hL, hLf, hpre, hown, hbl⟩ := hrel
    obtain ⟨va, vc, hv⟩ := own_shape hown
    subst hv
    have HPR : Hid _ := hpre
    have HXF : Hid _ := hxf
    have HL : Hid _ := hL
    have HO : Hid (wr.ownsRow w.heap.size 5 1 (.slice va L vc) L (u8s pre)) := hown
    have HB : Hid (Below w.heap.size w wr) := hbl
    clear hpre hxf hL hown hbl
    by_cases hge : 128 ≤ x
    · have hor := or_128 x
      have hB' : w.heap.size ≤ (wr.alloc (Obj.cells #[Value.int IntKind.u8 ((x % 128 + 128 : Nat) : Int)] 5)).heap.size := by have := HB.out.size; simp; omega
      have hgi : (128 : Int) ≤ (x : Int) := by omega
      go_wp2_with (at_builtin; refine wpList_append_own_at _ rfl (.tmp 6) (.tmp 10) 165 rfl w.heap.size 5 i0 (.int .u8 0) 1 1 Tryz.underlying165 hi hz0 hz1 hz2 rfl (by decide) _ L (u8s pre) rfl (HO.out.alloc _) ⟨wr.heap.size, 0, none⟩ 1 1 [.int .u8 ((x % 128 + 128 : Nat) : Int)] rfl rfl (cell_one_new _ _ _) (by intro u hu; simp at hu; subst hu; rfl) ?kb ?kc hB' ?_)
      case kb => unfold maxLen; omega
      case kc => omega
      intro v' w' hown' hgrow _ hblk
      have hbl' : Below w.heap.size w w' := (HB.out.alloc HB.out.size _).grown hgrow hB' (fun g hg => own_ge HO.out g hg)
      have ho' : w'.ownsRow w.heap.size 5 1 v' (L + 1) (u8s (pre ++ [x % 128 + 128])) := by rw [u8s_snoc]; exact hown'
      clear hown' hgrow hblk HO HB hB' hor
      go_wp2
      go_roundw
      case rel =>
        have h1 := HXF.out
        have hf1 : 1 ≤ f := by
          rcases Nat.eq_zero_or_pos f with h | h
          · rw [h] at h1; omega
          · exact h
        obtain ⟨f', rfl⟩ : ∃ f', f = f' + 1 := ⟨f - 1, by omega⟩
        refine ⟨x / 128, f', L + 1, pre ++ [x % 128 + 128], by go_num, by omega, ?_, by omega, by simp [HL.out], by omega, ?_, ho', hbl'⟩
        · rw [Nat.pow_succ] at h1; omega
        · rw [← HPR.out, vb, if_neg (by omega), List.append_assoc]; rfl
      case measure => simp [intOf]; omega
    · have hgi : (x : Int) < 128 := by omega
      have hmod : (x : Int) % 256 = (x : Int) := by omega
      have HV : Hid (pre ++ [x] = vb 4 n) := by
        show pre ++ [x] = vb 4 n
        rw [← HPR.out]
        cases f with
        | zero => rfl
        | succ f => rw [vb, if_pos (by omega)]
      have hB' : w.heap.size ≤ (wr.alloc (Obj.cells #[Value.int IntKind.u8 ((x : Nat) : Int)] 5)).heap.size := by have := HB.out.size; simp; omega
      go_wp2_with (at_builtin; refine wpList_append_own_at _ rfl (.tmp 14) (.tmp 17) 165 rfl w.heap.size 5 i0 (.int .u8 0) 1 1 Tryz.underlying165 hi hz0 hz1 hz2 rfl (by decide) _ L (u8s pre) rfl (HO.out.alloc _) ⟨wr.heap.size, 0, none⟩ 1 1 [.int .u8 ((x : Nat) : Int)] rfl rfl (cell_one_new _ _ _) (by intro u hu; simp at hu; subst hu; rfl) ?kb ?kc hB' ?_)
      case kb => unfold maxLen; omega
      case kc => omega
      intro v' w' hown' hgrow _ hblk
      have hbl' : Below w.heap.size w w' := (HB.out.alloc HB.out.size _).grown hgrow hB' (fun g hg => own_ge HO.out g hg)
      have ho' : w'.ownsRow w.heap.size 5 1 v' (L + 1) (u8s (pre ++ [x])) := by rw [u8s_snoc]; exact hown'
      have hcv := own_bytes ho' (by simp [HL.out]) (by omega)
      rw [HV.out] at hcv
      clear hown' hgrow hblk HO HB hB' ho'
      go_wp2
      go_ret
      exact ⟨rfl, hbl'⟩
end Go.Proofs.YtadinjaocnlglaaGreatDoor
