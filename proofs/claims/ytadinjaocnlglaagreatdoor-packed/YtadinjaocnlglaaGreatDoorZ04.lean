/-
  The walk of Matrix.Times.
  The walk of stripe.values.
  The walks of stripe.CheckParams and parity, where nothing is refused.
  The walk of strings.Clone.
  The walks of pick, sameTexts.
-/
import Derived.Test.YtadinjaocnlglaaGreatDoorZ03
import Derived.WalkKit
import Derived.WalkSpells
import Derived.WalkLawsBesides
import Derived.BigRegion
import Derived.BigQuiet
import Derived.Deep.QuietTactic
import Derived.Deep.RegionWith
import Derived.Deep.RegionHeld3
import Derived.Lib.UnsafeStr
import Derived.Lib.BufferWrite
import Derived.Lib.Strings
namespace Go.Proofs.YtadinjaocnlglaaGreatDoor
open Go.RowKit
theorem MatP.mat {w : World} {B g m n : Nat} {V : Nat → Nat → Nat} {G : Nat → Nat} (h : MatP w B g m m n V G) : Mat w g m n V G :=
  ⟨fun i hi => by rw [h.top.cell i hi]; simp [part', hi], h.top.lt, fun i hi => ⟨(h.rows i hi).2.2.cl, (h.rows i hi).2.2.lt⟩⟩
/-- one row more -/
theorem MatP.step {w w2 : World} {B g m k n : Nat} {V : Nat → Nat → Nat} {G : Nat → Nat} (h : MatP w B g m k n V G) (hb : Below w.heap.size w w2) (o : Nat) (ho : w.heap.size ≤ o) (hB : B ≤ w.heap.size) (hr : Rw w2 o n 393 (nb (V k))) :
    MatP (w2.setCell ⟨g, k, none⟩ (.slice (some ⟨o, 0, none⟩) n n)) B g m (k + 1) n V (fun i => if i = k then o else G i) := by
  have hgl := h.top.lt
  refine ⟨?_, fun i hi => ?_⟩
  · refine ((h.top.below hb hgl).put k _).to (fun j _ => ?_)
    rw [← part_step]
    simp only [updV, part']
    by_cases e : j = k
    · simp [e]
    · by_cases e2 : j < k
      · simp [e, e2]
      · simp [e, e2]
  · by_cases e : i = k
    · subst e
      simp only [if_true]
      exact ⟨by omega, by omega, hr.other _ _ (by simp; omega)⟩
    · have hl : i < k := by omega
      simp only [if_neg e]
      exact ⟨(h.rows i hl).1, (h.rows i hl).2.1, ((h.rows i hl).2.2.below hb (h.rows i hl).2.2.lt).other _ _ (by simpa using (h.rows i hl).2.1)⟩
set_option maxHeartbeats 1000000 in
theorem mtimes_any (U V : Nat → Nat → Nat) (G1 G2 : Nat → Nat) (b1 m r b2 c : Nat) (w : World) (hm : m ≤ 1000) (hr0 : 0 < r) (hr : r ≤ 1000) (hcc : c ≤ 140737488351232) (hU : ∀ i j, U i j < 256) (hV : ∀ i j, V i j < 256) (h1 : Mat w b1 m r U G1) (h2 : Mat w b2 r c V G2) :
    Calls Tryz.prog 273 #[.slice (some ⟨b1, 0, none⟩) m m, .slice (some ⟨b2, 0, none⟩) r r] w fun e w' => ∃ G, e = .returned (.slice (some ⟨w.heap.size, 0, none⟩) m m) ∧ MatP w' w.heap.size w.heap.size m m c (fun i j => sm (U i) V j r) G ∧ Below w.heap.size w w' := by
  have H1 : Hid _ := h1
  have H2 : Hid _ := h2
  have HU : Hid _ := hU
  have HV : Hid _ := hV
  clear h1 h2 hU hV
  have hmk := run_make_row' (P := Tryz.prog) 389 390 (.slice none 0 0) 24 Tryz.underlying389 info53 rfl .i64 .i64 m (by omega) (by omega)
  go_enter Tryz.func273, Tryz.ntmps273
  go_wp2
  go_loopw [13] (fun iv wr => ∃ i G, i ≤ m ∧ iv = .int .i64 (i : Nat) ∧ MatP wr w.heap.size w.heap.size m i c (fun i j => sm (U i) V j r) G ∧ Below w.heap.size w wr) (fun iv _ => m - (intOf iv).toNat)
  case atStart => exact ⟨0, fun _ => 0, by omega, rfl, ⟨(Rw.made w m 390 (.slice none 0 0)).to (fun j _ => (part_0 _ _ j).symm), fun i hi => by omega⟩, (Below.refl _ _).alloc (Nat.le_refl _) _⟩
  case round =>
    obtain ⟨i, G, hi, rfl, hM, hb⟩ := hrel
    by_cases hlt : i < m
    · have hA := Mat.below H1.out hb
      have hBm := Mat.below H2.out hb
      have c1 := hA.top i hlt
      have hrow := hA.rows i hlt
      have HRow : Hid _ := hrow
      have HBm : Hid _ := hBm
      clear hA hBm hrow
      go_wp2_with fail
      refine (weighted_any (U i) V G2 b2 r c (G1 i) r wr hr0 hr hcc (HU.out i) HV.out HBm.out HRow.out.2 HRow.out.1).mono ?_
      rintro e w2 ⟨rfl, hR2, hB2⟩
      have hM2 := hM.step hB2 wr.heap.size (Nat.le_refl _) hb.size hR2
      have c2 := (hM.top.below hB2 hM.top.lt).cell i hlt
      have c3 := (hM.top.below hB2 hM.top.lt).free i
      have hbb := (hb.trans (hB2.mono hb.size)).setCell (p := ⟨w.heap.size, i, none⟩) (Nat.le_refl _) (.slice (some ⟨wr.heap.size, 0, none⟩) c c)
      have HM2 : Hid _ := hM2
      clear hM2 hR2
      go_wp2
      go_roundw
      case rel => exact ⟨i + 1, _, by omega, by go_num, HM2.out, hbb⟩
      case measure => simp [intOf]; omega
    · have e : i = m := by omega
      subst e
      go_wp2
      go_ret
      exact ⟨G, rfl, hM, hb⟩
end Go.Proofs.YtadinjaocnlglaaGreatDoor
namespace Go.Proofs.YtadinjaocnlglaaGreatDoor
open Go.RowKit
set_option maxRecDepth 100000
/-- a list of points that may be nil -/
def Pts (w : World) (v : Value) (n : Nat) (q : Nat → Nat) : Prop := (v = .slice none 0 0 ∧ n = 0) ∨ ∃ b cap, v = .slice (some ⟨b, 0, none⟩) n cap ∧ b < w.heap.size ∧ Cl w b n (pI q)
theorem Pts.below {w w' : World} {v : Value} {n : Nat} {q : Nat → Nat} (h : Pts w v n q) (hb : Below w.heap.size w w') : Pts w' v n q := by
  rcases h with h | ⟨b, cap, h1, h2, h3⟩
  · exact .inl h
  · exact .inr ⟨b, cap, h1, Nat.lt_of_lt_of_le h2 hb.size, h3.below hb h2⟩
theorem numbers_at (p : Nat → Nat) (n : Nat) (v : Value) (w : World) (hn : n ≤ 1000) (hp : ∀ i, i < n → p i < 256) (h : Pts w v n p) :
    Calls Tryz.prog 272 #[v] w fun e w' => e = .returned (.slice (some ⟨w.heap.size, 0, none⟩) n n) ∧ Rw w' w.heap.size n 393 (nb p) ∧ Below w.heap.size w w' := by
  rcases h with ⟨rfl, rfl⟩ | ⟨b, cap, rfl, hb, hc⟩
  · exact (numbers_nil w).mono fun e w' h => ⟨h.1, h.2.1.to (fun j hj => by omega), h.2.2⟩
  · exact numbers_any p b n cap w hn hp hb hc
/-- the texts of a list -/
def tI (S : Nat → ByteArray) : Nat → Value := fun i => .string (S i)
/-- the i-th text that comes of the texts S at the points p, at the points q -/
def vl (p q : Nat → Nat) (r c : Nat) (S : Nat → ByteArray) (i : Nat) : ByteArray := txtN c (fun j => sm (wt p r (q i)) (fun k j => bN (S k) j) j r)
set_option maxHeartbeats 1000000 in
theorem values_any (p q : Nat → Nat) (S : Nat → ByteArray) (r m c b cap : Nat) (vf vt : Value) (w : World) (hr0 : 0 < r) (hr : r ≤ 1000) (hm : m ≤ 1000) (hc : c ≤ 140737488351232) (hS : ∀ i, i < r → (S i).size = c) (hp : ∀ i, i < r → p i < 256) (hq : ∀ i, i < m → q i < 256)
    (hb : b < w.heap.size) (hC : Cl w b r (tI S)) (hf : Pts w vf r p) (ht : Pts w vt m q) :
    Calls Tryz.prog 231 #[.slice (some ⟨b, 0, none⟩) r cap, vf, vt] w fun e w' => ∃ g, e = .returned (.slice (some ⟨g, 0, none⟩) m m) ∧ w.heap.size ≤ g ∧ Rw w' g m 9 (tI (vl p q r c S)) ∧ Below w.heap.size w w' := by
  have HS : Hid _ := hS
  have HP : Hid _ := hp
  have HQ : Hid _ := hq
  have HC : Hid _ := hC
  have HF : Hid _ := hf
  have HT : Hid _ := ht
  clear hS hp hq hC hf ht
  have hmk := run_make_row' (P := Tryz.prog) 389 390 (.slice none 0 0) 24 Tryz.underlying389 info53 rfl .i64 .i64 r (by omega) (by omega)
  have hmk2 := run_make_row' (P := Tryz.prog) 42 9 (.string ⟨#[]⟩) 16 Tryz.underlying42 info9 rfl .i64 .i64 m (by omega) (by omega)
  go_enter Tryz.func231, Tryz.ntmps231
  go_wp2
  go_loopw [19] (fun iv wr => ∃ i G, i ≤ r ∧ iv = .int .i64 (i : Nat) ∧ MatP wr w.heap.size w.heap.size r i c (fun k j => bN (S k) j) G ∧ Below w.heap.size w wr) (fun iv _ => r - (intOf iv).toNat)
  case atStart => exact ⟨0, fun _ => 0, by omega, rfl, ⟨(Rw.made w r 390 (.slice none 0 0)).to (fun j _ => (part_0 _ _ j).symm), fun i hi => by omega⟩, (Below.refl _ _).alloc (Nat.le_refl _) _⟩
  case round =>
    obtain ⟨i, G, hi, rfl, hM, hbl⟩ := hrel
    by_cases hlt : i < r
    · have c1 : wr.cell? ⟨b, i, none⟩ = some (.string (S i)) := Cl.below HC.out hbl hb i hlt
      have hSi := HS.out i hlt
      have hSl : (S i).size ≤ 140737488351232 := by omega
      have HSi : Hid _ := hSi
      clear hSi
      go_wp2_with fail
      refine (row_any (S i) wr hSl).mono ?_
      rintro e w2 ⟨rfl, hR2, hB2⟩
      rw [HSi.out] at hR2 ⊢
      have hM2 := hM.step hB2 wr.heap.size (Nat.le_refl _) hbl.size hR2
      have c2 := (hM.top.below hB2 hM.top.lt).cell i hlt
      have c3 := (hM.top.below hB2 hM.top.lt).free i
      have hbb := (hbl.trans (hB2.mono hbl.size)).setCell (p := ⟨w.heap.size, i, none⟩) (Nat.le_refl _) (.slice (some ⟨wr.heap.size, 0, none⟩) c c)
      have HM2 : Hid _ := hM2
      clear hM2 hR2
      go_wp2
      go_roundw
      case rel => exact ⟨i + 1, _, by omega, by go_num, HM2.out, hbb⟩
      case measure => simp [intOf]; omega
    · have e : i = r := by omega
      subst e
      have hMat := hM.mat
      have HMat : Hid _ := hMat
      clear hMat
      have hF1 := Pts.below HF.out hbl
      go_wp2_with fail
      refine (numbers_at p i vf wr (by omega) HP.out hF1).mono ?_
      rintro e w2 ⟨rfl, hN2, hB2⟩
      have hT2 := (Pts.below HT.out hbl).below hB2
      go_wp2_with fail
      refine (numbers_at q m vt w2 hm HQ.out hT2).mono ?_
      rintro e w3 ⟨rfl, hN3, hB3⟩
      have hN2' := hN2.below hB3 hN2.lt
      go_wp2_with fail
      refine (interp_any p q wr.heap.size i i w2.heap.size m m w3 (by omega) hm HP.out HQ.out hN2'.lt hN3.lt hN2'.cl hN3.cl).mono ?_
      rintro e w4 ⟨g4, G4, rfl, hg4, hM4, hB4⟩
      have hMV := ((HMat.out.below hB2).below hB3).below hB4
      go_wp2_with fail
      refine (mtimes_any (fun k => wt p i (q k)) (fun k j => bN (S k) j) G4 G g4 m i w.heap.size c w4 hm hr0 (by omega) hc (fun k j => wt_lt p i (q k) j) (fun k j => bN_lt (S k) j) hM4.mat hMV).mono ?_
      rintro e w5 ⟨G5, rfl, hM5, hB5⟩
      have hb5 : Below w.heap.size w w5 := (((hbl.trans (hB2.mono hbl.size)).trans (hB3.mono (Nat.le_trans hbl.size hB2.size))).trans (hB4.mono (Nat.le_trans hbl.size (Nat.le_trans hB2.size hB3.size)))).trans (hB5.mono (Nat.le_trans hbl.size (Nat.le_trans hB2.size (Nat.le_trans hB3.size hB4.size))))
      obtain ⟨g, hg⟩ : ∃ g, g = w4.heap.size := ⟨_, rfl⟩
      rw [← hg] at hM5 ⊢
      have hM5m := hM5.mat
      have HM5 : Hid _ := hM5m
      clear hM5m hg hN2 hB2 hN3 hB3 hN2' hM4 hB4 hMV hB5 hM5 hT2 hF1 hM HMat hbl
      go_wp2
      go_loopw [42] (fun kv wr => ∃ k : Nat, k ≤ m ∧ kv = .int .i64 k ∧ Below w5.heap.size w5 wr ∧ Rw wr w5.heap.size m 9 (part' k (tI (vl p q i c S)) (.string ⟨#[]⟩))) (fun kv _ => m - (intOf kv).toNat)
      case atStart => exact ⟨0, by omega, rfl, (Below.refl _ _).alloc (Nat.le_refl _) _, (Rw.made w5 m 9 (.string ⟨#[]⟩)).to (fun j _ => (part_0 _ _ j).symm)⟩
      case round =>
        obtain ⟨k, hk, rfl, hbk, hRk⟩ := hrel
        by_cases hlk : k < m
        · have hMk := HM5.out.below hbk
          have c1 := hMk.top k hlk
          have hrow := hMk.rows k hlk
          have HRow : Hid _ := hrow
          clear hMk hrow
          go_wp2_with fail
          refine (text_any _ (G5 k) c c wr hc HRow.out.2 HRow.out.1).mono ?_
          rintro e w6 ⟨rfl, hB6⟩
          have hR6 := hRk.below hB6 hRk.lt
          have c2 := hR6.cell k hlk
          have c3 := hR6.free k
          have hbb := (hbk.trans (hB6.mono hbk.size)).setCell (p := ⟨w5.heap.size, k, none⟩) (Nat.le_refl _) (.string (vl p q i c S k))
          have hRR := (hR6.put k (.string (vl p q i c S k))).to (fun j _ => part_step k (tI (vl p q i c S)) (.string ⟨#[]⟩) j)
          have HRR : Hid _ := hRR
          clear hRR
          go_wp2
          go_roundw
          case rel => exact ⟨k + 1, by omega, by go_num, hbb, HRR.out⟩
          case measure => simp [intOf]; omega
        · have e : k = m := by omega
          subst e
          go_wp2
          go_ret
          exact ⟨w5.heap.size, rfl, hb5.size, hRk.to (fun j hj => by simp [part', hj]), hb5.trans (hbk.mono hb5.size)⟩
end Go.Proofs.YtadinjaocnlglaaGreatDoor
namespace Go.Proofs.YtadinjaocnlglaaGreatDoor
open Go.RowKit
set_option maxRecDepth 100000
set_option maxHeartbeats 400000 in
theorem checkParams_ok (k m : Nat) (w : World) (hk1 : 1 ≤ k) (hkm : k + m ≤ 255) :
    Calls Tryz.prog 190 #[.int .i64 k, .int .i64 m] w fun e w' => e = .returned .nilIface ∧ w' = w := by
  have h1 : (1 : Int) ≤ (k : Int) := by omega
  have h2 : (k : Int) ≤ 255 := by omega
  have h3 : (0 : Int) ≤ (m : Int) := by omega
  have h4 : (m : Int) ≤ 255 - (k : Int) := by omega
  go_enter Tryz.func190, Tryz.ntmps190
  go_wp2
  go_ret
  exact ⟨rfl, rfl⟩
set_option maxHeartbeats 1000000 in
theorem inner_ok (S : Nat → ByteArray) (k m c b cap : Nat) (w : World) (hk1 : 1 ≤ k) (hkm : k + m ≤ 255) (hc : c ≤ 140737488351232) (hS : ∀ i, i < k → (S i).size = c) (hb : b < w.heap.size) (hC : Cl w b k (tI S)) :
    Calls Tryz.prog 191 #[.int .i64 k, .int .i64 m, .slice (some ⟨b, 0, none⟩) k cap] w fun e w' => ∃ g, e = .returned (.slice (some ⟨g, 0, none⟩) m m) ∧ w.heap.size ≤ g ∧ Rw w' g m 9 (tI (vl (fun i => i) (fun i => k + i) k c S)) ∧ Below w.heap.size w w' := by
  have HS : Hid _ := hS
  have HC : Hid _ := hC
  clear hS hC
  have hk255 : k ≤ 255 := by omega
  go_enter Tryz.func191, Tryz.ntmps191
  go_wp2_with fail
  refine (points_any 0 k w (by omega) (by omega)).mono ?_
  rintro e w2 ⟨rfl, hP2, hB2⟩
  rw [Nat.sub_zero] at hP2 ⊢
  go_wp2_with fail
  have hkm2 : ((k : Int) + (m : Int)) = ((k + m : Nat) : Int) := by omega
  rw [hkm2]
  clear hkm2
  refine (points_any k (k + m) w2 (by omega) (by omega)).mono ?_
  rintro e w3 ⟨rfl, hP3, hB3⟩
  rw [Nat.add_sub_cancel_left] at hP3 ⊢
  have hf : Pts w3 (.slice (some ⟨w.heap.size, 0, none⟩) k k) k (fun j => j) := .inr ⟨_, _, rfl, Nat.lt_of_lt_of_le hP2.lt hB3.size, fun j hj => by rw [(hP2.below hB3 hP2.lt).cell j hj]; simp [from', pI]⟩
  have ht : Pts w3 (.slice (some ⟨w2.heap.size, 0, none⟩) m m) m (fun j => k + j) := .inr ⟨_, _, rfl, hP3.lt, fun j hj => by rw [hP3.cell j hj]; rfl⟩
  have hC3 : Cl w3 b k (tI S) := (Cl.below HC.out hB2 hb).below hB3 (Nat.lt_of_lt_of_le hb hB2.size)
  have HP2 : Hid _ := hf
  have HP3 : Hid _ := ht
  have HC3 : Hid _ := hC3
  clear hf ht hC3
  go_wp2_with fail
  refine (values_any (fun j => j) (fun j => k + j) S k m c b cap _ _ w3 (by omega) (by omega) (by omega) hc HS.out (fun j hj => by omega) (fun j hj => by omega) (Nat.lt_of_lt_of_le hb (Nat.le_trans hB2.size hB3.size)) HC3.out HP2.out HP3.out).mono ?_
  rintro e w4 ⟨g, rfl, hg, hR4, hB4⟩
  go_wp2
  go_ret
  exact ⟨g, rfl, Nat.le_trans hB2.size (Nat.le_trans hB3.size hg), hR4, (hB2.trans (hB3.mono hB2.size)).trans (hB4.mono (Nat.le_trans hB2.size hB3.size))⟩
end Go.Proofs.YtadinjaocnlglaaGreatDoor
namespace Go.Proofs.YtadinjaocnlglaaGreatDoor
open Go.RowKit
set_option maxRecDepth 100000
theorem cells5 : Tryz.prog.cellsOf 5 = 1 := by kernel_rfl
theorem size5 : (Tryz.prog.info? 5).map (·.size) = some 1 := by kernel_rfl
set_option maxHeartbeats 1000000 in
set_option maxRecDepth 100000 in
theorem clone_any (s : ByteArray) (w : World) (hs : s.size ≤ 140737488351232) :
    Calls Tryz.prog 196 #[.string s] w fun e w' => e = .returned (.string s) ∧ Below w.heap.size w w' := by
  by_cases h0 : s.size = 0
  · obtain rfl : s = ⟨#[]⟩ := ByteArray.ext (Array.eq_empty_of_size_eq_zero h0)
    go_enter Tryz.func196, Tryz.ntmps196
    go_wp2
    go_ret
    exact ⟨rfl, Below.refl _ _⟩
  · have hmk := run_make_row' (P := Tryz.prog) 165 5 (.int .u8 0) 1 Tryz.underlying165 info5 rfl .i64 .i64 s.size (by omega) (by omega)
    obtain ⟨M, hM⟩ : ∃ M, M = madeCells #[Value.int .u8 0] s.size := ⟨_, rfl⟩
    have hMs : M.size = s.size := by rw [hM, size_madeCells]
    rw [← hM] at hmk
    clear hM
    have hcp := Lib.run_copy_row_string (P := Tryz.prog) (w.alloc (.cells M 5)) 165 9 3 5 w.heap.size 0 s.size s.size s M 5 Tryz.underlying165 size5 (heap_alloc_new w _) (Nat.le_refl _) (by omega)
    obtain ⟨Y, hY⟩ : ∃ Y, Y = (M.toList.take 0 ++ Lib.byteCells s.data.toList ++ M.toList.drop (0 + s.size)).toArray := ⟨_, rfl⟩
    rw [← hY] at hcp
    have hYl : Y.toList = Lib.byteCells s.data.toList := by
      rw [hY, List.toList_toArray, List.take_zero, List.nil_append, List.drop_of_length_le (by rw [Array.length_toList]; omega), List.append_nil]
    have hYs : Y.size = s.size := by rw [← Array.length_toList, hYl, Lib.byteCells_length]; simp
    have hgY : ((w.alloc (.cells M 5)).setRow w.heap.size Y).heap[w.heap.size]? = some (.cells Y 5 (0, 0)) := setRow_heap _ _ M _ 5 (0, 0) (heap_alloc_new w _)
    have hsl : s.data.toList.length = s.size := by simp
    have hus := Lib.run_unsafeString_row (P := Tryz.prog) ((w.alloc (.cells M 5)).setRow w.heap.size Y) 352 3 9 5 Tryz.underlying352 cells5 w.heap.size Y.size (by unfold World.shape?; rw [hgY]) s.data.toList (fun e => h0 (by rw [← hsl, e]; rfl)) (by omega) (by omega)
      (fun j x hx => by
        have hadd : (⟨w.heap.size, 0, none⟩ : Addr).add j = ⟨w.heap.size, j, none⟩ := by unfold Addr.add; split <;> simp_all
        rw [hadd, cell_of_row _ _ _ _ 5 (0, 0) hgY, ← Array.getElem?_toList, hYl]
        simp [Lib.byteCells, hx])
    rw [hsl] at hus
    clear hY hYl hYs hsl
    have hB : Below w.heap.size w ((w.alloc (.cells M 5)).setRow w.heap.size Y) := ((Below.refl _ w).alloc (Nat.le_refl _) _).trans ⟨rfl, rfl, rfl, by simp, fun k hk => setRow_other _ _ _ _ (by omega)⟩
    go_enter Tryz.func196, Tryz.ntmps196
    go_wp2
    go_ret
    exact ⟨rfl, Lib.below_freeze hB (p := ⟨w.heap.size, 0, none⟩) (Nat.le_refl _) _⟩
set_option maxHeartbeats 400000 in
theorem sclone_any (s : ByteArray) (w : World) (hs : s.size ≤ 140737488351232) :
    Calls Tryz.prog 150 #[.string s] w fun e w' => e = .returned (.string s) ∧ Below w.heap.size w w' := by
  have H : Hid _ := clone_any s w hs
  go_enter Tryz.func150, Tryz.ntmps150
  go_wp2_with fail
  refine Calls.mono H.out ?_
  rintro e w1 ⟨rfl, hB⟩
  go_wp2
  go_ret
  exact ⟨rfl, hB⟩
end Go.Proofs.YtadinjaocnlglaaGreatDoor
namespace Go.Proofs.YtadinjaocnlglaaGreatDoor
open Go.RowKit
def absN (c : Int) : Nat := if c < 0 then (-(c + 1)).toNat else c.toNat
def pk (c : Int) (n : Nat) : Nat := absN c % n
theorem pk_lt (c : Int) (n : Nat) (hn : 0 < n) : pk c n < n := Nat.mod_lt _ hn
set_option maxHeartbeats 400000 in
theorem pick_any (c : Int) (n : Nat) (w : World) (hn : 0 < n) (hn2 : n ≤ 1000) (h0 : -9223372036854775808 ≤ c) (h1 : c ≤ 9223372036854775807) :
    Calls Tryz.prog 54 #[.int .i64 c, .int .i64 n] w fun e w' => e = .returned (.int .i64 (pk c n)) ∧ w' = w := by
  by_cases hc : c < 0
  · have E : Hid (-((c + 1).tmod (n : Int)) = ((pk c n : Nat) : Int)) := by
      show -((c + 1).tmod (n : Int)) = ((pk c n : Nat) : Int)
      unfold pk absN
      rw [if_pos hc, ← Int.neg_tmod]
      obtain ⟨a, ha⟩ : ∃ a : Nat, -(c + 1) = (a : Int) := ⟨(-(c + 1)).toNat, by omega⟩
      rw [ha, Int.toNat_natCast]
      exact Int.ofNat_tmod a n
    go_enter Tryz.func54, Tryz.ntmps54
    go_wp2
    go_ret
    rw [E.out]
    exact ⟨rfl, rfl⟩
  · have E : Hid (c % (n : Int) = ((pk c n : Nat) : Int)) := by
      show c % (n : Int) = ((pk c n : Nat) : Int)
      unfold pk absN
      rw [if_neg hc]
      obtain ⟨a, ha⟩ : ∃ a : Nat, c = (a : Int) := ⟨c.toNat, by omega⟩
      rw [ha, Int.toNat_natCast]
      exact (Int.natCast_emod a n).symm
    go_enter Tryz.func54, Tryz.ntmps54
    go_wp2
    go_ret
    rw [E.out]
    exact ⟨rfl, rfl⟩
set_option maxHeartbeats 400000 in
theorem same_any (A B : Nat → ByteArray) (n b cap b2 cap2 : Nat) (w : World) (hn : n ≤ 1000) (hA : Cl w b n (tI A)) (hB : Cl w b2 n (tI B)) (h : ∀ i, i < n → A i = B i) :
    Calls Tryz.prog 18 #[.slice (some ⟨b, 0, none⟩) n cap, .slice (some ⟨b2, 0, none⟩) n cap2] w fun e w' => e = .returned (.bool true) ∧ Below w.heap.size w w' := by
  have HA : Hid _ := hA
  have HB : Hid _ := hB
  have H : Hid _ := h
  clear hA hB h
  go_enter Tryz.func18, Tryz.ntmps18
  go_wp2
  go_loopw [5] (fun iv wr => ∃ i q : Nat, i ≤ n ∧ iv = .int .i64 i ∧ wr = w.drewN q) (fun iv _ => n - (intOf iv).toNat)
  case atStart => exact ⟨0, 0, by omega, rfl, rfl⟩
  case round =>
    obtain ⟨i, q, hi, rfl, hq⟩ := hrel
    by_cases hlt : i < n
    · have c1 : wr.cell? ⟨b, i, none⟩ = some (.string (A i)) := by rw [hq]; exact HA.out i hlt
      have c2 : wr.cell? ⟨b2, i, none⟩ = some (.string (A i)) := by rw [hq, H.out i hlt]; exact HB.out i hlt
      have HQ : Hid _ := hq
      clear hq
      have hi0' : (0 : Int) ≤ (i : Int) := by omega
      have hin' : (i : Int) < (n : Int) := by omega
      go_wp2
      go_quiet (fail)
      go_wp2
      go_roundw
      case rel => exact ⟨i + 1, _, by omega, by go_num, by rw [HQ.out, World.drewN_drewN]⟩
      case measure => simp [intOf]; omega
    · go_wp2
      go_ret
      exact ⟨rfl, below_drewN (Below.refl _ _) q⟩
end Go.Proofs.YtadinjaocnlglaaGreatDoor
