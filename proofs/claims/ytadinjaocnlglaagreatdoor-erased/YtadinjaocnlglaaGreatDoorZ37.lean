/-
  The walk of Stock.data.
  The walks of Stock.part and Unpack where all stripes are whole.
  The walks of Stock.part and Unpack where all stripes are whole.
  Plain: a volume that is written is read rightly.
-/
import Derived.Test.YtadinjaocnlglaaGreatDoorZ36
import Derived.Test.YtadinjaocnlglaaGreatDoorZ16
namespace Go.Proofs.YtadinjaocnlglaaGreatDoor
open Go.RowKit
set_option maxRecDepth 100000
set_option maxHeartbeats 8000000
theorem Fr.thenLow {S : Nat → Prop} {w w1 w2 : World} {c : Nat} (h : Fr S w w1) (hb : Below c w1 w2) (hc : w.heap.size ≤ c) : Fr S w w2 :=
  h.trans (S1 := fun j => S j ∨ w.heap.size ≤ j) (fun _ hj => hj) ⟨hb.size, fun j _ hn => hb.block j (Nat.lt_of_lt_of_le (Nat.lt_of_not_le (fun h => hn (.inr h))) hc), ⟨hb.os, hb.tape, hb.output⟩⟩
def DDid (kt : Nat → Int) (B k g p q f : Nat) (T : TT) (un : Value) (ul : List Nat) (rd : Nat → Bool) (bl : Nat → ByteArray) (a b : Nat) (w : World) (e : Ending) (w' : World) : Prop :=
  (∃ (dn' : Nat → Bool) (zs' : Nat → Nat) (bd' : Nat → Value), VS kt B k g p q f T un ul rd bl dn' zs' bd' w') ∧ Fr (fun j => j = q ∨ j = f) w w' ∧
    (((∀ x, a ≤ x → x < b → stF kt T bl (x / (T.L.K * T.L.C)) = 0) ∧ e = .returned (.tuple #[.string ⟨(strS kt T bl a b).toArray⟩, .bool true])) ∨ ((∃ x, a ≤ x ∧ x < b ∧ stF kt T bl (x / (T.L.K * T.L.C)) ≠ 0) ∧ e = .returned (.tuple #[.string ⟨#[]⟩, .bool false])))
theorem data_any (kt : Nat → Int) (B k g p q f a b : Nat) (T : TT) (un : Value) (ul : List Nat) (rd : Nat → Bool) (bl : Nat → ByteArray) (dn : Nat → Bool) (zs : Nat → Nat) (bd : Nat → Value) (w : World) (h : VS kt B k g p q f T un ul rd bl dn zs bd w) (hT : Told1 T) (hle : T.L.es.length ≤ 16 ∧ lenE T.L.es ≤ 4096) (hG : Gd kt w) (hB : B ≤ w.heap.size) (hab : a ≤ b) (hb : b ≤ lenE T.L.es) :
    Calls Tryz.prog 177 #[.pointer (some ⟨k, 0, none⟩), .int .i64 a, .int .i64 b] w fun e w' => DDid kt B k g p q f T un ul rd bl a b w e w' := by
  have H : Hid _ := h
  obtain ⟨aE, kE, num, first, vB, hg, hoE⟩ := h.hd
  have hk1 := hT.k1; have hkm := hT.km; have hc1 := hT.c1; have hc64 := hT.c64; have hcnt := hT.cnt
  obtain ⟨K, hKe⟩ : ∃ x, T.L.K = x := ⟨_, rfl⟩
  obtain ⟨M, hMe⟩ : ∃ x, T.L.M = x := ⟨_, rfl⟩
  obtain ⟨C, hCe⟩ : ∃ x, T.L.C = x := ⟨_, rfl⟩
  obtain ⟨V, hVe⟩ : ∃ x, T.L.V = x := ⟨_, rfl⟩
  have c0 : w.cell? ⟨k, 0, none⟩ = some (.pointer (some ⟨g, 0, none⟩)) := cell_of_row _ _ _ _ 224 _ h.row
  rw [hKe, hMe, hCe, hVe] at hg
  rw [hKe] at hk1 hkm
  rw [hMe] at hkm
  rw [hCe] at hc1 hc64
  have c2 : w.cell? ⟨g, 2, none⟩ = some (.int .i64 K) := cell_of_row _ _ _ _ 319 _ hg
  have c3 : w.cell? ⟨g, 3, none⟩ = some (.int .i64 M) := cell_of_row _ _ _ _ 319 _ hg
  have c4 : w.cell? ⟨g, 4, none⟩ = some (.int .i64 C) := cell_of_row _ _ _ _ 319 _ hg
  have c5 : w.cell? ⟨g, 5, none⟩ = some (.int .i64 V) := cell_of_row _ _ _ _ 319 _ hg
  obtain ⟨z, hz⟩ : ∃ z, K * C = z := ⟨_, rfl⟩
  have hz1 : 1 ≤ z := by rw [← hz]; exact Nat.mul_pos hk1 hc1
  have hz2 : z ≤ 16320 := by rw [← hz]; exact Nat.le_trans (Nat.mul_le_mul (show K ≤ 255 by omega) hc64) (by omega)
  have hzI : (K : Int) * (C : Int) = (z : Int) := by rw [← hz]; simp
  have hzT : T.L.K * T.L.C = z := by rw [hKe, hCe]; exact hz
  obtain ⟨n, hn⟩ : ∃ n, K + M = n := ⟨_, rfl⟩
  have hnT : T.n = n := by unfold TT.n; rw [hKe, hMe]; exact hn
  have hn0 : 0 < T.n := by rw [hnT]; omega
  have hnI : (K : Int) + (M : Int) = (n : Int) := by omega
  obtain ⟨cn, hcn⟩ : ∃ x, T.L.cnt = x := ⟨_, rfl⟩
  have hnsn : T.L.ns * n = cn := by rw [← hcn, ← hnT]; rfl
  rw [hcn] at hcnt
  have hns : ∀ x, x < b → x / z < T.L.ns := fun x hx => by
    have h1 : T.L.ns = nst z (lenE T.L.es) := by unfold LT.ns; rw [hzT]
    rw [h1]
    unfold nst
    rw [Nat.div_lt_iff_lt_mul hz1]
    have h2 := Nat.div_add_mod (lenE T.L.es + z - 1) z
    have h3 := Nat.mod_lt (lenE T.L.es + z - 1) hz1
    rw [Nat.mul_comm] at h2
    omega
  obtain ⟨W, hW⟩ : ∃ W, w.alloc (.cells #[.int .i64 K, .int .i64 M, .int .i64 C, .int .i64 V] 23) = W := ⟨_, rfl⟩
  obtain ⟨Y, hY⟩ : ∃ Y, W.alloc (.cells #[.pointer none, .slice none 0 0] 310) = Y := ⟨_, rfl⟩
  have hbW : Below w.heap.size w W := by rw [← hW]; exact (Below.refl _ _).alloc (Nat.le_refl _) _
  have hbY : Below W.heap.size W Y := by rw [← hY]; exact (Below.refl _ _).alloc (Nat.le_refl _) _
  obtain ⟨P, hP⟩ : ∃ P, w.heap.size = P := ⟨_, rfl⟩
  have hPW : W.heap[P]? = some (.cells #[.int .i64 K, .int .i64 M, .int .i64 C, .int .i64 V] 23 (0, 0)) := by rw [← hW, ← hP]; exact heap_alloc_new _ _
  have hWs : W.heap.size = P + 1 := by rw [← hW, ← hP]; simp
  have hPY : Y.heap[P]? = some (.cells #[.int .i64 K, .int .i64 M, .int .i64 C, .int .i64 V] 23 (0, 0)) := (hbY.block P (by omega)).trans hPW
  have hbld : Bld (P + 1) [] Y := by rw [← hY, ← hWs]; exact Bld.fresh W
  have x0 : W.cell? ⟨P, 0, none⟩ = some (.int .i64 K) := cell_of_row _ _ _ _ 23 _ hPW
  have x2 : W.cell? ⟨P, 2, none⟩ = some (.int .i64 C) := cell_of_row _ _ _ _ 23 _ hPW
  have HY : Hid (Below w.heap.size w Y) := hbW.trans (hbY.mono hbW.size)
  have HPY : Hid _ := hPY
  have HBL : Hid _ := hbld
  have HP : Hid (w.heap.size = P) := hP
  have HWS : Hid _ := hWs
  have HHY : Hid _ := hY
  have HLE : Hid _ := hle
  clear h hg hoE hbW hbY hPW hPY hbld hY hWs
  go_enter Tryz.func177, Tryz.ntmps177
  go_wp2_with fail
  obtain ⟨b0, hb0⟩ : ∃ x, P + 1 = x := ⟨_, rfl⟩
  rw [HHY.out, HWS.out, hb0]
  rw [hb0] at HBL
  have hPb : P < b0 := by omega
  clear x0 x2 c0 c2 c3 c4 c5 hW hb0
  go_loopw [1] (fun xv wr => ∃ (x : Nat) (dn' : Nat → Bool) (zs' : Nat → Nat) (bd' : Nat → Value), a ≤ x ∧ x ≤ b ∧ xv = .int .i64 x ∧ VS kt B k g p q f T un ul rd bl dn' zs' bd' wr ∧ Bld b0 (strS kt T bl a x) wr ∧ wr.heap[P]? = some (.cells #[.int .i64 K, .int .i64 M, .int .i64 C, .int .i64 V] 23 (0, 0)) ∧ Fr (fun j => j = q ∨ j = f) w wr ∧ ∀ y, a ≤ y → y < x → stF kt T bl (y / z) = 0) (fun xv _ => b - (intOf xv).toNat)
  case atStart => exact ⟨a, dn, zs, bd, Nat.le_refl _, hab, rfl, H.out.below HY.out, by rw [show strS kt T bl a a = [] by simp [strS]]; exact HBL.out, HPY.out, Fr.below HY.out, fun y h1 h2 => by omega⟩
  case round =>
    obtain ⟨x, dn1, zs1, bd1, hax, hxb, rfl, hV, hBl, hPr, hF, hok⟩ := hrel
    have HV : Hid _ := hV
    have HBl : Hid _ := hBl
    have HPr : Hid _ := hPr
    have HF : Hid _ := hF
    have HOK : Hid _ := hok
    by_cases hlt : x < b
    · have hlt' : (x : Int) < (b : Int) := by omega
      have hd := wrap_div x z (by omega)
      have hz0 : ((z : Int) == 0) = false := by simp; omega
      obtain ⟨s, hs⟩ : ∃ s, x / z = s := ⟨_, rfl⟩
      rw [hs] at hd
      have hin := in_stripe hz1 hs
      have hsn : s < T.L.ns := by rw [← hs]; exact hns x hlt
      have HST : Hid _ := stripe_any kt B k g p q f s T un ul rd bl dn1 zs1 bd1 wr hV hT HLE.out (H.out.gd hG hF) (Nat.le_trans hB hF.size) hsn
      have HS : Hid _ := hs
      clear hV hBl hPr hF hok hs
      go_wp2_with fail
      refine Calls.mono HST.out ?_
      rintro e w1 ⟨zs2, bd2, rfl, hV2, hF2, _, _⟩
      have hds : updB dn1 s true s = true := by simp [updB]
      obtain ⟨zr, _⟩ := hV2.fn s hsn hds
      obtain ⟨fa, hfa⟩ : ∃ x, stF kt T bl s = x := ⟨_, rfl⟩
      obtain ⟨zq, hzq⟩ : ∃ x, zs2 s = x := ⟨_, rfl⟩
      rw [hfa, hzq] at zr
      rw [hzq]
      have d1 : w1.cell? ⟨zq, 1, none⟩ = some (.int .i64 fa) := cell_of_row _ _ _ _ 231 _ zr
      have HV2 : Hid _ := hV2
      have HFA : Hid _ := hfa
      have HB2 : Hid (Bld b0 (strS kt T bl a x) w1) := HV.out.bld HBl.out hF2
      have HP2 : Hid (w1.heap[P]? = some (.cells #[.int .i64 K, .int .i64 M, .int .i64 C, .int .i64 V] 23 (0, 0))) := by
        show w1.heap[P]? = _
        rw [hF2.old P (Array.getElem?_eq_some_iff.1 HPr.out).1 (fun e => by
          rcases e with e | e
          · exact row_ne HPr.out HV.out.blR (by decide) e
          · exact row_ne HPr.out HV.out.fiR (by decide) e)]
        exact HPr.out
      have HF2 : Hid _ := HF.out.trans' hF2
      clear hV2 hF2 zr hzq hfa
      by_cases hf0 : fa = 0
      · have hf0' : ((fa : Int) != 0) = false := by simp [hf0]
        have HF0 : Hid (stF kt T bl s = 0) := HFA.out.trans hf0
        obtain ⟨bg, hbg⟩ : ∃ y, s * z = y := ⟨_, rfl⟩
        rw [hbg] at hin
        have hbgI : (s : Int) * (z : Int) = (bg : Int) := by rw [← hbg]; simp
        obtain ⟨u, hu⟩ : ∃ y, min b (bg + z) = y := ⟨_, rfl⟩
        have huI : min (b : Int) ((bg : Int) + (z : Int)) = (u : Int) := by omega
        obtain ⟨o, ho⟩ : ∃ y, s * n = y := ⟨_, rfl⟩
        have hoI : (s : Int) * (n : Int) = (o : Int) := by rw [← ho]; simp
        have hon : o + n ≤ cn := by rw [← hnsn, ← ho, ← Nat.succ_mul]; exact Nat.mul_le_mul_right n hsn
        have hoc : o < cn := by omega
        have hsl : ∀ X, (Instr.slice 42 (.slice (some ⟨q, 0, none⟩) cn cn) (some (.int .i64 (o : Nat))) none none).run Tryz.prog X = .ok (.slice (some ⟨q, o, none⟩) (cn - o) (cn - o)) X := fun X => by
          rw [tail_run X q cn o (by omega)]
          unfold tailT
          rw [if_neg (by omega)]
        obtain ⟨rm, hrm⟩ : ∃ y, cn - o = y := ⟨_, rfl⟩
        rw [hrm] at hsl
        have hKr : (K : Int) ≤ (rm : Int) := by omega
        have m3 : w1.cell? ⟨k, 3, none⟩ = some (.slice (some ⟨q, 0, none⟩) cn cn) := by rw [← hcn]; exact cell_of_row _ _ _ _ 224 _ HV2.out.row
        have m0 : w1.cell? ⟨P, 0, none⟩ = some (.int .i64 K) := cell_of_row _ _ _ _ 23 _ HP2.out
        have m1 : w1.cell? ⟨P, 1, none⟩ = some (.int .i64 M) := cell_of_row _ _ _ _ 23 _ HP2.out
        have HBG : Hid _ := hbg
        have HOO : Hid _ := ho
        have HU : Hid _ := hu
        have hs5 : s ≤ 512 := by
          have h1 : s * 1 ≤ s * n := Nat.mul_le_mul_left s (by omega)
          omega
        have hbg2 : bg ≤ 4096 := by omega
        clear hf0 hbg ho hu
        go_wp2_with fail
        go_quiet (fail)
        go_wp2_with fail
        obtain ⟨w2, hw2⟩ : ∃ X, w1.drewN nq = X := ⟨_, rfl⟩
        have hb2 : Below w1.heap.size w1 w2 := by rw [← hw2]; exact below_drewN (Below.refl _ _) _
        rw [hw2]
        have hV3 := HV2.out.below hb2
        have HV3 : Hid _ := hV3
        have HB3 : Hid (Bld b0 (strS kt T bl a x) w2) := Bld.below HB2.out hb2
        have HP3 : Hid (w2.heap[P]? = some (.cells #[.int .i64 K, .int .i64 M, .int .i64 C, .int .i64 V] 23 (0, 0))) := (hb2.block P (Array.getElem?_eq_some_iff.1 HP2.out).1).trans HP2.out
        have HF3 : Hid _ := HF2.out.thenBelow hb2
        have hwk := whole_ok HF0.out
        have hsz : ∀ i, i < n → (stM kt T bl s i).size = C := fun i hi => by rw [← hCe]; exact goodB_size (hwk.1 i (by rw [hnT]; exact hi)).1
        have hcell : ∀ i, i < K → w2.cell? ⟨q, o + i, none⟩ = some (.string (stM kt T bl s i)) := fun i hi => by
          have hc := hV3.blR.cell (o + i) (by rw [hcn]; omega)
          rw [hc]
          show some (Value.string (blD kt T bl (updB dn1 s true) (o + i))) = _
          have hdv := div_of (s := s) (n := T.n) (i := i) (by rw [hnT]; omega)
          rw [show s * T.n + i = o + i by rw [hnT, HOO.out]] at hdv
          unfold blD
          rw [hdv.1, hdv.2, if_pos ⟨hds, HF0.out⟩]
        have HJ : Hid _ := sjoin_any (stM kt T bl s) q o K rm C w2 (Array.getElem?_eq_some_iff.1 hV3.blR).1 (by omega) (by omega) (by omega) (fun i hi => Nat.le_of_eq (hsz i (by omega))) hcell
        have hDz : (stD kt T bl s).size = z := by unfold stD; rw [hKe, ← hz]; exact jT_eq _ C K (fun i hi => hsz i (by omega))
        have hDe : jT (stM kt T bl s) K = stD kt T bl s := by unfold stD; rw [hKe]
        rw [hDe] at HJ
        obtain ⟨lo, hlo⟩ : ∃ y, x - bg = y := ⟨_, rfl⟩
        obtain ⟨hi, hhi⟩ : ∃ y, u - bg = y := ⟨_, rfl⟩
        have hu2 := HU.out
        have hloI : (x : Int) - (bg : Int) = (lo : Int) := by omega
        have hhiI : (u : Int) - (bg : Int) = (hi : Int) := by omega
        have HPC : Hid (((stD kt T bl s).extract lo hi).data.toList = strS kt T bl x u) := by
          have := strS_in (kt := kt) (bl := bl) (s := s) (a := x) (b := u) hzT (by rw [HBG.out]; omega) (by omega) (by rw [HBG.out]; omega) hDz
          rw [HBG.out, hlo, hhi] at this
          exact this
        obtain ⟨D, hD⟩ : ∃ D, stD kt T bl s = D := ⟨_, rfl⟩
        rw [hD] at HJ HPC hDz
        have hsl2 : ∀ X, (Instr.slice 9 (.string D) (some (.int .i64 ((lo : Nat) : Int))) (some (.int .i64 ((hi : Nat) : Int))) none).run Tryz.prog X = .ok (.string (D.extract lo hi)) X := fun X => by
          rw [run_slice_string X 9 D .i64 .i64 _ _ Tryz.underlying9 (by omega) (by omega) (by omega), Int.toNat_natCast, Int.toNat_natCast]
        have hxu : x < u := by omega
        have hub : u ≤ b := by omega
        have hubg : u ≤ bg + z := by omega
        clear hw2 hb2 hV3 hwk hsz hcell hDe hD hlo hhi m0 m1 m3 d1 hsl
        refine Calls.mono HJ.out ?_
        rintro e w3 ⟨rfl, hb3⟩
        have HV4 : Hid _ := HV3.out.below hb3
        have HB4 : Hid (Bld b0 (strS kt T bl a x) w3) := Bld.below HB3.out hb3
        have HP4 : Hid (w3.heap[P]? = some (.cells #[.int .i64 K, .int .i64 M, .int .i64 C, .int .i64 V] 23 (0, 0))) := (hb3.block P (Array.getElem?_eq_some_iff.1 HP3.out).1).trans HP3.out
        have HF4 : Hid _ := HF3.out.thenBelow hb3
        clear hb3
        go_wp2_with fail
        refine Calls.mono (wstr_any b0 (strS kt T bl a x) (D.extract lo hi) w3 HB4.out (by rw [strS_len, ByteArray.size_extract]; omega)) ?_
        rintro e w4 ⟨rfl, hBl4, hB4, hO4⟩
        obtain ⟨cs0, hcs0⟩ := Bld.row HB4.out
        have HV5 : Hid _ := HV4.out.oth hcs0 hO4
        have HP5 : Hid (w4.heap[P]? = some (.cells #[.int .i64 K, .int .i64 M, .int .i64 C, .int .i64 V] 23 (0, 0))) := hO4.row HP4.out (by omega) (by decide)
        have HF5 : Hid _ := HF4.out.thenLow hB4 (by rw [HP.out]; omega)
        have HB5 : Hid (Bld b0 (strS kt T bl a u) w4) := by
          show Bld b0 (strS kt T bl a u) w4
          rw [strS_app kt T bl a x u hax (by omega), ← HPC.out]
          exact hBl4
        clear hBl4 hB4 hO4 hcs0
        go_wp2_with fail
        go_roundw
        case rel => exact ⟨u, _, _, _, by omega, hub, rfl, HV5.out, HB5.out, HP5.out, HF5.out, fun y h1 h2 => by
          by_cases hyx : y < x
          · exact HOK.out y h1 hyx
          · have hy := div_of (s := s) (n := z) (i := y - bg) (by omega)
            rw [show s * z + (y - bg) = y by rw [HBG.out]; omega] at hy
            rw [hy.1]; exact HF0.out⟩
        case measure => simp [intOf]; omega
      · have hf0' : ((fa : Int) != 0) = true := by simp; omega
        have HN0 : Hid (stF kt T bl (x / (T.L.K * T.L.C)) ≠ 0) := by show stF kt T bl (x / (T.L.K * T.L.C)) ≠ 0; rw [hzT, HS.out, HFA.out]; exact hf0
        clear hf0
        go_wp2_with fail
        go_ret2
        exact ⟨⟨_, _, _, HV2.out⟩, HF2.out, .inr ⟨⟨x, hax, hlt, HN0.out⟩, rfl⟩⟩
    · have ex : x = b := by omega
      subst ex
      go_wp2_with fail
      refine Calls.mono (bstr_k b0 b0 _ wr HBl.out (Nat.le_of_lt (Bld.lt HBl.out))) ?_
      rintro e w1 ⟨rfl, _, hB1, hO1⟩
      obtain ⟨cs0, hcs0⟩ := Bld.row HBl.out
      have HV1 : Hid _ := HV.out.oth hcs0 hO1
      have HF1 : Hid _ := HF.out.thenLow hB1 (by rw [HP.out]; omega)
      clear hB1 hO1 hcs0 hV hBl hPr hF hok
      go_wp2_with fail
      go_ret2
      exact ⟨⟨_, _, _, HV1.out⟩, HF1.out, .inl ⟨fun y h1 h2 => by rw [hzT]; exact HOK.out y h1 h2, rfl⟩⟩
end Go.Proofs.YtadinjaocnlglaaGreatDoor
namespace Go.Proofs.YtadinjaocnlglaaGreatDoor
open Go.RowKit
set_option maxRecDepth 100000
set_option maxHeartbeats 8000000
/-- the objects that come out -/
def unO (kt : Nat → Int) (T : TT) (bl : Nat → ByteArray) (j : Nat) : Ob := (nmE T.L.es j, ⟨(strS kt T bl (lenE (T.L.es.take j)) (lenE (T.L.es.take j) + lnE T.L.es j)).toArray⟩)
theorem take_len (es : List (ByteArray × Nat)) (j : Nat) (hj : j < es.length) : lenE (es.take (j + 1)) = lenE (es.take j) + lnE es j := by
  rw [lenE_take es j hj]
  unfold lnE
  rw [List.getElem?_eq_getElem hj]
  rfl
theorem VS.grow {kt : Nat → Int} {B k g p q f : Nat} {T : TT} {un : Value} {ul : List Nat} {rd : Nat → Bool} {bl : Nat → ByteArray} {dn : Nat → Bool} {zs : Nat → Nat} {bd : Nat → Value} {w w2 : World} {B0 n : Nat} {v : Value} {xs : List Value} (h : VS kt B k g p q f T un ul rd bl dn zs bd w) (hv : w.ownsRow B0 72 2 v n xs) (hG : w.grownBy w2 v.ownBlock) : VS kt B k g p q f T un ul rd bl dn zs bd w2 :=
  h.kept (fun j cs t ht hj => by
    rw [hG.block j (Array.getElem?_eq_some_iff.1 hj).1 (fun e => by
      obtain ⟨cur, hcur⟩ := own_type hv j e.symm
      exact row_ne hj hcur (by rcases ht with e | e | e | e | e | e | e <;> simp [e]) rfl)]
    exact hj) (fun j hj => by
    have h3 : ∃ cur, w.heap[j]? = some (.cells cur 3 (0, 0)) := by
      rcases hj with e | ⟨s, hs, hd, e⟩
      · exact own_type h.unO j e
      · exact own_type (h.fn s hs hd).2 j e
    obtain ⟨cur, hcur⟩ := h3
    exact hG.block j (Array.getElem?_eq_some_iff.1 hcur).1 (fun e => by
      obtain ⟨cur', hcur'⟩ := own_type hv j e.symm
      exact row_ne hcur hcur' (by decide) rfl))
end Go.Proofs.YtadinjaocnlglaaGreatDoor
namespace Go.Proofs.YtadinjaocnlglaaGreatDoor
open Go.RowKit
set_option maxRecDepth 100000
set_option maxHeartbeats 8000000
theorem own_pair (w : World) (x y : ByteArray) : (w.alloc (.cells #[.string x, .string y] 72)).ownsRow w.heap.size 72 2 (.slice (some ⟨w.heap.size, 0, none⟩) 1 1) 1 [.string x, .string y] :=
  ⟨rfl, .inr ⟨w.heap.size, 1, #[.string x, .string y], rfl, Nat.le_refl _, heap_alloc_new _ _, Nat.le_refl _, by unfold maxLen; omega, rfl, rfl⟩⟩
/-- one object more -/
theorem own_obj {w : World} {B n : Nat} {v : Value} {F : Nat → Ob} (h : OwnF w B v n F) (hB : B ≤ w.heap.size) (hn : n ≤ 1000000) (x y : ByteArray) : ∃ v' w', (Builtin.append_ #[38, 38] 38 #[v, .slice (some ⟨w.heap.size, 0, none⟩) 1 1]).run Tryz.prog (w.alloc (.cells #[.string x, .string y] 72)) = .ok v' w' ∧ OwnF w' B v' (n + 1) (updF F n (x, y)) ∧ (w.alloc (.cells #[.string x, .string y] 72)).grownBy w' v.ownBlock := by
  obtain ⟨i0, hi0, z0, z1, z2⟩ := info_parts info36
  obtain ⟨v', w', hr, ho, hg, _⟩ := app_rows 38 Tryz.underlying38 hi0 z0 z1 z2 rfl (by decide) (h.alloc (.cells #[.string x, .string y] 72)) (own_pair w x y) (by intro u hu; simp at hu; rcases hu with rfl | rfl <;> rfl) (by omega) (by omega) (by simp; omega)
  refine ⟨v', w', hr, ?_, hg⟩
  unfold OwnF
  rw [objF_next]
  exact ho
def PDid (kt : Nat → Int) (B k g p q f : Nat) (T : TT) (un : Value) (ul : List Nat) (rd : Nat → Bool) (bl : Nat → ByteArray) (w : World) (v : Value) (w' : World) : Prop :=
  (∃ (dn' : Nat → Bool) (zs' : Nat → Nat) (bd' : Nat → Value), VS kt B k g p q f T un ul rd bl dn' zs' bd' w') ∧ Fr (fun j => j = q ∨ j = f) w w' ∧ OwnF w' w.heap.size v T.L.es.length (unO kt T bl)
theorem part_ok (kt : Nat → Int) (B k g p q f : Nat) (T : TT) (un : Value) (ul : List Nat) (rd : Nat → Bool) (bl : Nat → ByteArray) (dn : Nat → Bool) (zs : Nat → Nat) (bd : Nat → Value) (w : World) (h : VS kt B k g p q f T un ul rd bl dn zs bd w) (hT : Told1 T) (hle : T.L.es.length ≤ 16 ∧ lenE T.L.es ≤ 4096) (hG : Gd kt w) (hB : B ≤ w.heap.size) (ha : ∀ s, s < T.L.ns → stF kt T bl s = 0) :
    Calls Tryz.prog 121 #[.pointer (some ⟨k, 0, none⟩)] w fun e w' => ∃ v, e = .returned (.tuple #[v, .slice none 0 0]) ∧ PDid kt B k g p q f T un ul rd bl w v w' := by
  have H : Hid _ := h
  have HA : Hid _ := ha
  obtain ⟨aE, kE, num, first, vB, hg, hoE⟩ := h.hd
  have c0 : w.cell? ⟨k, 0, none⟩ = some (.pointer (some ⟨g, 0, none⟩)) := cell_of_row _ _ _ _ 224 _ h.row
  obtain ⟨ne, hne⟩ : ∃ x, T.L.es.length = x := ⟨_, rfl⟩
  have c6 : w.cell? ⟨g, 6, none⟩ = some (.slice aE ne kE) := by rw [← hne]; exact cell_of_row _ _ _ _ 319 _ hg
  have HEC : Hid (∀ (X : World), Fr (fun j => j = q ∨ j = f) w X → ∀ j, j < ne → ∃ b, aE = some ⟨b, 0, none⟩ ∧ b < X.heap.size ∧ X.cell? ⟨b, j * 2, none⟩ = some (.string (nmE T.L.es j)) ∧ X.cell? ⟨b, j * 2 + 1, none⟩ = some (.int .i64 (lnE T.L.es j))) := fun X hX j hj => by
    have ho : X.ownsRow B 70 2 (.slice aE T.L.es.length kE) T.L.es.length (enV T.L.es) := own_kept' hoE (fun y cs _ hy => by
      rw [hX.old y (Array.getElem?_eq_some_iff.1 hy).1 (fun e => by
        rcases e with e | e
        · exact row_ne hy h.blR (by decide) e
        · exact row_ne hy h.fiR (by decide) e)]
      exact hy)
    exact ent_cellsE rfl ho j (by omega)
  have hne16 : ne ≤ 16 := by rw [← hne]; exact hle.1
  have HLE : Hid _ := hle
  have HNE : Hid _ := hne
  have HLEN : Hid (∀ j, j < ne → lenE (T.L.es.take (j + 1)) = lenE (T.L.es.take j) + lnE T.L.es j ∧ lenE (T.L.es.take (j + 1)) ≤ lenE T.L.es) := fun j hj => ⟨take_len _ _ (by omega), lenE_take_le _ _⟩
  have HOKZ : Hid (∀ x, x < lenE T.L.es → stF kt T bl (x / (T.L.K * T.L.C)) = 0) := fun x hx => by
    refine ha _ ?_
    have hz1 : 0 < T.L.K * T.L.C := Nat.mul_pos hT.k1 hT.c1
    show x / (T.L.K * T.L.C) < nst (T.L.K * T.L.C) (lenE T.L.es)
    unfold nst
    rw [Nat.div_lt_iff_lt_mul hz1]
    have h2 := Nat.div_add_mod (lenE T.L.es + T.L.K * T.L.C - 1) (T.L.K * T.L.C)
    have h3 := Nat.mod_lt (lenE T.L.es + T.L.K * T.L.C - 1) hz1
    rw [Nat.mul_comm] at h2
    omega
  clear h hg hoE ha hne
  go_enter Tryz.func121, Tryz.ntmps121
  go_wp2_with fail
  clear c0 c6
  go_loopw [18, 4, 2, 3] (fun iv fv ov lv wr => ∃ (i : Nat) (dn' : Nat → Bool) (zs' : Nat → Nat) (bd' : Nat → Value) (vo : Value), i ≤ ne ∧ iv = .int .i64 i ∧ fv = .int .i64 (lenE (T.L.es.take i)) ∧ vo = ov ∧ lv = .slice none 0 0 ∧ VS kt B k g p q f T un ul rd bl dn' zs' bd' wr ∧ Fr (fun j => j = q ∨ j = f) w wr ∧ OwnF wr w.heap.size vo i (unO kt T bl)) (fun iv _ _ _ _ => ne - (intOf iv).toNat)
  case atStart => exact ⟨0, dn, zs, bd, _, by omega, rfl, by simp [lenE], rfl, rfl, H.out, Fr.refl _ _, ⟨by simp [objF], .inl ⟨rfl, rfl⟩⟩⟩
  case round =>
    obtain ⟨i, dn1, zs1, bd1, vo, hi, rfl, rfl, rfl, rfl, hV, hF, hO⟩ := hrel
    have HV : Hid _ := hV
    have HF : Hid _ := hF
    have HO : Hid (OwnF wr w.heap.size vo i (unO kt T bl)) := hO
    by_cases hlt : i < ne
    · have hin : (i : Int) < (ne : Int) := by omega
      obtain ⟨be, hbe, hbl, y0, y1⟩ := HEC.out wr hF i hlt
      subst hbe
      obtain ⟨hl1, hl2⟩ := HLEN.out i hlt
      have hl3 := HLE.out.2
      obtain ⟨fi, hfi⟩ : ∃ x, lenE (T.L.es.take i) = x := ⟨_, rfl⟩
      obtain ⟨ln, hln⟩ : ∃ x, lnE T.L.es i = x := ⟨_, rfl⟩
      obtain ⟨nm, hnm⟩ : ∃ x, nmE T.L.es i = x := ⟨_, rfl⟩
      rw [hl1] at hl2
      rw [hfi, hln] at hl2
      rw [hln] at y1
      rw [hnm] at y0
      rw [hfi]
      obtain ⟨W, hW⟩ : ∃ W, wr.alloc (.cells #[.string nm, .int .i64 ln] 70) = W := ⟨_, rfl⟩
      have hbW : Below wr.heap.size wr W := by rw [← hW]; exact (Below.refl _ _).alloc (Nat.le_refl _) _
      obtain ⟨eb, heb⟩ : ∃ x, wr.heap.size = x := ⟨_, rfl⟩
      have hWe : W.heap[eb]? = some (.cells #[.string nm, .int .i64 ln] 70 (0, 0)) := by rw [← hW, ← heb]; exact heap_alloc_new _ _
      have HWE : Hid _ := hWe
      have hVW := hV.below hbW
      have hFW := hF.thenBelow hbW
      have HDA : Hid _ := data_any kt B k g p q f fi (fi + ln) T un ul rd bl dn1 zs1 bd1 W hVW hT HLE.out (H.out.gd hG hFW) (Nat.le_trans hB hFW.size) (by omega) (by omega)
      have HVW : Hid _ := hVW
      have HFW : Hid _ := hFW
      have HOW : Hid (OwnF W w.heap.size vo i (unO kt T bl)) := own_below hO hbW
      have hsum : (fi : Int) + (ln : Int) = ((fi + ln : Nat) : Int) := by simp
      obtain ⟨en, hen⟩ : ∃ x, fi + ln = x := ⟨_, rfl⟩
      rw [hen] at HDA hsum hl2
      have HFI : Hid _ := hfi
      have HLN : Hid _ := hln
      have HNM : Hid _ := hnm
      have HEN : Hid _ := hen
      have HL1 : Hid _ := hl1
      have hi6 : en ≤ 4096 := by omega
      have HHW : Hid _ := hW
      have HEB : Hid _ := heb
      clear hV hF hO hfi hln hnm hbW hWe hVW hFW hen hl1 hW heb
      go_wp2_with fail
      rw [HHW.out, HEB.out]
      refine Calls.mono HDA.out ?_
      rintro e w1 ⟨⟨dn2, zs2, bd2, hV2⟩, hF2, ⟨_, rfl⟩ | ⟨⟨x, hx1, hx2, hx3⟩, _⟩⟩
      · have HV2 : Hid _ := hV2
        have HFF : Hid _ := HFW.out.trans' hF2
        have hold : ∀ (j : Nat) (cs : Array Value) (t : TypeId), t = 70 ∨ t = 72 → W.heap[j]? = some (.cells cs t (0, 0)) → w1.heap[j]? = some (.cells cs t (0, 0)) := fun j cs t ht hj => by
          rw [hF2.old j (Array.getElem?_eq_some_iff.1 hj).1 (fun e => by
            rcases e with e | e
            · exact row_ne hj HVW.out.blR (by rcases ht with e | e <;> simp [e]) e
            · exact row_ne hj HVW.out.fiR (by rcases ht with e | e <;> simp [e]) e)]
          exact hj
        have hE1 := hold _ _ _ (.inl rfl) HWE.out
        have hO1 : OwnF w1 w.heap.size vo i (unO kt T bl) := own_kept' HOW.out (fun j cs _ hj => hold j cs 72 (.inr rfl) hj)
        obtain ⟨D, hD⟩ : ∃ D : ByteArray, (⟨(strS kt T bl fi en).toArray⟩ : ByteArray) = D := ⟨_, rfl⟩
        obtain ⟨v', w2, hr, ho, hgr⟩ := own_obj hO1 HFF.out.size (by omega) nm D
        have z0 : w1.cell? ⟨eb, 0, none⟩ = some (.string nm) := cell_of_row _ _ _ _ 70 _ hE1
        have HRUN : Hid _ := hr
        have hbA : Below w1.heap.size w1 (w1.alloc (.cells #[.string nm, .string D] 72)) := (Below.refl _ _).alloc (Nat.le_refl _) _
        have HV3 : Hid _ := (hV2.below hbA).grow (own_below hO1 hbA) hgr
        have HF3 : Hid (Fr (fun j => j = q ∨ j = f) w w2) := (HFF.out.alloc _).grown hgr (fun y hy => .inr (own_ge hO1 y hy))
        have HO3 : Hid (OwnF w2 w.heap.size v' (i + 1) (unO kt T bl)) := OwnF.congr ho (fun j hj => by
          unfold updF
          by_cases e : j = i
          · subst e
            rw [if_pos rfl]
            show (nm, D) = unO kt T bl j
            unfold unO
            rw [HNM.out, HFI.out, HLN.out, HEN.out, hD]
          · rw [if_neg e])
        obtain ⟨av, cv, hvs⟩ := own_shape hO1
        obtain ⟨av', cv', hvs'⟩ := own_shape ho
        subst hvs hvs'
        rw [hD]
        clear hV2 hF2 hold hE1 hO1 hr ho hgr hbA hD
        go_wp2_with (at_builtin; refine wpList_app rfl (.tmp 34) (.tmp 39) 38 rfl _ _ _ (by simp [Act.eval]) (by simp [Act.eval]) _ HRUN.out ?_)
        refine ⟨⟨i + 1, _, _, _, .slice av' (i + 1) cv', by omega, by go_num, ?_, rfl, rfl, HV3.out, HF3.out, HO3.out⟩, by simp [intOf]; omega⟩
        rw [HL1.out, HFI.out, HLN.out, HEN.out]
      · exact absurd (HOKZ.out x (by omega)) hx3
    · have ei : i = ne := by omega
      subst ei
      clear hV hF hO
      go_wp2_with fail
      go_ret2
      exact ⟨vo, rfl, ⟨_, _, _, HV.out⟩, HF.out, by rw [HNE.out]; exact HO.out⟩
end Go.Proofs.YtadinjaocnlglaaGreatDoor
namespace Go.Proofs.YtadinjaocnlglaaGreatDoor
open Go.RowKit
set_option maxRecDepth 100000
set_option maxHeartbeats 1000000
/-- what a text tells that was written so -/
structure Tld (T : TT) (K M C V v : Nat) (es : List (ByteArray × Nat)) (root lst lv : ByteArray) (l : List UInt8) : Prop where
  ok : T.st.wrong = false
  K : T.L.K = K
  M : T.L.M = M
  C : T.L.C = C
  V : T.L.V = V
  es : T.L.es = es
  num : T.num = v
  root : T.root = root
  lst : T.lst = lst
  lv : T.lv = lv
  ah : Ahd T.st = l
theorem told_enc {t root lst lv : ByteArray} {K M C V v cnt : Nat} {es : List (ByteArray × Nat)} {l : List UInt8} (h : LOk K M C V es) (hr : root.size = 32) (hv : v < V) (hc : nst (K * C) (lenE es) * (K + M) = cnt) (hc2 : cnt ≤ 512) (hlv : lv.size = cnt * 32) (hls : lst.data.toList = lstL K M C V es)
    (ht : t.data.toList = volM.data.toList ++ root.data.toList ++ lst.data.toList ++ vi v ++ lv.data.toList ++ l) : Tld (RS.on t).told K M C V v es root lst lv l := by
  have hw0 : (RS.on t).wrong = false := rfl
  obtain ⟨s0, h0⟩ : ∃ x, (RS.on t).word volM = x := ⟨_, rfl⟩
  obtain ⟨a, ha⟩ : ∃ x, s0.bytes 32 = x := ⟨_, rfl⟩
  obtain ⟨l1, hl⟩ : ∃ x, a.1.list = x := ⟨_, rfl⟩
  obtain ⟨b, hb⟩ : ∃ x, l1.st.num 0 ((l1.V : Int) - 1) = x := ⟨_, rfl⟩
  obtain ⟨c, hcc⟩ : ∃ x, b.1.bytes (l1.cnt * 32) = x := ⟨_, rfl⟩
  have e : (RS.on t).told = if b.1.wrong then ⟨b.1, a.2, l1.st.text.extract a.1.next l1.st.next, l1, b.2, ⟨#[]⟩⟩ else ⟨((if 512 < l1.cnt then b.1.refuse else b.1).bytes (l1.cnt * 32)).1, a.2, l1.st.text.extract a.1.next l1.st.next, l1, b.2, ((if 512 < l1.cnt then b.1.refuse else b.1).bytes (l1.cnt * 32)).2⟩ := by
    rw [← hb, ← hl, ← ha, ← h0]
    rfl
  have ah0 : Ahd (RS.on t) = volM.data.toList ++ (root.data.toList ++ (lst.data.toList ++ (vi v ++ (lv.data.toList ++ l)))) := by
    have : t.data.toList = Ahd (RS.on t) := rfl
    rw [← this, ht]
    simp only [List.append_assoc]
  have r0 := word_enc hw0 ah0
  rw [h0] at r0
  obtain ⟨a1, a2⟩ := bytes_enc r0.ok r0.ah hr
  rw [ha] at a1 a2
  obtain ⟨k1, k2, k3, k4, k5, k6⟩ := list_enc (l := vi v ++ (lv.data.toList ++ l)) a2.ok h (by rw [a2.ah, hls])
  rw [hl] at k1 k2 k3 k4 k5 k6
  obtain ⟨b1, b2⟩ := num_enc (lo := 0) (hi := (l1.V : Int) - 1) k6.ok k6.ah (Nat.zero_le _) (by rw [k4]; omega) (by have := h.v16; omega)
  rw [hb] at b1 b2
  have hcnt : l1.cnt = cnt := by unfold LT.cnt; rw [k1, k2, k3, k5]; exact hc
  obtain ⟨c1, c2⟩ := bytes_enc (n := l1.cnt * 32) b2.ok b2.ah (by rw [hcnt]; exact hlv)
  have hnx : (l1.st.text.extract a.1.next l1.st.next).data.toList = lst.data.toList := by
    have na : Nt a.1 := by rw [← ha, ← h0]; exact bytes_nt (word_nt (Nat.zero_le _) _) _
    have nl : Nt l1.st := by rw [← hl]; exact list_nt na
    have d2 : Ahd a.1 = lst.data.toList ++ Ahd l1.st := by rw [a2.ah, k6.ah]
    have := ahd_len k6.text na (by rw [← k6.text]; exact nl) d2
    rw [ext_list, k6.text, this, show a.1.next + lst.data.toList.length - a.1.next = lst.data.toList.length by omega]
    have d3 : a.1.text.data.toList.drop a.1.next = lst.data.toList ++ Ahd l1.st := d2
    rw [d3, List.take_left]
  rw [e, b2.ok, if_neg (by simp), if_neg (by omega)]
  exact ⟨c2.ok, k1, k2, k3, k4, k5, b1, a1, ba_ext hnx, c1, c2.ah⟩
/-- a volume, as it is written, read -/
structure Wrt (t : ByteArray) (K M C V v : Nat) (es : List (ByteArray × Nat)) (root lst lv ck rest : ByteArray) : Prop where
  tld : Tld (RS.on t).told K M C V v es root lst lv (ck.data.toList ++ rest.data.toList)
  ok : (tCk t).1.wrong = false
  ck : (tCk t).2 = ck
  told : tTold t = volM ++ root ++ lst ++ vint v ++ lv
  rest : tRest t = rest
theorem wrt_enc {t root lst lv ck rest : ByteArray} {K M C V v cnt : Nat} {es : List (ByteArray × Nat)} (h : LOk K M C V es) (hr : root.size = 32) (hv : v < V) (hc : nst (K * C) (lenE es) * (K + M) = cnt) (hc2 : cnt ≤ 512) (hlv : lv.size = cnt * 32) (hls : lst.data.toList = lstL K M C V es) (hk : ck.size = 32)
    (ht : t = volM ++ root ++ lst ++ vint v ++ lv ++ ck ++ rest) : Wrt t K M C V v es root lst lv ck rest := by
  have hl : t.data.toList = volM.data.toList ++ root.data.toList ++ lst.data.toList ++ vi v ++ lv.data.toList ++ (ck.data.toList ++ rest.data.toList) := by
    rw [ht]
    simp only [app_list, vint_list, List.append_assoc]
  have hT := told_enc h hr hv hc hc2 hlv hls hl
  obtain ⟨c1, c2⟩ := bytes_enc hT.ok hT.ah hk
  have hok : (tCk t).1.wrong = false := c2.ok
  obtain ⟨d1, d2⟩ := ck_dec hok
  refine ⟨hT, hok, c1, ?_, ?_⟩
  · apply ba_ext
    rw [d2, hT.root, hT.lst, hT.num, hT.lv]
    simp only [app_list, vint_list]
  · apply ba_ext
    have h3 : (tRest t).data.toList = Ahd (tCk t).1 := by unfold tRest Ahd; rw [ext_end, ck_text]
    rw [h3]
    exact c2.ah
theorem wrt_rd {kt : Nat → Int} {t root lst lv ck rest : ByteArray} {K M C V v cnt : Nat} {es : List (ByteArray × Nat)} (h : Wrt t K M C V v es root lst lv ck rest) (hc : nst (K * C) (lenE es) * (K + M) = cnt) (hs : t.size ≤ 60000) (hk : ck = ofT kt (⟨#[3]⟩ ++ (volM ++ root ++ lst ++ vint v ++ lv))) (hr : root = rootT (ofT kt) lst cnt (pc lv 32)) (hz : rest.size ≤ ((v + 1) * cnt / V - v * cnt / V) * C) : rdE kt t = none := by
  have hcnt : (RS.on t).told.L.cnt = cnt := by unfold LT.cnt; rw [h.tld.K, h.tld.M, h.tld.C, h.tld.es]; exact hc
  unfold rdE
  rw [if_neg (by omega), if_neg (by rw [h.ok]; simp), if_pos (by rw [h.ck, h.told]; exact hk), if_pos (by rw [h.tld.root, h.tld.lst, hcnt, h.tld.lv]; exact hr), if_neg]
  unfold TT.size TT.first
  rw [h.rest, h.tld.num, hcnt, h.tld.V, h.tld.C]
  omega
end Go.Proofs.YtadinjaocnlglaaGreatDoor
