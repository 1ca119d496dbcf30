/-
  The walk of vaultkeep.Erased, the root known.
-/
import Derived.Test.YtadinjaocnlglaaGreatDoorZ47
import Derived.Test.YtadinjaocnlglaaGreatDoorZ46
namespace Go.Proofs.YtadinjaocnlglaaGreatDoor
open Go.RowKit
set_option maxRecDepth 100000
set_option maxHeartbeats 4000000
theorem erasedL_true (kt : Nat → Int) (k m c v : Int) (xa aa ba : Option Addr) (nx xc na ac nb bc : Nat) (w : World) (k0 : -9223372036854775808 ≤ k) (k1 : k ≤ 9223372036854775807) (m0 : -9223372036854775808 ≤ m) (m1 : m ≤ 9223372036854775807) (c0 : -9223372036854775808 ≤ c) (c1 : c ≤ 9223372036854775807) (v0 : -9223372036854775808 ≤ v) (v1 : v ≤ 9223372036854775807)
    (hnx : nx ≤ 140737488355328) (hna : na ≤ 140737488355328) (hX : Raw w xa nx) (hA : Lss w aa na) (hB : Ints w ba nb) (hG : Gd kt w) :
    Calls Tryz.prog 8 #[.agg #[.int .i64 k, .int .i64 m, .int .i64 c, .int .i64 v], .slice xa nx xc, .slice aa na ac, .slice ba nb bc, .bool true] w fun e w' => e = .returned (.bool true) ∧ Below w.heap.size w w' := by
  have H4 : Hid (∀ W, _) := fun W => params_any k m c v W k0 k1 m0 m1 c0 c1 v0 v1
  have hK := pk_lt k 5 (by omega)
  have hM := pk_lt m 4 (by omega)
  have hC := pk_lt c 8 (by omega)
  have hV := pk_lt v 5 (by omega)
  obtain ⟨K, eK⟩ : ∃ K, 1 + pk k 5 = K := ⟨_, rfl⟩
  obtain ⟨M, eM⟩ : ∃ M, pk m 4 = M := ⟨_, rfl⟩
  obtain ⟨C, eC⟩ : ∃ C, 1 + pk c 8 = C := ⟨_, rfl⟩
  obtain ⟨V, eV⟩ : ∃ V, 1 + pk v 5 = V := ⟨_, rfl⟩
  rw [eK, eM, eC, eV] at H4
  have hK1 : 1 ≤ K := by omega
  have hK2 : K ≤ 5 := by omega
  have hM1 : M ≤ 3 := by omega
  have hC1 : 1 ≤ C := by omega
  have hC2 : C ≤ 8 := by omega
  have hV1 : 1 ≤ V := by omega
  have hV2 : V ≤ 5 := by omega
  have HX : Hid (Raw w xa nx) := hX
  have HA : Hid (Lss w aa na) := hA
  have HB : Hid (Ints w ba nb) := hB
  have HG : Hid (Gd kt w) := hG
  have hw4 := hG.one
  clear eK eM eC eV hK hM hC hV k0 k1 m0 m1 c0 c1 v0 v1 hX hA hB hG
  unfold pV at H4
  go_enter Tryz.func8, Tryz.ntmps8
  go_wp2_with fail
  refine Calls.mono (H4.out _) ?_
  rintro e s1 ⟨rfl, hb1⟩
  have HB1 : Hid (Below w.heap.size w s1) := by
    have h0 : Below w.heap.size w (w.alloc (Obj.cells #[Value.int IntKind.i64 k, Value.int IntKind.i64 m, Value.int IntKind.i64 c, Value.int IntKind.i64 v] 23)) := (Below.refl _ _).alloc (Nat.le_refl _) _
    exact h0.trans (hb1.mono h0.size)
  clear hb1 H4
  go_wp2_with fail
  obtain ⟨s2, hs2⟩ : ∃ s2, s1.alloc (Obj.cells #[Value.int IntKind.i64 K, Value.int IntKind.i64 M, Value.int IntKind.i64 C, Value.int IntKind.i64 V] 23) = s2 := ⟨_, rfl⟩
  have HP2 : Hid (s2.heap[s1.heap.size]? = some (.cells #[.int .i64 K, .int .i64 M, .int .i64 C, .int .i64 V] 23 (0, 0))) := by show _ = _; rw [← hs2]; exact heap_alloc_new _ _
  have HB2 : Hid (Below w.heap.size w s2) := by show Below _ _ _; rw [← hs2]; exact HB1.out.alloc HB1.out.size _
  have hpl : s1.heap.size < s2.heap.size := by rw [← hs2]; simp
  rw [hs2]
  obtain ⟨pb, hpb⟩ : ∃ pb, s1.heap.size = pb := ⟨_, rfl⟩
  rw [hpb] at HP2 hpl ⊢
  clear hs2 hpb HB1
  refine (objects_any xa nx xc s2 hnx (HX.out.below HB2.out)).mono ?_
  rintro e s3 ⟨vl, q0, F, rfl, hO3, hq, hS, hb3⟩
  obtain ⟨la, lc, hvl⟩ := own_shape hO3
  subst hvl
  have HO3 : Hid (OwnF s3 s2.heap.size (.slice la q0 lc) q0 F) := hO3
  have HS : Hid (Srt q0 F) := hS
  have HB3 : Hid (Below w.heap.size w s3) := HB2.out.trans (hb3.mono HB2.out.size)
  have HP3 : Hid (s3.heap[pb]? = some (.cells #[.int .i64 K, .int .i64 M, .int .i64 C, .int .i64 V] 23 (0, 0))) := by show _ = _; rw [hb3.block pb hpl]; exact HP2.out
  clear hO3 hS hb3 HP2 HB2
  have p0 : s3.cell? ⟨pb, 0, none⟩ = some (.int .i64 K) := cell_of_row _ _ _ _ 23 _ HP3.out
  have p1 : s3.cell? ⟨pb, 1, none⟩ = some (.int .i64 M) := cell_of_row _ _ _ _ 23 _ HP3.out
  have p2 : s3.cell? ⟨pb, 2, none⟩ = some (.int .i64 C) := cell_of_row _ _ _ _ 23 _ HP3.out
  have p3 : s3.cell? ⟨pb, 3, none⟩ = some (.int .i64 V) := cell_of_row _ _ _ _ 23 _ HP3.out
  have H6 : Hid _ := packed_any kt K M C V q0 lc 0 0 s2.heap.size la none F s3 hK1 hK2 hM1 hC1 hC2 hV1 hV2 hq HO3.out HS.out (fun i hi => absurd hi (by omega)) (HG.out.below HB3.out)
  unfold pV at H6
  obtain ⟨RO, hR⟩ : ∃ RO, rtT kt K M C V (datOf F q0) (nmF F q0) = RO := ⟨_, rfl⟩
  obtain ⟨VO, hVO⟩ : ∃ VO, voT kt K M C V (datOf F q0) (nmF F q0) = VO := ⟨_, rfl⟩
  rw [hR, hVO] at H6
  have HRE : Hid _ := hR
  have HVO : Hid _ := hVO
  clear hR hVO
  go_wp2_with fail
  refine Calls.mono H6.out ?_
  rintro e s4 ⟨g4, rfl, h41, h42, h43⟩
  have hpl3 : pb < s3.heap.size := (Array.getElem?_eq_some_iff.1 HP3.out).1
  have HP4 : Hid (s4.heap[pb]? = some (.cells #[.int .i64 K, .int .i64 M, .int .i64 C, .int .i64 V] 23 (0, 0))) := by show _ = _; rw [h43.block pb hpl3]; exact HP3.out
  have HO4 : Hid (OwnF s4 s2.heap.size (.slice la q0 lc) q0 F) := HO3.out.low (fun r hr => own_lt HO3.out r hr) h43
  have HB4 : Hid (Below w.heap.size w s4) := HB3.out.trans (h43.mono HB3.out.size)
  have HR4 : Hid (VRw s4 g4 V VO) := rw_vr h42
  have hVOk := srt_ok HS.out hK1 hK2 hM1 hC1 hC2 hV1 hV2 hq
  have hns0 := nst_len (K * C) (smF F q0).size hVOk.z
  have hsm := sm_le HS.out
  have hsm2 : (smF F q0).size ≤ 60 := by omega
  have hnsE : nst (K * C) (smF F q0).size * (K + M) = nbT K M C (smF F q0) := rfl
  have hc512 := hVOk.c512
  have hVOe : ∀ u, VO u = hdE kt K M C V (esF F q0) (smF F q0) u ++ reE K M C V (smF F q0) u := fun u => by rw [← HVO.out]; exact vo_eq HS.out kt K M C V u
  have hhd : ∀ u, (hdE kt K M C V (esF F q0) (smF F q0) u).size ≤ 30000 := fun u => hVOk.hd_le kt u
  have hre : ∀ u, u < V → (reE K M C V (smF F q0) u).size = ((u + 1) * nbT K M C (smF F q0) / V - u * nbT K M C (smF F q0) / V) * C := fun u hu => (hVOk.rest hu).1
  have hwi := hVOk.wi (nst (K * C) (smF F q0).size)
  have hbl : ∀ u, u < V → ∀ i, u * nbT K M C (smF F q0) / V + i < (u + 1) * nbT K M C (smF F q0) / V → pc (reE K M C V (smF F q0) u) C i = bkT K M C (smF F q0) (u * nbT K M C (smF F q0) / V + i) := fun u hu i hi => (hVOk.rest hu).2 i (by omega)
  have HEP : Hid _ := @erased_plain kt F q0 K M C V HS.out hK1 hK2 hM1 hC1 hC2 hV1 hV2 hq
  obtain ⟨la', lc', hle, hLc⟩ := OwnF.cells HO4.out
  obtain ⟨rfl, rfl⟩ : la = la' ∧ lc = lc' := by simpa using hle
  have hfitB : ∀ u, u < V → ((u + 1) * nbT K M C (smF F q0) / V - u * nbT K M C (smF F q0) / V) * C ≤ 512 * 8 := fun u hu => by
    have h1 := rng_top (nb := nbT K M C (smF F q0)) (v := u + 1) hV1 (by omega)
    generalize u * nbT K M C (smF F q0) / V = A
    generalize (u + 1) * nbT K M C (smF F q0) / V = E at h1 ⊢
    exact Nat.mul_le_mul (by omega) hC2
  have H30 : Hid _ := planned_any F q0 lc la K M C V g4 V VO s4 hK1 hK2 hM1 hC1 hC2 hV1 hV2 (by omega) (fun j hj => by have := (HS.out.sz j hj).2.2; omega) (by omega) hLc (fun u hu => HR4.out.cell hu) (fun u hu => by rw [hVOe, ByteArray.size_append, hre u hu]; omega) (fun u hu => by rw [hVOe, ByteArray.size_append, hre u hu]; have := hfitB u hu; have := hhd u; omega)
  have hpl0 : ∀ u, u < V → plN VO V (nbT K M C (smF F q0)) C u = (hdE kt K M C V (esF F q0) (smF F q0) u).size := fun u hu => by unfold plN; rw [hVOe u, ByteArray.size_append, hre u hu, Nat.add_sub_cancel]
  obtain ⟨ns, hns⟩ : ∃ ns, nst (K * C) (smF F q0).size = ns := ⟨_, rfl⟩
  obtain ⟨cn, hcn⟩ : ∃ cn, nbT K M C (smF F q0) = cn := ⟨_, rfl⟩
  obtain ⟨BK, hBK⟩ : ∃ BK, bkT K M C (smF F q0) = BK := ⟨_, rfl⟩
  obtain ⟨HD, hHD⟩ : ∃ HD, hdE kt K M C V (esF F q0) (smF F q0) = HD := ⟨_, rfl⟩
  obtain ⟨RE, hRE⟩ : ∃ RE, reE K M C V (smF F q0) = RE := ⟨_, rfl⟩
  rw [hcn] at hnsE hc512 hre hwi hbl hfitB H30 HEP hpl0
  rw [hns] at hnsE hns0 hwi H30 HEP
  rw [hBK] at hwi hbl HEP
  rw [hHD] at hVOe hhd HEP hpl0
  rw [hRE] at hVOe hre hwi hbl
  obtain ⟨pl, hpl1⟩ : ∃ pl, plN VO V cn C = pl := ⟨_, rfl⟩
  rw [hpl1] at H30 hpl0
  have HPL : Hid _ := hpl0
  have HVE : Hid _ := hVOe
  have HHD : Hid _ := hhd
  have HRS : Hid _ := hre
  have HBL : Hid _ := hbl
  have HWI : Hid _ := hwi
  have HBD : Hid (Bd K M C V ns cn pl) := ⟨hK1, hK2, hM1, hC1, hC2, hV1, hV2, hc512, hnsE, by omega, fun u hu => by rw [hpl0 u hu]; have := hhd u; omega⟩
  have hcn5 : cn ≤ 512 := hc512
  clear hVOk hns0 hsm hsm2 hnsE hc512 hVOe hhd hre hwi hbl hLc hle hfitB hpl0 hns hcn hBK hHD hRE hpl1 h41 h42 h43 p0 p1 p2 p3 HP3 HO3 HB3 H6
  have p0 : s4.cell? ⟨pb, 0, none⟩ = some (.int .i64 K) := cell_of_row _ _ _ _ 23 _ HP4.out
  have p1 : s4.cell? ⟨pb, 1, none⟩ = some (.int .i64 M) := cell_of_row _ _ _ _ 23 _ HP4.out
  have p2 : s4.cell? ⟨pb, 2, none⟩ = some (.int .i64 C) := cell_of_row _ _ _ _ 23 _ HP4.out
  have p3 : s4.cell? ⟨pb, 3, none⟩ = some (.int .i64 V) := cell_of_row _ _ _ _ 23 _ HP4.out
  go_wp2_with fail
  refine Calls.mono H30.out ?_
  rintro e s5 ⟨x, gf, cf, gp, cp, rfl, hP5, hb5, hx5, hgf5, hgp5⟩
  have HP5 : Hid (Pln x gf cf gp cp K M C V ns cn pl s5) := hP5
  have HB5 : Hid (Below s4.heap.size s4 s5) := hb5
  clear hP5 hb5 hx5 hgf5 hgp5 H30 p0 p1 p2 p3 HP4
  go_wp2_with fail
  refine Calls.mono (sound_any x gf cf gp cp K M C V ns cn pl s5 HP5.out (by omega) (fun u hu => by have := HBD.out.bpl u hu; omega)) ?_
  rintro e s6 ⟨rfl, m6, hs6⟩
  have HP6 : Hid (Pln x gf cf gp cp K M C V ns cn pl s6) := by show Pln _ _ _ _ _ _ _ _ _ _ _ _ _; rw [hs6]; exact HP5.out.kept (fun _ _ => rfl)
  have HB6 : Hid (Below s4.heap.size s4 s6) := by show Below _ _ _; rw [hs6]; exact below_drewN HB5.out m6
  clear hs6 HP5 HB5
  go_wp2_with fail
  refine Calls.mono (wrecked_any x gf cf gp cp K M C V ns cn pl s6 HP6.out hV1 hV2 hcn5) ?_
  rintro e s7 ⟨wb, gl, go, gc, cc, rfl, hW7, hb7⟩
  have HB7 : Hid (Below s4.heap.size s4 s7) := HB6.out.trans (hb7.mono HB6.out.size)
  have HR7 : Hid (VRw s7 g4 V VO) := VRw.kept HR4.out (HB7.out.block g4 (VRw.lt HR4.out))
  have hHi := hW7.hi
  have h64 := HB6.out.size
  have h4w := HB4.out.size
  have HEL0 : Hid (EL HD BK s6.heap.size wb gl go gc cc x gf cf gp cp K M C V ns cn g4 pl s7 (fun _ => false) (fun _ => false) (fun u => (u + 1) * cn / V) VO RE s7) := ⟨hW7, HR7.out, HWI.out, fun u _ => HVE.out u, Fr.refl _ _⟩
  have HLOW : Hid (∀ W, Fr (Q3 gl go gc) s7 W → Below s4.heap.size s4 W ∧ Below w.heap.size w W) := fun W hF => by
    have h1 : Below s4.heap.size s7 W := hF.lowB s4.heap.size HB7.out.size (fun j hj e => by rcases e with e | e | e <;> omega)
    have h2 : Below s4.heap.size s4 W := HB7.out.trans h1
    exact ⟨h2, HB4.out.trans (h2.mono HB4.out.size)⟩
  clear hW7 hb7 HP6 HR7 HWI
  go_wp2_with fail
  go_loopw [18, 19] (fun hv iv wr => ∃ (i gh ch : Nat) (lost out : Nat → Bool) (cut : Nat → Nat) (L R : Nat → ByteArray), i ≤ na ∧ hv = .slice (some ⟨gh, 0, none⟩) V ch ∧ iv = .int .i64 i ∧ EL HD BK s6.heap.size wb gl go gc cc x gf cf gp cp K M C V ns cn gh pl s7 lost out cut L R wr) (fun _ iv _ => na - (intOf iv).toNat)
  case atStart => exact ⟨0, g4, V, _, _, _, _, _, by omega, rfl, rfl, HEL0.out⟩
  case round =>
    obtain ⟨i, gh, ch, lost, out, cut, L, R, hi, rfl, rfl, hEL⟩ := hrel
    have HEL : Hid (EL HD BK s6.heap.size wb gl go gc cc x gf cf gp cp K M C V ns cn gh pl s7 lost out cut L R wr) := hEL
    clear hEL HEL0
    obtain ⟨h4r, hwr⟩ := HLOW.out wr HEL.out.2.2.2.2
    have H4R : Hid (Below s4.heap.size s4 wr) := h4r
    have HWR : Hid (Below w.heap.size w wr) := hwr
    clear h4r hwr
    by_cases hlt : i < na
    · have hin : (i : Int) < (na : Int) := by omega
      obtain ⟨lb, off, kk, mm, tt, ha, hlb, z0, z1, z2, r0, r1, r2⟩ := HA.out i hlt
      subst ha
      replace z0 : wr.cell? ⟨lb, off + i * 3, none⟩ = some (.int .i64 kk) := (HWR.out.cell (p := ⟨lb, off + i * 3, none⟩) hlb).trans z0
      replace z1 : wr.cell? ⟨lb, off + i * 3 + 1, none⟩ = some (.int .i64 mm) := (HWR.out.cell (p := ⟨lb, off + i * 3 + 1, none⟩) hlb).trans z1
      replace z2 : wr.cell? ⟨lb, off + i * 3 + 2, none⟩ = some (.int .i64 tt) := (HWR.out.cell (p := ⟨lb, off + i * 3 + 2, none⟩) hlb).trans z2
      have HTK : Hid _ := takes_any (cv := ch) HEL.out.1 HBD.out HEL.out.2.1 (el_sz HPL.out HEL.out.2.2.1 HEL.out.2.2.2.1) kk mm tt r0.1 r0.2 r1.1 r1.2 r2.1 r2.2
      clear r0 r1 r2
      go_wp2_with fail
      refine Calls.mono HTK.out ?_
      intro e w' hT
      obtain ⟨lost', out', cut', L', R', g', c', rfl, hEL'⟩ := EL.takes HPL.out HEL.out hT
      have HEL' : Hid _ := hEL'
      clear hT hEL' HTK
      go_wp2_with fail
      go_roundw
      case rel => exact ⟨i + 1, g', c', lost', out', cut', L', R', by omega, rfl, by go_num, HEL'.out⟩
      case measure => simp [intOf]; omega
    · have hin : ¬ (i : Int) < (na : Int) := by omega
      obtain ⟨wl, hwl⟩ : ∃ wl, wl = wr := ⟨_, rfl⟩
      rw [← hwl] at HEL H4R HWR ⊢
      clear hwl
      go_wp2_with fail
      clear hlt hin hi
      go_loopw [20] (fun iv wr => ∃ n : Nat, n ≤ cn ∧ iv = .int .i64 n ∧ (∀ u j, u < V → u * cn / V + j < (u + 1) * cn / V → u * cn / V + j < n → leafT (ofT kt) (BK (u * cn / V + j)) = leafT (ofT kt) (pc (R u) C j) → BK (u * cn / V + j) = pc (R u) C j) ∧ Below wl.heap.size wl wr) (fun iv _ => cn - (intOf iv).toNat)
      case atStart => exact ⟨0, by omega, rfl, fun u j _ _ h => absurd h (Nat.not_lt_zero _), Below.refl _ _⟩
      case round =>
        obtain ⟨n, hn, rfl, hno, hbr⟩ := hrel
        have HNO : Hid _ := hno
        have HBR : Hid (Below wl.heap.size wl wr) := hbr
        clear hno hbr
        have HWK : Hid (Wrk s6.heap.size wb gl go gc cc x gf cf gp cp K M C V ns cn pl lost out cut wr) := HEL.out.1.below HBR.out
        have HVH : Hid (VRw wr gh V L) := VRw.kept HEL.out.2.1 (HBR.out.block gh (VRw.lt HEL.out.2.1))
        have H48 : Hid (Below s4.heap.size s4 wr) := H4R.out.trans (HBR.out.mono H4R.out.size)
        have HW8 : Hid (Below w.heap.size w wr) := HWR.out.trans (HBR.out.mono HWR.out.size)
        have HV4 : Hid (VRw wr g4 V VO) := VRw.kept HR4.out (H48.out.block g4 (VRw.lt HR4.out))
        have c5 : wr.cell? ⟨x, 5, none⟩ = some (.int .i64 cn) := cell_of_row _ _ _ _ 84 _ HWK.out.pln.row
        have HSZ : Hid (∀ u, u < V → (L u).size = pl u + ((u + 1) * cn / V - u * cn / V) * C) := el_sz HPL.out HEL.out.2.2.1 HEL.out.2.2.2.1
        by_cases hlt2 : n < cn
        · have hin2 : (n : Int) < (cn : Int) := by omega
          obtain ⟨u, hu, hu1, hu2⟩ := in_range cn V n V (by rw [Nat.mul_div_cancel_left _ (by omega)]; exact hlt2)
          have hf1 : (n - u * cn / V) * C + C ≤ ((u + 1) * cn / V - u * cn / V) * C := by rw [← Nat.succ_mul]; exact Nat.mul_le_mul_right _ (by omega)
          have hpb := HBD.out.bpl u hu
          have hB1 := block_any x gf cf gp cp K M C V ns cn n u g4 V pl VO wr HWK.out.pln (by omega) (by omega) (by omega) hu hu1 hu2 (by omega) (fun v hv => VRw.cell HV4.out hv) (by rw [HVE.out u, ByteArray.size_append, HRS.out u hu, HPL.out u hu]; omega)
          have hB2 : ∀ j, _ := fun j => block_any x gf cf gp cp K M C V ns cn n u gh ch pl L (wr.drewN j) (Wrk.drewN HWK.out j).pln (by omega) (by omega) (by omega) hu hu1 hu2 (by omega) (fun v hv => VRw.cell (VRw.drewN HVH.out j) hv) (by rw [HSZ.out u hu]; omega)
          have hun : u * cn / V + (n - u * cn / V) = n := by omega
          have e1 : bkO (VO u) (pl u) C (n - u * cn / V) = BK n := by
            unfold bkO
            rw [HVE.out u, HPL.out u hu, bk_hd, HBL.out u hu _ (by omega), hun]
          have e2 : bkO (L u) (pl u) C (n - u * cn / V) = pc (R u) C (n - u * cn / V) := by
            unfold bkO
            rw [HEL.out.2.2.2.1 u hu, HPL.out u hu, bk_hd]
          have q1 : (BK n).size ≤ 1000000 := by rw [← hun, ← HBL.out u hu _ (by omega)]; exact Nat.le_trans (pc_le _ _ _) (by omega)
          have q2 : (pc (R u) C (n - u * cn / V)).size ≤ 1000000 := Nat.le_trans (pc_le _ _ _) (by omega)
          rw [e1] at hB1
          have HB1 : Hid _ := hB1
          have HB2 : Hid (∀ j, Calls Tryz.prog 35 #[.pointer (some ⟨x, 0, none⟩), .slice (some ⟨gh, 0, none⟩) V ch, .int .i64 n] (wr.drewN j) fun e w' => e = .returned (.string (pc (R u) C (n - u * cn / V))) ∧ ∃ m, w' = (wr.drewN j).drewN m) := fun j => by rw [← e2]; exact hB2 j
          have HCL : Hid (∀ j, _) := fun j => clash_any kt (BK n) (pc (R u) C (n - u * cn / V)) (wr.drewN j) ((HG.out.below HW8.out).below (below_drewN (Below.refl _ _) j)) q1 q2
          have HST : Hid (decide (BK n ≠ pc (R u) C (n - u * cn / V) ∧ leafT (ofT kt) (BK n) = leafT (ofT kt) (pc (R u) C (n - u * cn / V))) = false → ∀ u' j, u' < V → u' * cn / V + j < (u' + 1) * cn / V → u' * cn / V + j < n + 1 → leafT (ofT kt) (BK (u' * cn / V + j)) = leafT (ofT kt) (pc (R u') C j) → BK (u' * cn / V + j) = pc (R u') C j) := fun hd u' j hu' hj hlt hlf => by
            by_cases en : u' * cn / V + j = n
            · have eu : u' = u := by
                rcases Nat.lt_trichotomy u' u with e | e | e
                · have := rng_mono (cnt := cn) (V := V) e; omega
                · exact e
                · have := rng_mono (cnt := cn) (V := V) e; omega
              subst eu
              have ej : j = n - u' * cn / V := by omega
              rw [en] at hlf ⊢
              rw [ej] at hlf ⊢
              have := of_decide_eq_false hd
              exact Classical.byContradiction (fun h => this ⟨h, hlf⟩)
            · exact HNO.out u' j hu' hj (by omega) hlf
          obtain ⟨db, hdb⟩ : ∃ db, decide (BK n ≠ pc (R u) C (n - u * cn / V) ∧ leafT (ofT kt) (BK n) = leafT (ofT kt) (pc (R u) C (n - u * cn / V))) = db := ⟨_, rfl⟩
          obtain ⟨PB, hPB⟩ : ∃ PB, pc (R u) C (n - u * cn / V) = PB := ⟨_, rfl⟩
          obtain ⟨BN, hBN⟩ : ∃ BN, BK n = BN := ⟨_, rfl⟩
          rw [hPB, hBN] at HST HCL hdb
          rw [hBN] at HB1
          rw [hPB] at HB2
          rw [hdb] at HST HCL
          clear hB1 hB2 e1 e2 q1 q2 hun hPB hBN hdb hu hu1 hu2 hf1 hpb
          go_wp2_with fail
          refine Calls.mono HB1.out ?_
          rintro e w1 ⟨rfl, m1, rfl⟩
          go_wp2_with fail
          refine Calls.mono (HB2.out _) ?_
          rintro e w2 ⟨rfl, m2, hw2⟩
          rw [World.drewN_drewN] at hw2
          subst hw2
          go_wp2_with fail
          refine Calls.mono (HCL.out _) ?_
          rintro e w3 ⟨rfl, hb3⟩
          have HB3 : Hid (Below wl.heap.size wl w3) := by
            have h1 : Below wr.heap.size wr (wr.drewN (m1 + m2)) := below_drewN (Below.refl _ _) _
            exact HBR.out.trans ((h1.trans (hb3.mono h1.size)).mono HBR.out.size)
          have HWW : Hid (Below w.heap.size w w3) := HWR.out.trans (HB3.out.mono HWR.out.size)
          clear hb3 HB1 HB2 HCL
          cases db
          · have HN2 : Hid _ := HST.out rfl
            clear HST
            go_wp2_with fail
            go_roundw
            case rel => exact ⟨n + 1, by omega, by go_num, HN2.out, HB3.out⟩
            case measure => simp [intOf]; omega
          · go_wp2_with fail
            go_ret
            exact ⟨rfl, HWW.out⟩
        · have hin2 : ¬ (n : Int) < (cn : Int) := by omega
          have hnn : n = cn := by omega
          have HNN : Hid (∀ u j, u < V → u * cn / V + j < (u + 1) * cn / V → leafT (ofT kt) (BK (u * cn / V + j)) = leafT (ofT kt) (pc (R u) C j) → BK (u * cn / V + j) = pc (R u) C j) := fun u j hu hj => HNO.out u j hu hj (by
            have := rng_top (nb := cn) (v := u + 1) hV1 (by omega)
            omega)
          have HRT : Hid _ := rest_any (cv := ch) HWK.out hV2 hC2 (by omega) (fun u hu => HBD.out.bpl u hu) HVH.out HEL.out.2.2.1.lo HEL.out.2.2.1.hi HSZ.out
          clear hn hnn HNO hlt2
          go_wp2_with fail
          refine Calls.mono HRT.out ?_
          rintro e s9 ⟨v9, H9, n9, rfl, hO9, hT9, hb9⟩
          have hn9 : n9 = (kpL out V).length := by have := congrArg List.length hT9; simpa [texL] using this
          have hn90 : 0 < n9 := by
            obtain ⟨u, hu, ho⟩ := HEL.out.2.2.1.left
            have := List.length_pos_of_mem (kpL_mem.2 ⟨hu, ho⟩)
            omega
          have hn95 : n9 ≤ 5 := by have := kpL_len out V; omega
          obtain ⟨g9, cap9, rfl, hg9, hg9l, hC9⟩ := own_row9 hO9 hn90
          have H49 : Hid (Below s4.heap.size s4 s9) := H48.out.trans (hb9.mono H48.out.size)
          have HW9 : Hid (Below w.heap.size w s9) := HW8.out.trans (hb9.mono HW8.out.size)
          have HTT : Hid ((texL H9 n9) = (kpL out V).map (fun u => HD u ++ (R u).extract 0 ((cut u - u * cn / V) * C))) := by
            show _ = _
            rw [hT9]
            apply List.map_congr_left
            intro u hu
            have hu' := (kpL_mem.1 hu).1
            unfold rsT
            rw [HEL.out.2.2.2.1 u hu', HPL.out u hu', ext_hd]
          have HMX : Hid _ := mixed_any H9 (some ⟨g9, 0, none⟩) ba n9 cap9 nb bc s9 (by omega) hn90 (.inr ⟨_, rfl, fun i hi => ⟨g9, 0, rfl, hg9l, by rw [Nat.zero_add]; exact hC9 i hi⟩⟩) (HB.out.below HW9.out)
          have HN9 : Hid _ := hn9
          clear hn9 hO9 hT9 hb9 hg9 hg9l hC9 HRT HWK HVH HSZ c5
          go_wp2_with fail
          refine Calls.mono HMX.out ?_
          rintro e s10 ⟨v10, Hm, rfl, hO10, hperm, hb10⟩
          obtain ⟨g5, cap5, rfl, hg5, hg5l, hC5⟩ := own_row9 hO10 hn90
          have H410 : Hid (Below s4.heap.size s4 s10) := H49.out.trans (hb10.mono H49.out.size)
          have HW10 : Hid (Below w.heap.size w s10) := HW9.out.trans (hb10.mono HW9.out.size)
          have hrt : RO = ⟨#[]⟩ ∨ RO = rtT kt K M C V (datOf F q0) (nmF F q0) := .inr HRE.out.symm
          obtain ⟨hex, hall⟩ := HEP.out HEL.out.2.2.1 HNN.out (H := Hm) HN9.out (by rw [← HTT.out]; exact hperm) hrt
          have hsz : ∀ i, i < n9 → (Hm i).size ≤ 140737488351232 := fun i hi => by
            obtain ⟨s, t0, _, hrun, _⟩ := hex
            have hP := hall s t0 ⟨‹_›, hrun, ‹_›⟩
            have := (run_good n9 s hrun hP.un).1 i hi
            have h2 := rd_none (same3_L this.1 this.1 ⟨rfl, rfl, rfl⟩).2.1
            omega
          have HEX : Hid _ := hex
          have HALL : Hid _ := hall
          have HOP : Hid _ := opened_any kt RO Hm (some ⟨g5, 0, none⟩) n9 cap5 s10 (HG.out.below HW10.out) (by omega) hsz (.inr ⟨_, rfl, fun i hi => ⟨g5, 0, rfl, hg5l, by rw [Nat.zero_add]; exact hC5 i hi⟩⟩)
          clear hO10 hperm hb10 hg5 hg5l hC5 hrt hex hall hsz HMX H49 HW9
          go_wp2_with fail
          refine Calls.mono HOP.out ?_
          rintro e s11 ⟨hB6, ⟨rfl, hno'⟩ | ⟨B, vb, rfl, hBl, hBu, s, t0, kb, g, p, q, f, un, hop, hr0, hBv, ⟨hBq, hBf⟩, hVL, hVS⟩⟩
          · obtain ⟨s, t0, h⟩ := HEX.out
            exact absurd h (hno' s t0)
          have hPk := HALL.out s t0 hop
          have hT : Told1 (tT t0) := ck_ok (rd_none hr0).2.1
          have hle := told_len (RS.on t0)
          obtain ⟨T, hTe⟩ : ∃ T, tT t0 = T := ⟨_, rfl⟩
          obtain ⟨vT, lT, hTl⟩ := hPk.T
          have hun := hPk.un
          have hst := hPk.st
          have hob := hPk.obj
          have hre := hPk.re
          have hnm := told_nm (RS.on t0)
          have hle' : (tT t0).L.es.length ≤ 16 ∧ lenE (tT t0).L.es ≤ 4096 := hle
          have hnm' : ∀ x ∈ (tT t0).L.es, x.1.size ≤ 255 := hnm
          have hVS' : VS kt B kb g p q f (tT t0) un s.un s.rd s.bl (fun _ => false) (fun _ => 0) (fun _ => .slice none 0 0) s11 := hVS
          rw [hTe] at hTl hst hob hre hle' hnm' hT hVS'
          rw [hun] at hVS'
          rw [HVO.out] at hre
          have hsz10 := HW10.out.size
          have hsz410 := H410.out.size
          have HK11 : Hid (VK kt B vb kb g p q f T un [] s.rd s.bl s11) := ⟨hVL, _, _, _, hVS'⟩
          have hlt11 := HK11.out.lt
          have HF11 : Hid (Below s10.heap.size s10 s11) := hB6
          have hEs : T.L.es = esF F q0 := hTl.es
          have hEv : T.L.V = V := hTl.V
          have HES : Hid _ := hEs
          have HEV : Hid _ := hEv
          have HST : Hid _ := hst
          have HOB : Hid _ := hob
          have HRV : Hid _ := hre
          have HLE : Hid _ := hle'
          have HNM : Hid _ := hnm'
          have HTT2 : Hid _ := hT
          clear hPk hT hle hTe hTl hun hst hob hre hnm hle' hnm' hVS hVS' hVL hop hr0 hB6 HEX HALL HOP hEs hEv
          have HGG : Hid (∀ W, Fr (Q3 q f vb) s11 W → Gd kt W) := fun W hF => HG.out.below (HW10.out.trans ((HF11.out.mono HW10.out.size).trans (hF.lowB w.heap.size (Nat.le_trans HW10.out.size HF11.out.size) (fun j hj e => by rcases e with e | e | e <;> omega))))
          go_wp2_with fail
          refine Calls.mono (vunpack_ok kt B vb kb g p q f T un [] s.rd s.bl s11 HK11.out HTT2.out HLE.out (HGG.out s11 (Fr.refl _ _)) hBu (by omega) HST.out) ?_
          rintro e s12 ⟨vu, rfl, hK12, hF12, hO12⟩
          rw [HES.out, esF_len] at hO12
          have HK12 : Hid (VK kt B vb kb g p q f T un [] s.rd s.bl s12) := hK12
          have HQ12 : Hid (Fr (Q3 q f vb) s11 s12) := hF12
          have HU12 : Hid (s12.ownsRow s11.heap.size 72 2 vu q0 (objF (unO kt T s.bl) q0)) := hO12
          clear hK12 hF12 hO12 HK11
          go_wp2_with fail
          obtain ⟨hv12, dn, zs, bd, hs12⟩ := HK12.out
          refine Calls.mono (vrepair_ok kt B vb kb g p q f T un [] s.rd s.bl dn zs bd s12 hv12 hs12 HTT2.out HLE.out HNM.out (HGG.out s12 HQ12.out) (Nat.le_trans hBu HQ12.out.size) (by omega) HST.out) ?_
          rintro e s13 ⟨gv, rfl, hgv, hR13, hF13⟩
          rw [HEV.out] at hR13 ⊢
          have h612 := HQ12.out.size
          have HR13 : Hid (Rw s13 gv V 9 (tX VO)) := hR13.to (fun j hj => by unfold tX; rw [HRV.out _ (fun st hst => by simp [dnS, hst]) j hj])
          have HQ13 : Hid (Fr (Q3 q f vb) s11 s13) := HQ12.out.trans' hF13
          have HU13 : Hid _ := own_hi HU12.out hF13 (by omega) (by omega) (by omega)
          have HB13 : Hid (Below s10.heap.size s10 s13) := HF11.out.trans (HQ13.out.lowB s10.heap.size HF11.out.size (fun j hj e => by rcases e with e | e | e <;> omega))
          have H413 : Hid (Below s4.heap.size s4 s13) := H410.out.trans (HB13.out.mono H410.out.size)
          clear hv12 hs12 hR13 hF13 HK12 HQ12 HU12
          have HL13 : Hid (OwnF s13 s2.heap.size (.slice la q0 lc) q0 F) := HO4.out.low (fun r hr => own_lt HO4.out r hr) H413.out
          obtain ⟨ua, uc, rfl, hUc⟩ := OwnF.cells (F := unO kt T s.bl) HU13.out
          obtain ⟨la', lc', hle, hLc⟩ := OwnF.cells HL13.out
          obtain ⟨rfl, rfl⟩ : la = la' ∧ lc = lc' := by simpa using hle
          have HSO : Hid _ := sameO_any (unO kt T s.bl) F q0 uc lc ua la s13 (by omega) hUc hLc HOB.out
          clear hUc hLc hle
          go_wp2_with fail
          refine Calls.mono HSO.out ?_
          rintro e s14 ⟨rfl, hb14⟩
          have hgvl : gv < s13.heap.size := HR13.out.lt
          have HR14 : Hid (Rw s14 gv V 9 (tX VO)) := by show _ = _; rw [hb14.block gv hgvl]; exact HR13.out
          have HG14 : Hid (VRw s14 g4 V VO) := VRw.kept HR4.out ((hb14.block g4 (Nat.lt_of_lt_of_le (VRw.lt HR4.out) H413.out.size)).trans (H413.out.block g4 (VRw.lt HR4.out)))
          have HST2 : Hid _ := same_any VO VO V gv V g4 V s14 (by omega) HR14.out.cl (fun i hi => VRw.cell HG14.out hi) (fun i _ => rfl)
          have HB14 : Hid _ := hb14
          clear hb14
          go_wp2_with fail
          refine Calls.mono HST2.out ?_
          rintro e s15 ⟨rfl, hb15⟩
          have hB1315 : Below s13.heap.size s13 s15 := HB14.out.trans (hb15.mono HB14.out.size)
          have HB15 : Hid (Below w.heap.size w s15) := HB4.out.trans ((H413.out.trans (hB1315.mono H413.out.size)).mono HB4.out.size)
          clear hb15 hB1315 HSO HST2 HR14 HG14 HR13 HB14
          go_wp2_with fail
          go_ret
          exact ⟨rfl, HB15.out⟩
end Go.Proofs.YtadinjaocnlglaaGreatDoor
