/-
  The walk of vaultkeep.Located.
-/
import Derived.Test.YtadinjaocnlglaaGreatDoorZ47
import Derived.Test.YtadinjaocnlglaaGreatDoorZ44
import Derived.Test.YtadinjaocnlglaaGreatDoorZ45
namespace Go.Proofs.YtadinjaocnlglaaGreatDoor
open Go.RowKit
set_option maxRecDepth 100000
set_option maxHeartbeats 4000000
theorem locatedL (kt : Nat → Int) (k m c v : Int) (xa aa ba : Option Addr) (nx xc na ac nb bc : Nat) (w : World) (k0 : -9223372036854775808 ≤ k) (k1 : k ≤ 9223372036854775807) (m0 : -9223372036854775808 ≤ m) (m1 : m ≤ 9223372036854775807) (c0 : -9223372036854775808 ≤ c) (c1 : c ≤ 9223372036854775807) (v0 : -9223372036854775808 ≤ v) (v1 : v ≤ 9223372036854775807)
    (hnx : nx ≤ 140737488355328) (hna : na ≤ 140737488355328) (hnb9 : nb ≤ 140737488355328) (hX : Raw w xa nx) (hA : Lss w aa na) (hB : Lss w ba nb) (hG : Gd kt w) (hER : w.cell? ⟨0, 0, none⟩ = some (.iface 376 (rt 63))) :
    Calls Tryz.prog 9 #[.agg #[.int .i64 k, .int .i64 m, .int .i64 c, .int .i64 v], .slice xa nx xc, .slice aa na ac, .slice ba nb bc] w fun e w' => e = .returned (.bool true) ∧ Below w.heap.size w w' := by
  have H4 : Hid (∀ W, _) := fun W => params_any k m c v W k0 k1 m0 m1 c0 c1 v0 v1
  have hK := pk_lt k 5 (by omega)
  have hM := pk_lt m 4 (by omega)
  have hC := pk_lt c 8 (by omega)
  have hV := pk_lt v 5 (by omega)
  obtain ⟨K, eK⟩ : ∃ K, 1 + pk k 5 = K := ⟨_, rfl⟩
  obtain ⟨M, eM⟩ : ∃ M, pk m 4 = M := ⟨_, rfl⟩
  obtain ⟨C, eC⟩ : ∃ C, 1 + pk c 8 = C := ⟨_, rfl⟩
  obtain ⟨V, eV⟩ : ∃ V, 1 + pk v 5 = V := ⟨_, rfl⟩
  rw [eK, eM, eC, eV] at H4
  have hK1 : 1 ≤ K := by omega
  have hK2 : K ≤ 5 := by omega
  have hM1 : M ≤ 3 := by omega
  have hC1 : 1 ≤ C := by omega
  have hC2 : C ≤ 8 := by omega
  have hV1 : 1 ≤ V := by omega
  have hV2 : V ≤ 5 := by omega
  have HX : Hid (Raw w xa nx) := hX
  have HA : Hid (Lss w aa na) := hA
  have HB : Hid (Lss w ba nb) := hB
  have HER : Hid _ := hER
  have HG : Hid (Gd kt w) := hG
  have hw4 := hG.one
  clear eK eM eC eV hK hM hC hV k0 k1 m0 m1 c0 c1 v0 v1 hX hA hB hG hER
  unfold pV at H4
  go_enter Tryz.func9, Tryz.ntmps9
  go_wp2_with fail
  refine Calls.mono (H4.out _) ?_
  rintro e s1 ⟨rfl, hb1⟩
  have HB1 : Hid (Below w.heap.size w s1) := by
    have h0 : Below w.heap.size w (w.alloc (Obj.cells #[Value.int IntKind.i64 k, Value.int IntKind.i64 m, Value.int IntKind.i64 c, Value.int IntKind.i64 v] 23)) := (Below.refl _ _).alloc (Nat.le_refl _) _
    exact h0.trans (hb1.mono h0.size)
  clear hb1 H4
  go_wp2_with fail
  obtain ⟨s2, hs2⟩ : ∃ s2, s1.alloc (Obj.cells #[Value.int IntKind.i64 K, Value.int IntKind.i64 M, Value.int IntKind.i64 C, Value.int IntKind.i64 V] 23) = s2 := ⟨_, rfl⟩
  have HP2 : Hid (s2.heap[s1.heap.size]? = some (.cells #[.int .i64 K, .int .i64 M, .int .i64 C, .int .i64 V] 23 (0, 0))) := by show _ = _; rw [← hs2]; exact heap_alloc_new _ _
  have HB2 : Hid (Below w.heap.size w s2) := by show Below _ _ _; rw [← hs2]; exact HB1.out.alloc HB1.out.size _
  have hpl : s1.heap.size < s2.heap.size := by rw [← hs2]; simp
  rw [hs2]
  obtain ⟨pb, hpb⟩ : ∃ pb, s1.heap.size = pb := ⟨_, rfl⟩
  rw [hpb] at HP2 hpl ⊢
  clear hs2 hpb HB1
  refine (objects_any xa nx xc s2 hnx (HX.out.below HB2.out)).mono ?_
  rintro e s3 ⟨vl, q0, F, rfl, hO3, hq, hS, hb3⟩
  obtain ⟨la, lc, hvl⟩ := own_shape hO3
  subst hvl
  have HO3 : Hid (OwnF s3 s2.heap.size (.slice la q0 lc) q0 F) := hO3
  have HS : Hid (Srt q0 F) := hS
  have HB3 : Hid (Below w.heap.size w s3) := HB2.out.trans (hb3.mono HB2.out.size)
  have HP3 : Hid (s3.heap[pb]? = some (.cells #[.int .i64 K, .int .i64 M, .int .i64 C, .int .i64 V] 23 (0, 0))) := by show _ = _; rw [hb3.block pb hpl]; exact HP2.out
  clear hO3 hS hb3 HP2 HB2
  have p0 : s3.cell? ⟨pb, 0, none⟩ = some (.int .i64 K) := cell_of_row _ _ _ _ 23 _ HP3.out
  have p1 : s3.cell? ⟨pb, 1, none⟩ = some (.int .i64 M) := cell_of_row _ _ _ _ 23 _ HP3.out
  have p2 : s3.cell? ⟨pb, 2, none⟩ = some (.int .i64 C) := cell_of_row _ _ _ _ 23 _ HP3.out
  have p3 : s3.cell? ⟨pb, 3, none⟩ = some (.int .i64 V) := cell_of_row _ _ _ _ 23 _ HP3.out
  have H6 : Hid _ := packed_any kt K M C V q0 lc 0 0 s2.heap.size la none F s3 hK1 hK2 hM1 hC1 hC2 hV1 hV2 hq HO3.out HS.out (fun i hi => absurd hi (by omega)) (HG.out.below HB3.out)
  unfold pV at H6
  obtain ⟨RO, hR⟩ : ∃ RO, rtT kt K M C V (datOf F q0) (nmF F q0) = RO := ⟨_, rfl⟩
  obtain ⟨VO, hVO⟩ : ∃ VO, voT kt K M C V (datOf F q0) (nmF F q0) = VO := ⟨_, rfl⟩
  rw [hR, hVO] at H6
  have HRE : Hid _ := hR
  have HVO : Hid _ := hVO
  clear hR hVO
  go_wp2_with fail
  refine Calls.mono H6.out ?_
  rintro e s4 ⟨g4, rfl, h41, h42, h43⟩
  have hpl3 : pb < s3.heap.size := (Array.getElem?_eq_some_iff.1 HP3.out).1
  have HP4 : Hid (s4.heap[pb]? = some (.cells #[.int .i64 K, .int .i64 M, .int .i64 C, .int .i64 V] 23 (0, 0))) := by show _ = _; rw [h43.block pb hpl3]; exact HP3.out
  have HO4 : Hid (OwnF s4 s2.heap.size (.slice la q0 lc) q0 F) := HO3.out.low (fun r hr => own_lt HO3.out r hr) h43
  have HB4 : Hid (Below w.heap.size w s4) := HB3.out.trans (h43.mono HB3.out.size)
  have HR4 : Hid (VRw s4 g4 V VO) := rw_vr h42
  have hVOk := srt_ok HS.out hK1 hK2 hM1 hC1 hC2 hV1 hV2 hq
  have hns0 := nst_len (K * C) (smF F q0).size hVOk.z
  have hsm := sm_le HS.out
  have hsm2 : (smF F q0).size ≤ 60 := by omega
  have hnsE : nst (K * C) (smF F q0).size * (K + M) = nbT K M C (smF F q0) := rfl
  have hc512 := hVOk.c512
  have hVOe : ∀ u, VO u = hdE kt K M C V (esF F q0) (smF F q0) u ++ reE K M C V (smF F q0) u := fun u => by rw [← HVO.out]; exact vo_eq HS.out kt K M C V u
  have hhd : ∀ u, (hdE kt K M C V (esF F q0) (smF F q0) u).size ≤ 30000 := fun u => hVOk.hd_le kt u
  have hre : ∀ u, u < V → (reE K M C V (smF F q0) u).size = ((u + 1) * nbT K M C (smF F q0) / V - u * nbT K M C (smF F q0) / V) * C := fun u hu => (hVOk.rest hu).1
  have hwi := hVOk.wi (nst (K * C) (smF F q0).size)
  have hbl : ∀ u, u < V → ∀ i, u * nbT K M C (smF F q0) / V + i < (u + 1) * nbT K M C (smF F q0) / V → pc (reE K M C V (smF F q0) u) C i = bkT K M C (smF F q0) (u * nbT K M C (smF F q0) / V + i) := fun u hu i hi => (hVOk.rest hu).2 i (by omega)
  have HEP : Hid _ := @located_plain kt F q0 K M C V _ _ HS.out hK1 hK2 hM1 hC1 hC2 hV1 hV2 hq rfl rfl
  obtain ⟨la', lc', hle, hLc⟩ := OwnF.cells HO4.out
  obtain ⟨rfl, rfl⟩ : la = la' ∧ lc = lc' := by simpa using hle
  have hfitB : ∀ u, u < V → ((u + 1) * nbT K M C (smF F q0) / V - u * nbT K M C (smF F q0) / V) * C ≤ 512 * 8 := fun u hu => by
    have h1 := rng_top (nb := nbT K M C (smF F q0)) (v := u + 1) hV1 (by omega)
    generalize u * nbT K M C (smF F q0) / V = A
    generalize (u + 1) * nbT K M C (smF F q0) / V = E at h1 ⊢
    exact Nat.mul_le_mul (by omega) hC2
  have H30 : Hid _ := planned_any F q0 lc la K M C V g4 V VO s4 hK1 hK2 hM1 hC1 hC2 hV1 hV2 (by omega) (fun j hj => by have := (HS.out.sz j hj).2.2; omega) (by omega) hLc (fun u hu => HR4.out.cell hu) (fun u hu => by rw [hVOe, ByteArray.size_append, hre u hu]; omega) (fun u hu => by rw [hVOe, ByteArray.size_append, hre u hu]; have := hfitB u hu; have := hhd u; omega)
  have hpl0 : ∀ u, u < V → plN VO V (nbT K M C (smF F q0)) C u = (hdE kt K M C V (esF F q0) (smF F q0) u).size := fun u hu => by unfold plN; rw [hVOe u, ByteArray.size_append, hre u hu, Nat.add_sub_cancel]
  obtain ⟨ns, hns⟩ : ∃ ns, nst (K * C) (smF F q0).size = ns := ⟨_, rfl⟩
  obtain ⟨cn, hcn⟩ : ∃ cn, nbT K M C (smF F q0) = cn := ⟨_, rfl⟩
  obtain ⟨BK, hBK⟩ : ∃ BK, bkT K M C (smF F q0) = BK := ⟨_, rfl⟩
  obtain ⟨HD, hHD⟩ : ∃ HD, hdE kt K M C V (esF F q0) (smF F q0) = HD := ⟨_, rfl⟩
  obtain ⟨RE, hRE⟩ : ∃ RE, reE K M C V (smF F q0) = RE := ⟨_, rfl⟩
  rw [hcn] at hnsE hc512 hre hwi hbl hfitB H30 HEP hpl0
  rw [hns] at hnsE hns0 hwi H30 HEP
  rw [hBK] at hwi hbl HEP
  rw [hHD] at hVOe hhd HEP hpl0
  rw [hRE] at hVOe hre hwi hbl
  obtain ⟨pl, hpl1⟩ : ∃ pl, plN VO V cn C = pl := ⟨_, rfl⟩
  rw [hpl1] at H30 hpl0
  have HPL : Hid _ := hpl0
  have HVE : Hid _ := hVOe
  have HHD : Hid _ := hhd
  have HRS : Hid _ := hre
  have HBL : Hid _ := hbl
  have HWI : Hid _ := hwi
  have HBD : Hid (Bd K M C V ns cn pl) := ⟨hK1, hK2, hM1, hC1, hC2, hV1, hV2, hc512, hnsE, by omega, fun u hu => by rw [hpl0 u hu]; have := hhd u; omega⟩
  have hcn5 : cn ≤ 512 := hc512
  have hn0 : 0 < K + M := by omega
  clear hVOk hns0 hsm hsm2 hnsE hc512 hVOe hhd hre hwi hbl hLc hle hfitB hpl0 hns hcn hBK hHD hRE hpl1 h41 h42 h43 p0 p1 p2 p3 HP3 HO3 HB3 H6
  have p0 : s4.cell? ⟨pb, 0, none⟩ = some (.int .i64 K) := cell_of_row _ _ _ _ 23 _ HP4.out
  have p1 : s4.cell? ⟨pb, 1, none⟩ = some (.int .i64 M) := cell_of_row _ _ _ _ 23 _ HP4.out
  have p2 : s4.cell? ⟨pb, 2, none⟩ = some (.int .i64 C) := cell_of_row _ _ _ _ 23 _ HP4.out
  have p3 : s4.cell? ⟨pb, 3, none⟩ = some (.int .i64 V) := cell_of_row _ _ _ _ 23 _ HP4.out
  go_wp2_with fail
  refine Calls.mono H30.out ?_
  rintro e s5 ⟨x, gf, cf, gp, cp, rfl, hP5, hb5, hx5, hgf5, hgp5⟩
  have HP5 : Hid (Pln x gf cf gp cp K M C V ns cn pl s5) := hP5
  have HB5 : Hid (Below s4.heap.size s4 s5) := hb5
  clear hP5 hb5 hx5 hgf5 hgp5 H30 p0 p1 p2 p3
  go_wp2_with fail
  refine Calls.mono (sound_any x gf cf gp cp K M C V ns cn pl s5 HP5.out (by omega) (fun u hu => by have := HBD.out.bpl u hu; omega)) ?_
  rintro e s6 ⟨rfl, m6, hs6⟩
  have HP6 : Hid (Pln x gf cf gp cp K M C V ns cn pl s6) := by show Pln _ _ _ _ _ _ _ _ _ _ _ _ _; rw [hs6]; exact HP5.out.kept (fun _ _ => rfl)
  have HB6 : Hid (Below s4.heap.size s4 s6) := by show Below _ _ _; rw [hs6]; exact below_drewN HB5.out m6
  clear hs6 HP5 HB5
  go_wp2_with fail
  have HEL0 : Hid _ := HWI.out.sz
  have hn4 : g4 < s4.heap.size := VRw.lt HR4.out
  have HR6 : Hid (VRw s6 g4 V VO) := VRw.kept HR4.out (HB6.out.block g4 hn4)
  have h46 := HB6.out.size
  have hw4s := HB4.out.size
  have hplt := HP6.out.lt hV1
  have hna2 : na ≤ 140737488355328 := hna
  go_loopw [15, 16] (fun hv iv wr => ∃ (i gh ch : Nat) (L R : Nat → ByteArray), i ≤ na ∧ i ≤ 20 ∧ hv = .slice (some ⟨gh, 0, none⟩) V ch ∧ iv = .int .i64 i ∧ VRw wr gh V L ∧ (∀ v, v < V → (R v).size = ((v + 1) * cn / V - v * cn / V) * C) ∧ (∀ v, v < V → L v = HD v ++ R v) ∧ Below s6.heap.size s6 wr) (fun _ iv _ => 20 - (intOf iv).toNat)
  case atStart => exact ⟨0, g4, V, VO, RE, by omega, by omega, rfl, rfl, HR6.out, HEL0.out, fun u _ => HVE.out u, Below.refl _ _⟩
  case round =>
    obtain ⟨i, gh, ch, L, R, hi, hi20, rfl, rfl, hVr, hsz, hL, hbr⟩ := hrel
    have HVr : Hid (VRw wr gh V L) := hVr
    have HSZ : Hid _ := hsz
    have HL : Hid _ := hL
    have HBR : Hid (Below s6.heap.size s6 wr) := hbr
    clear hVr hsz hL hbr
    by_cases hlt : i < na ∧ i < 20
    · have hin : (i : Int) < (na : Int) := by omega
      have hin2 : (i : Int) < 20 := by omega
      obtain ⟨lb, off, kk, mm, tt, ha, hlb, z0, z1, z2, r0, r1, r2⟩ := HA.out i hlt.1
      subst ha
      have hwr : Below w.heap.size w wr := HB4.out.trans ((HB6.out.trans (HBR.out.mono HB6.out.size)).mono HB4.out.size)
      replace z0 : wr.cell? ⟨lb, off + i * 3, none⟩ = some (.int .i64 kk) := (hwr.cell (p := ⟨lb, off + i * 3, none⟩) hlb).trans z0
      replace z1 : wr.cell? ⟨lb, off + i * 3 + 1, none⟩ = some (.int .i64 mm) := (hwr.cell (p := ⟨lb, off + i * 3 + 1, none⟩) hlb).trans z1
      replace z2 : wr.cell? ⟨lb, off + i * 3 + 2, none⟩ = some (.int .i64 tt) := (hwr.cell (p := ⟨lb, off + i * 3 + 2, none⟩) hlb).trans z2
      have HTU : Hid _ := turned_any (cv := ch) (HP6.out.below hplt HBR.out) HBD.out HVr.out (fun u hu => by rw [HL.out u hu, ByteArray.size_append, HSZ.out u hu, HPL.out u hu]) kk mm tt r0.1 r0.2 r1.1 r1.2 r2.1 r2.2
      clear r0 r1 r2 hwr hlt
      go_wp2_with fail
      refine Calls.mono HTU.out ?_
      rintro e w' ⟨g', c', L', rfl, hV', hb', hch, _⟩
      obtain ⟨R', hs', hL'⟩ := tu_keep HSZ.out HL.out HPL.out hch
      have HV' : Hid (VRw w' g' V L') := hV'
      have HS' : Hid _ := hs'
      have HL' : Hid _ := hL'
      have HB' : Hid (Below s6.heap.size s6 w') := HBR.out.trans (hb'.mono HBR.out.size)
      clear hV' hb' hch hs' hL' HTU
      go_wp2_with fail
      go_roundw
      case rel => exact ⟨i + 1, g', c', L', R', by omega, by omega, rfl, by go_num, HV'.out, HS'.out, HL'.out, HB'.out⟩
      case measure => simp [intOf]; omega
    · obtain ⟨wl, hwl⟩ : ∃ wl, wl = wr := ⟨_, rfl⟩
      rw [← hwl] at HVr HBR ⊢
      clear hwl
      have HPl : Hid (Pln x gf cf gp cp K M C V ns cn pl wl) := HP6.out.below hplt HBR.out
      have HWR : Hid _ := wrecked_any x gf cf gp cp K M C V ns cn pl wl HPl.out hV1 hV2 hcn5
      have hor : (i : Int) < (na : Int) ∧ ¬ (i : Int) < 20 ∨ ¬ (i : Int) < (na : Int) := by omega
      rcases hor with ⟨q1, q2⟩ | q1
      all_goals
        clear hlt
        go_wp2_with fail
        refine Calls.mono HWR.out ?_
        rintro e s7 ⟨wb, gl, go, gc, cc, rfl, hW7, hb7⟩
        have h67 := HBR.out.size
        have hWlw : Below w.heap.size w wl := HB4.out.trans ((HB6.out.trans (HBR.out.mono HB6.out.size)).mono HB4.out.size)
        have hHi := hW7.hi
        have HWlw : Hid (Below w.heap.size w wl) := hWlw
        have hwls := hWlw.size
        have HLOW : Hid (∀ W, Fr (Q3 gl go gc) s7 W → Below wl.heap.size wl W) := fun W hF => hb7.trans (hF.lowB wl.heap.size hb7.size (fun j hj e => by rcases e with e | e | e <;> omega))
        have HW7 : Hid (Wrk wl.heap.size wb gl go gc cc x gf cf gp cp K M C V ns cn pl (fun _ => false) (fun _ => false) (fun v => (v + 1) * cn / V) s7) := hW7
        have HCI : Hid (CI V cn (fun _ => false) (fun v => (v + 1) * cn / V)) := ⟨fun u _ => rng_le (by omega), fun u _ => Nat.le_refl _, ⟨0, hV1, rfl⟩⟩
        clear hW7 hb7 HWR HPl hWlw
        go_wp2_with fail
        go_loopw [18] (fun iv wr => ∃ (i : Nat) (out : Nat → Bool) (cut : Nat → Nat), i ≤ nb ∧ iv = .int .i64 i ∧ Wrk wl.heap.size wb gl go gc cc x gf cf gp cp K M C V ns cn pl (fun _ => false) out cut wr ∧ CI V cn out cut ∧ Fr (Q3 gl go gc) s7 wr) (fun iv _ => nb - (intOf iv).toNat)
        case atStart => exact ⟨0, _, _, by omega, rfl, HW7.out, HCI.out, Fr.refl _ _⟩
        case round =>
          obtain ⟨i2, out, cut, hi2, rfl, hW, hC, hF⟩ := hrel
          have HW : Hid (Wrk wl.heap.size wb gl go gc cc x gf cf gp cp K M C V ns cn pl (fun _ => false) out cut wr) := hW
          have HC : Hid (CI V cn out cut) := hC
          have HF : Hid (Fr (Q3 gl go gc) s7 wr) := hF
          have HBW : Hid (Below wl.heap.size wl wr) := HLOW.out wr hF
          clear hW hC hF HW7 HCI
          by_cases hlt2 : i2 < nb
          · have hin3 : (i2 : Int) < (nb : Int) := by omega
            obtain ⟨lb, off, kk, mm, tt, ha, hlb, z0, z1, z2, r0, r1, r2⟩ := HB.out i2 hlt2
            subst ha
            have hwr : Below w.heap.size w wr := HWlw.out.trans (HBW.out.mono HWlw.out.size)
            replace z0 : wr.cell? ⟨lb, off + i2 * 3, none⟩ = some (.int .i64 kk) := (hwr.cell (p := ⟨lb, off + i2 * 3, none⟩) hlb).trans z0
            replace z1 : wr.cell? ⟨lb, off + i2 * 3 + 1, none⟩ = some (.int .i64 mm) := (hwr.cell (p := ⟨lb, off + i2 * 3 + 1, none⟩) hlb).trans z1
            replace z2 : wr.cell? ⟨lb, off + i2 * 3 + 2, none⟩ = some (.int .i64 tt) := (hwr.cell (p := ⟨lb, off + i2 * 3 + 2, none⟩) hlb).trans z2
            have HCT : Hid _ := cuts_any HW.out HBD.out kk mm tt r1.1 r1.2 r2.1 r2.2
            clear r0 r1 r2 hwr
            go_wp2_with fail
            refine Calls.mono HCT.out ?_
            rintro e w' ⟨out', cut', rfl, hW', hF', hc', ho'⟩
            have HW' : Hid _ := hW'
            have HC' : Hid (CI V cn out' cut') := HC.out.step hc' ho'
            have HF' : Hid (Fr (Q3 gl go gc) s7 w') := HF.out.trans' hF'
            clear hW' hF' hc' ho' HCT
            go_wp2_with fail
            go_roundw
            case rel => exact ⟨i2 + 1, out', cut', by omega, by go_num, HW'.out, HC'.out, HF'.out⟩
            case measure => simp [intOf]; omega
          · have hin3 : ¬ (i2 : Int) < (nb : Int) := by omega
            obtain ⟨w8, hw8⟩ : ∃ w8, w8 = wr := ⟨_, rfl⟩
            rw [← hw8] at HW HBW ⊢
            clear hw8 HF HLOW hlt2
            have h8w := HBW.out.size
            have HP8 : Hid (w8.heap[pb]? = some (.cells #[.int .i64 K, .int .i64 M, .int .i64 C, .int .i64 V] 23 (0, 0))) := by
              have h48 : Below s4.heap.size s4 w8 := HB6.out.trans ((HBR.out.trans (HBW.out.mono HBR.out.size)).mono HB6.out.size)
              show _ = _
              rw [h48.block pb (Array.getElem?_eq_some_iff.1 HP4.out).1]; exact HP4.out
            go_wp2_with fail
            go_loopw [19, 20] (fun av iv wr => ∃ (i : Nat) (va : Value), i ≤ V ∧ va = av ∧ iv = .int .i64 i ∧ wr.ownsRow w8.heap.size 3 1 va ((List.range i).filter (fun u => out u)).length (unV ((List.range i).filter (fun u => out u))) ∧ Below w8.heap.size w8 wr) (fun _ iv _ => V - (intOf iv).toNat)
            case atStart => exact ⟨0, _, by omega, rfl, rfl, ⟨rfl, .inl ⟨rfl, rfl⟩⟩, Below.refl _ _⟩
            case round =>
              obtain ⟨i3, va, hi3, rfl, rfl, hO, hb⟩ := hrel
              have HO : Hid (wr.ownsRow w8.heap.size 3 1 va ((List.range i3).filter (fun u => out u)).length (unV ((List.range i3).filter (fun u => out u)))) := hO
              have HB3 : Hid (Below w8.heap.size w8 wr) := hb
              clear hO hb
              have hrow : wr.heap[pb]? = some (.cells #[.int .i64 K, .int .i64 M, .int .i64 C, .int .i64 V] 23 (0, 0)) := (HB3.out.block pb (Array.getElem?_eq_some_iff.1 HP8.out).1).trans HP8.out
              have p3 : wr.cell? ⟨pb, 3, none⟩ = some (.int .i64 V) := cell_of_row _ _ _ _ 23 _ hrow
              have HWr : Hid (Wrk wl.heap.size wb gl go gc cc x gf cf gp cp K M C V ns cn pl (fun _ => false) out cut wr) := HW.out.below HB3.out
              have b2 : wr.cell? ⟨wb, 2, none⟩ = some (.slice (some ⟨go, 0, none⟩) V V) := cell_of_row _ _ _ _ 96 _ HWr.out.row
              clear hrow
              by_cases hlt3 : i3 < V
              · have hin4 : (i3 : Int) < (V : Int) := by omega
                have o1 : wr.cell? ⟨go, i3, none⟩ = some (.bool (out i3)) := HWr.out.ou.cell i3 hlt3
                obtain ⟨oi, hoi⟩ : ∃ oi, out i3 = oi := ⟨_, rfl⟩
                rw [hoi] at o1
                have HOI : Hid _ := hoi
                clear hoi
                cases oi
                · have HE : Hid ((List.range (i3 + 1)).filter (fun u => out u) = (List.range i3).filter (fun u => out u)) := by show _ = _; rw [List.range_succ, List.filter_append]; simp [HOI.out]
                  go_wp2_with fail
                  go_roundw
                  case rel => exact ⟨i3 + 1, va, by omega, rfl, by go_num, by rw [HE.out]; exact HO.out, HB3.out⟩
                  case measure => simp [intOf]; omega
                · have HE : Hid ((List.range (i3 + 1)).filter (fun u => out u) = (List.range i3).filter (fun u => out u) ++ [i3]) := by show _ = _; rw [List.range_succ, List.filter_append]; simp [HOI.out]
                  obtain ⟨v', w2, hr, ho, hg⟩ := own_int i3 HO.out HB3.out.size (Nat.le_trans (List.length_filter_le _ _) (by simp; omega))
                  have HRUN : Hid _ := hr
                  have HO2 : Hid _ := ho
                  have HB2 : Hid (Below w8.heap.size w8 w2) := (HB3.out.alloc HB3.out.size _).grown hg (by simp; have := HB3.out.size; omega) (fun y hy => own_ge HO.out y hy)
                  obtain ⟨aa1, ca1, hv1⟩ := own_shape HO.out
                  obtain ⟨aa2, ca2, hv2⟩ := own_shape ho
                  generalize ((List.range i3).filter (fun u => out u)).length = n1 at hv1
                  generalize (((List.range i3).filter (fun u => out u)) ++ [i3]).length = n2 at hv2
                  subst hv1 hv2
                  clear hr ho hg
                  go_wp2_with (at_builtin; refine wpList_app rfl (.tmp 102) (.tmp 104) 39 rfl _ _ _ (by simp [Act.eval]) (by simp [Act.eval]) _ HRUN.out ?_)
                  go_roundw
                  case rel => exact ⟨i3 + 1, _, by omega, rfl, by go_num, by rw [HE.out]; exact HO2.out, HB2.out⟩
                  case measure => simp [intOf]; omega
              · have hin4 : ¬ (i3 : Int) < (V : Int) := by omega
                obtain ⟨w9, hw9⟩ : ∃ w9, w9 = wr := ⟨_, rfl⟩
                have hiV : i3 = V := by omega
                rw [← hw9] at HO HB3 HWr p3 ⊢
                rw [hiV] at HO
                clear hw9 hiV b2 hlt3
                have h89 := HB3.out.size
                have HB9 : Hid (Below wl.heap.size wl w9) := HBW.out.trans (HB3.out.mono HBW.out.size)
                have HP9 : Hid (w9.heap[pb]? = some (.cells #[.int .i64 K, .int .i64 M, .int .i64 C, .int .i64 V] 23 (0, 0))) := (HB3.out.block pb (Array.getElem?_eq_some_iff.1 HP8.out).1).trans HP8.out
                have hpb9 : pb < w9.heap.size := (Array.getElem?_eq_some_iff.1 HP9.out).1
                have hc4 : w9.cell? ⟨x, 4, none⟩ = some (.int .i64 ns) := cell_of_row _ _ _ _ 84 _ HWr.out.pln.row
                have hns1 := HBD.out.bns2
                have hmk := run_make_row' (P := Tryz.prog) 39 3 (.int .i64 0) 8 Tryz.underlying39 info3 rfl .i64 .i64 ns (by omega) (by omega)
                obtain ⟨ok, hok⟩ := ok_ex V cn (fun u j => decide ((out u = false ∧ u * cn / V + j < cut u) ∧ pc (R u) C j = BK (u * cn / V + j)))
                have HOK : Hid _ := hok
                obtain ⟨z, hz⟩ : ∃ z, K + M = z := ⟨_, rfl⟩
                have hz0 : 0 < z := by omega
                have hnz : ns * z = cn := by rw [← hz]; exact HBD.out.bns
                have hz8 : z ≤ 8 := by omega
                obtain ⟨gk, hgk⟩ : ∃ gk, w9.heap.size = gk := ⟨_, rfl⟩
                have HK10 : Hid (Rw (w9.alloc (.cells (madeCells #[.int .i64 0] ns) 3)) gk ns 3 (fun s => .int .i64 (ctS ok z 0 s : Nat))) := by rw [← hgk]; exact Rw.made w9 ns 3 (.int .i64 0)
                have HB10 : Hid (Below w9.heap.size w9 (w9.alloc (.cells (madeCells #[.int .i64 0] ns) 3))) := (Below.refl _ _).alloc (Nat.le_refl _) _
                have HGK : Hid _ := hgk
                clear hok
                go_wp2_with fail
                try rw [HGK.out]
                clear hmk hc4 p3
                have hgk2 : w9.heap.size ≤ gk := by omega
                clear hgk
                go_loopw [21, 23] (fun bv iv wr => ∃ (n : Nat) (vb : Value), n ≤ cn ∧ vb = bv ∧ iv = .int .i64 n ∧ wr.ownsRow (gk + 1) 3 1 vb ((List.range n).filter (fun x => !ok x)).length (unV ((List.range n).filter (fun x => !ok x))) ∧ Rw wr gk ns 3 (fun s => .int .i64 (ctS ok z n s : Nat)) ∧ (∀ u j, u < V → u * cn / V + j < (u + 1) * cn / V → u * cn / V + j < n → out u = false → u * cn / V + j < cut u → leafT (ofT kt) (BK (u * cn / V + j)) = leafT (ofT kt) (pc (R u) C j) → BK (u * cn / V + j) = pc (R u) C j) ∧ Below w9.heap.size w9 wr) (fun _ iv _ => cn - (intOf iv).toNat)
                case atStart => exact ⟨0, _, by omega, rfl, rfl, ⟨rfl, .inl ⟨rfl, rfl⟩⟩, HK10.out, fun u j _ _ h => absurd h (Nat.not_lt_zero _), HB10.out⟩
                case round =>
                  obtain ⟨n, vb, hn, rfl, rfl, hOb, hKb, hno, hbk⟩ := hrel
                  have HNO : Hid _ := hno
                  have HOb : Hid (wr.ownsRow (gk + 1) 3 1 vb ((List.range n).filter (fun x => !ok x)).length (unV ((List.range n).filter (fun x => !ok x)))) := hOb
                  have HKb : Hid (Rw wr gk ns 3 (fun s => .int .i64 (ctS ok z n s : Nat))) := hKb
                  have HBk : Hid (Below w9.heap.size w9 wr) := hbk
                  clear hno hOb hKb hbk HK10 HB10
                  have HWk : Hid (Wrk wl.heap.size wb gl go gc cc x gf cf gp cp K M C V ns cn pl (fun _ => false) out cut wr) := HWr.out.below HBk.out
                  have HBl : Hid (Below wl.heap.size wl wr) := HB9.out.trans (HBk.out.mono HB9.out.size)
                  have H4k : Hid (Below s4.heap.size s4 wr) := HB6.out.trans ((HBR.out.trans (HBl.out.mono HBR.out.size)).mono HB6.out.size)
                  have Hwk : Hid (Below w.heap.size w wr) := HWlw.out.trans (HBl.out.mono HWlw.out.size)
                  have c5 : wr.cell? ⟨x, 5, none⟩ = some (.int .i64 cn) := cell_of_row _ _ _ _ 84 _ HWk.out.pln.row
                  by_cases hlt4 : n < cn
                  · have hin5 : (n : Int) < (cn : Int) := by omega
                    obtain ⟨u, hu, hu1, hu2⟩ := in_range cn V n V (by rw [Nat.mul_div_cancel_left _ (by omega)]; exact hlt4)
                    have HV4 : Hid (VRw wr g4 V VO) := VRw.kept HR4.out (H4k.out.block g4 (VRw.lt HR4.out))
                    have HVH : Hid (VRw wr gh V L) := VRw.kept HVr.out (HBl.out.block gh (VRw.lt HVr.out))
                    have hf1 : (n - u * cn / V) * C + C ≤ ((u + 1) * cn / V - u * cn / V) * C := by rw [← Nat.succ_mul]; exact Nat.mul_le_mul_right _ (by omega)
                    have hpb2 := HBD.out.bpl u hu
                    have hB1 := block_any x gf cf gp cp K M C V ns cn n u g4 V pl VO wr HWk.out.pln (by omega) (by omega) (by omega) hu hu1 hu2 (by omega) (fun v hv => VRw.cell HV4.out hv) (by rw [HVE.out u, ByteArray.size_append, HRS.out u hu, HPL.out u hu]; omega)
                    have hB2 : ∀ j, _ := fun j => block_any x gf cf gp cp K M C V ns cn n u gh ch pl L (wr.drewN j) (Wrk.drewN HWk.out j).pln (by omega) (by omega) (by omega) hu hu1 hu2 (by omega) (fun v hv => VRw.cell (VRw.drewN HVH.out j) hv) (by rw [HL.out u hu, ByteArray.size_append, HSZ.out u hu, HPL.out u hu]; omega)
                    have HTH : Hid (∀ j, _) := fun j => there_any (n := n) (v := u) (Wrk.drewN HWk.out j) (by omega) hu hu1 hu2
                    have hun : u * cn / V + (n - u * cn / V) = n := by omega
                    have e1 : bkO (VO u) (pl u) C (n - u * cn / V) = BK n := by
                      unfold bkO
                      rw [HVE.out u, HPL.out u hu, bk_hd, HBL.out u hu _ (by omega), hun]
                    have e2 : bkO (L u) (pl u) C (n - u * cn / V) = pc (R u) C (n - u * cn / V) := by
                      unfold bkO
                      rw [HL.out u hu, HPL.out u hu, bk_hd]
                    have q1 : (BK n).size ≤ 1000000 := by rw [← hun, ← HBL.out u hu _ (by omega)]; exact Nat.le_trans (pc_le _ _ _) (by omega)
                    have q2 : (pc (R u) C (n - u * cn / V)).size ≤ 1000000 := Nat.le_trans (pc_le _ _ _) (by omega)
                    rw [e1] at hB1
                    have HB1 : Hid _ := hB1
                    have HB2 : Hid (∀ j, Calls Tryz.prog 35 #[.pointer (some ⟨x, 0, none⟩), .slice (some ⟨gh, 0, none⟩) V ch, .int .i64 n] (wr.drewN j) fun e w' => e = .returned (.string (pc (R u) C (n - u * cn / V))) ∧ ∃ m, w' = (wr.drewN j).drewN m) := fun j => by rw [← e2]; exact hB2 j
                    have HCL : Hid (∀ j, _) := fun j => clash_any kt (BK n) (pc (R u) C (n - u * cn / V)) (wr.drewN j) ((HG.out.below Hwk.out).below (below_drewN (Below.refl _ _) j)) q1 q2
                    have hokn := HOK.out u (n - u * cn / V) hu (by omega)
                    have hokn2 : ok n = decide ((out u = false ∧ n < cut u) ∧ pc (R u) C (n - u * cn / V) = BK n) := by rw [hun] at hokn; exact hokn
                    have HSTEP : Hid ((out u = false → n < cut u → leafT (ofT kt) (BK n) = leafT (ofT kt) (pc (R u) C (n - u * cn / V)) → BK n = pc (R u) C (n - u * cn / V)) → ∀ u' j, u' < V → u' * cn / V + j < (u' + 1) * cn / V → u' * cn / V + j < n + 1 → out u' = false → u' * cn / V + j < cut u' → leafT (ofT kt) (BK (u' * cn / V + j)) = leafT (ofT kt) (pc (R u') C j) → BK (u' * cn / V + j) = pc (R u') C j) := fun hd u' j hu' hj hlt ho hc hlf => by
                      by_cases en : u' * cn / V + j = n
                      · have eu : u' = u := by
                          rcases Nat.lt_trichotomy u' u with e | e | e
                          · have := rng_mono (cnt := cn) (V := V) e; omega
                          · exact e
                          · have := rng_mono (cnt := cn) (V := V) e; omega
                        subst eu
                        have ej : j = n - u' * cn / V := by omega
                        rw [en] at hlf hc ⊢
                        rw [ej] at hlf ⊢
                        exact hd ho hc hlf
                      · exact HNO.out u' j hu' hj (by omega) ho hc hlf
                    obtain ⟨PB, hPB⟩ : ∃ PB, pc (R u) C (n - u * cn / V) = PB := ⟨_, rfl⟩
                    obtain ⟨BN, hBN⟩ : ∃ BN, BK n = BN := ⟨_, rfl⟩
                    obtain ⟨cu, hcu⟩ : ∃ cu, cut u = cu := ⟨_, rfl⟩
                    obtain ⟨ou, hou⟩ : ∃ ou, out u = ou := ⟨_, rfl⟩
                    rw [hPB, hBN, hcu, hou] at HSTEP hokn2
                    rw [hPB, hBN] at HCL
                    rw [hBN] at HB1
                    rw [hPB] at HB2
                    rw [hcu, hou] at HTH
                    obtain ⟨th, hth⟩ : ∃ th, (!ou && decide (n < cu)) = th := ⟨_, rfl⟩
                    rw [hth] at HTH
                    have HOKE : Hid _ := hokn2
                    have HTHE : Hid _ := hth
                    clear hB1 hB2 e1 e2 q1 q2 hun hPB hBN hcu hou hu hu1 hu2 hf1 hpb2 hokn hokn2 hth HV4 HVH
                    go_wp2_with fail
                    refine Calls.mono HB1.out ?_
                    rintro e w1 ⟨rfl, m1, rfl⟩
                    go_wp2_with fail
                    refine Calls.mono (HB2.out _) ?_
                    rintro e w2 ⟨rfl, m2, hw2⟩
                    rw [World.drewN_drewN] at hw2
                    subst hw2
                    go_wp2_with fail
                    refine Calls.mono (HTH.out _) ?_
                    rintro e w3 ⟨rfl, rfl⟩
                    cases th
                    · have hnot : ¬ (ou = false ∧ n < cu) := fun hh => by
                        have := HTHE.out
                        rw [hh.1, decide_eq_true hh.2] at this
                        cases this
                      have HOKN : Hid (ok n = false) := by show _ = _; rw [HOKE.out]; exact decide_eq_false (fun hh => hnot hh.1)
                      have HN2 : Hid _ := HSTEP.out (fun h1 h2 => absurd ⟨h1, h2⟩ hnot)
                      obtain ⟨X, hX⟩ : ∃ X, wr.drewN (m1 + m2) = X := ⟨_, rfl⟩
                      have HOx : Hid (X.ownsRow (gk + 1) 3 1 vb ((List.range n).filter (fun x => !ok x)).length (unV ((List.range n).filter (fun x => !ok x)))) := by show World.ownsRow _ _ _ _ _ _ _; rw [← hX]; exact own_kept HOb.out (fun _ _ => rfl)
                      have HKx : Hid (Rw X gk ns 3 (fun s => .int .i64 (ctS ok z n s : Nat))) := by show Rw _ _ _ _ _; rw [← hX]; exact HKb.out
                      have HBx : Hid (Below w9.heap.size w9 X) := by show Below _ _ _; rw [← hX]; exact below_drewN HBk.out _
                      rw [hX]
                      clear hX hnot HSTEP HOKE HTHE HCL HB1 HB2 HTH c5
                      by_cases hab : BN = PB
                      · have hab1 : (BN.toList == PB.toList) = true := texts_eq hab
                        clear hab
                        have hnb2 : ok n = false := HOKN.out
                        have hgk1 : gk < X.heap.size := HKx.out.lt
                        obtain ⟨v', w5, hr, ho, hg5⟩ := own_int n HOx.out (by omega) (Nat.le_trans (List.length_filter_le _ _) (by simp; omega))
                        have hbA : Below X.heap.size X (X.alloc (.cells #[.int .i64 n] 3)) := (Below.refl _ _).alloc (Nat.le_refl _) _
                        have hk5 : Rw w5 gk ns 3 (fun s => .int .i64 (ctS ok z n s : Nat)) := by
                          have h1 : Rw (X.alloc (.cells #[.int .i64 n] 3)) gk ns 3 (fun s => .int .i64 (ctS ok z n s : Nat)) := HKx.out.alloc _
                          exact (hg5.block gk h1.lt (fun e => by have := own_ge HOx.out gk e.symm; omega)).trans h1
                        have hpx : X.heap[pb]? = some (.cells #[.int .i64 K, .int .i64 M, .int .i64 C, .int .i64 V] 23 (0, 0)) := (HBx.out.block pb hpb9).trans HP9.out
                        have hp5 : w5.heap[pb]? = some (.cells #[.int .i64 K, .int .i64 M, .int .i64 C, .int .i64 V] 23 (0, 0)) := by
                          rw [hg5.block pb (by have := HBx.out.size; simp; omega) (fun e => by have := own_ge HOx.out pb e.symm; omega), heap_alloc_old _ _ (by have := HBx.out.size; omega)]
                          exact hpx
                        have q0' : w5.cell? ⟨pb, 0, none⟩ = some (.int .i64 K) := cell_of_row _ _ _ _ 23 _ hp5
                        have q1' : w5.cell? ⟨pb, 1, none⟩ = some (.int .i64 M) := cell_of_row _ _ _ _ 23 _ hp5
                        have hcl := ctS_le ok z n (n / z)
                        have hsl : n / z < ns := by rw [Nat.div_lt_iff_lt_mul hz0, hnz]; omega
                        have k5 : w5.cell? ⟨gk, n / z, none⟩ = some (.int .i64 (ctS ok z n (n / z) : Nat)) := hk5.cell _ hsl
                        have kf : w5.frozen? ⟨gk, n / z, none⟩ = false := hk5.free _
                        have HK6 : Hid (Rw (w5.setCell ⟨gk, n / z, none⟩ (.int .i64 ((ctS ok z n (n / z) + 1 : Nat) : Int))) gk ns 3 (fun s => .int .i64 (ctS ok z (n + 1) s : Nat))) := (hk5.put (n / z) _).to (fun s _ => by
                          rw [ctS_bad hnb2]
                          show (if s = n / z then _ else _) = _
                          by_cases e : s = n / z
                          · rw [if_pos e, if_pos e, e]
                          · rw [if_neg e, if_neg e])
                        have HLE : Hid ((List.range (n + 1)).filter (fun x => !ok x) = (List.range n).filter (fun x => !ok x) ++ [n]) := by show _ = _; rw [List.range_succ, List.filter_append]; simp [hnb2]
                        have HO6 : Hid ((w5.setCell ⟨gk, n / z, none⟩ (.int .i64 ((ctS ok z n (n / z) + 1 : Nat) : Int))).ownsRow (gk + 1) 3 1 v' (((List.range n).filter (fun x => !ok x)) ++ [n]).length (unV (((List.range n).filter (fun x => !ok x)) ++ [n]))) := own_kept ho (fun y hy => set_other _ _ _ _ _ (by have := own_ge ho y hy; omega))
                        have HB6' : Hid (Below w9.heap.size w9 (w5.setCell ⟨gk, n / z, none⟩ (.int .i64 ((ctS ok z n (n / z) + 1 : Nat) : Int)))) := ((HBx.out.alloc HBx.out.size _).grown hg5 (by simp; have := HBx.out.size; omega) (fun y hy => by have := own_ge HOx.out y hy; omega)).setCell (p := ⟨gk, n / z, none⟩) (by show w9.heap.size ≤ gk; omega) _
                        obtain ⟨cv, hcv⟩ : ∃ cv, ctS ok z n (n / z) = cv := ⟨_, rfl⟩
                        obtain ⟨sv, hsv⟩ : ∃ sv, n / z = sv := ⟨_, rfl⟩
                        rw [hcv] at k5 HK6 HO6 HB6' hcl
                        rw [hsv] at k5 kf HK6 HO6 HB6' hsl
                        have d1 : (n : Int) / (z : Int) = (sv : Int) := by rw [← hsv, Int.natCast_ediv]
                        have d2 : (n : Int).tdiv (z : Int) = (sv : Int) := by rw [Int.tdiv_eq_ediv_of_nonneg (by omega)]; exact d1
                        have d3 : IntKind.i64.wrap (sv : Int) = (sv : Int) := by rw [IntKind.wrap_i64]; omega
                        have d4 : IntKind.i64.wrap (z : Int) = (z : Int) := by rw [IntKind.wrap_i64]; omega
                        have d5 : IntKind.i64.wrap ((cv : Int) + 1) = (cv : Int) + 1 := by rw [IntKind.wrap_i64]; omega
                        have d6 : (K : Int) + (M : Int) = (z : Int) := by omega
                        have d7 : (sv : Int) < (ns : Int) := by omega
                        have HRUN : Hid _ := hr
                        obtain ⟨aa1, ca1, hv1⟩ := own_shape HOx.out
                        obtain ⟨aa2, ca2, hv2⟩ := own_shape ho
                        generalize ((List.range n).filter (fun x => !ok x)).length = n1 at hv1
                        generalize (((List.range n).filter (fun x => !ok x)) ++ [n]).length = n2 at hv2
                        subst hv1 hv2
                        clear hr ho hg5 hbA hk5 hpx hp5 hnb2 hcv hsv hgk1
                        go_wp2_with (at_builtin; refine wpList_app rfl (.tmp 144) (.tmp 146) 39 rfl _ _ _ (by simp [Act.eval]) (by simp [Act.eval]) _ HRUN.out ?_)
                        go_roundw
                        case rel => exact ⟨n + 1, _, by omega, rfl, by go_num, by rw [HLE.out]; exact HO6.out, HK6.out, HN2.out, HB6'.out⟩
                        case measure => simp [intOf]; omega
                      · have hab1 : (BN.toList == PB.toList) = false := texts_ne hab
                        clear hab
                        have hnb2 : ok n = false := HOKN.out
                        have hgk1 : gk < X.heap.size := HKx.out.lt
                        obtain ⟨v', w5, hr, ho, hg5⟩ := own_int n HOx.out (by omega) (Nat.le_trans (List.length_filter_le _ _) (by simp; omega))
                        have hbA : Below X.heap.size X (X.alloc (.cells #[.int .i64 n] 3)) := (Below.refl _ _).alloc (Nat.le_refl _) _
                        have hk5 : Rw w5 gk ns 3 (fun s => .int .i64 (ctS ok z n s : Nat)) := by
                          have h1 : Rw (X.alloc (.cells #[.int .i64 n] 3)) gk ns 3 (fun s => .int .i64 (ctS ok z n s : Nat)) := HKx.out.alloc _
                          exact (hg5.block gk h1.lt (fun e => by have := own_ge HOx.out gk e.symm; omega)).trans h1
                        have hpx : X.heap[pb]? = some (.cells #[.int .i64 K, .int .i64 M, .int .i64 C, .int .i64 V] 23 (0, 0)) := (HBx.out.block pb hpb9).trans HP9.out
                        have hp5 : w5.heap[pb]? = some (.cells #[.int .i64 K, .int .i64 M, .int .i64 C, .int .i64 V] 23 (0, 0)) := by
                          rw [hg5.block pb (by have := HBx.out.size; simp; omega) (fun e => by have := own_ge HOx.out pb e.symm; omega), heap_alloc_old _ _ (by have := HBx.out.size; omega)]
                          exact hpx
                        have q0' : w5.cell? ⟨pb, 0, none⟩ = some (.int .i64 K) := cell_of_row _ _ _ _ 23 _ hp5
                        have q1' : w5.cell? ⟨pb, 1, none⟩ = some (.int .i64 M) := cell_of_row _ _ _ _ 23 _ hp5
                        have hcl := ctS_le ok z n (n / z)
                        have hsl : n / z < ns := by rw [Nat.div_lt_iff_lt_mul hz0, hnz]; omega
                        have k5 : w5.cell? ⟨gk, n / z, none⟩ = some (.int .i64 (ctS ok z n (n / z) : Nat)) := hk5.cell _ hsl
                        have kf : w5.frozen? ⟨gk, n / z, none⟩ = false := hk5.free _
                        have HK6 : Hid (Rw (w5.setCell ⟨gk, n / z, none⟩ (.int .i64 ((ctS ok z n (n / z) + 1 : Nat) : Int))) gk ns 3 (fun s => .int .i64 (ctS ok z (n + 1) s : Nat))) := (hk5.put (n / z) _).to (fun s _ => by
                          rw [ctS_bad hnb2]
                          show (if s = n / z then _ else _) = _
                          by_cases e : s = n / z
                          · rw [if_pos e, if_pos e, e]
                          · rw [if_neg e, if_neg e])
                        have HLE : Hid ((List.range (n + 1)).filter (fun x => !ok x) = (List.range n).filter (fun x => !ok x) ++ [n]) := by show _ = _; rw [List.range_succ, List.filter_append]; simp [hnb2]
                        have HO6 : Hid ((w5.setCell ⟨gk, n / z, none⟩ (.int .i64 ((ctS ok z n (n / z) + 1 : Nat) : Int))).ownsRow (gk + 1) 3 1 v' (((List.range n).filter (fun x => !ok x)) ++ [n]).length (unV (((List.range n).filter (fun x => !ok x)) ++ [n]))) := own_kept ho (fun y hy => set_other _ _ _ _ _ (by have := own_ge ho y hy; omega))
                        have HB6' : Hid (Below w9.heap.size w9 (w5.setCell ⟨gk, n / z, none⟩ (.int .i64 ((ctS ok z n (n / z) + 1 : Nat) : Int)))) := ((HBx.out.alloc HBx.out.size _).grown hg5 (by simp; have := HBx.out.size; omega) (fun y hy => by have := own_ge HOx.out y hy; omega)).setCell (p := ⟨gk, n / z, none⟩) (by show w9.heap.size ≤ gk; omega) _
                        obtain ⟨cv, hcv⟩ : ∃ cv, ctS ok z n (n / z) = cv := ⟨_, rfl⟩
                        obtain ⟨sv, hsv⟩ : ∃ sv, n / z = sv := ⟨_, rfl⟩
                        rw [hcv] at k5 HK6 HO6 HB6' hcl
                        rw [hsv] at k5 kf HK6 HO6 HB6' hsl
                        have d1 : (n : Int) / (z : Int) = (sv : Int) := by rw [← hsv, Int.natCast_ediv]
                        have d2 : (n : Int).tdiv (z : Int) = (sv : Int) := by rw [Int.tdiv_eq_ediv_of_nonneg (by omega)]; exact d1
                        have d3 : IntKind.i64.wrap (sv : Int) = (sv : Int) := by rw [IntKind.wrap_i64]; omega
                        have d4 : IntKind.i64.wrap (z : Int) = (z : Int) := by rw [IntKind.wrap_i64]; omega
                        have d5 : IntKind.i64.wrap ((cv : Int) + 1) = (cv : Int) + 1 := by rw [IntKind.wrap_i64]; omega
                        have d6 : (K : Int) + (M : Int) = (z : Int) := by omega
                        have d7 : (sv : Int) < (ns : Int) := by omega
                        have HRUN : Hid _ := hr
                        obtain ⟨aa1, ca1, hv1⟩ := own_shape HOx.out
                        obtain ⟨aa2, ca2, hv2⟩ := own_shape ho
                        generalize ((List.range n).filter (fun x => !ok x)).length = n1 at hv1
                        generalize (((List.range n).filter (fun x => !ok x)) ++ [n]).length = n2 at hv2
                        subst hv1 hv2
                        clear hr ho hg5 hbA hk5 hpx hp5 hnb2 hcv hsv hgk1
                        go_wp2_with (at_builtin; refine wpList_app rfl (.tmp 144) (.tmp 146) 39 rfl _ _ _ (by simp [Act.eval]) (by simp [Act.eval]) _ HRUN.out ?_)
                        go_roundw
                        case rel => exact ⟨n + 1, _, by omega, rfl, by go_num, by rw [HLE.out]; exact HO6.out, HK6.out, HN2.out, HB6'.out⟩
                        case measure => simp [intOf]; omega
                    · have hth2 : ou = false ∧ n < cu := by
                        have := HTHE.out
                        simpa using this
                      obtain ⟨db, hdb⟩ : ∃ db, decide (BN ≠ PB ∧ leafT (ofT kt) BN = leafT (ofT kt) PB) = db := ⟨_, rfl⟩
                      rw [hdb] at HCL
                      have HDB : Hid _ := hdb
                      clear hdb
                      go_wp2_with fail
                      refine Calls.mono (HCL.out _) ?_
                      rintro e X ⟨rfl, hb3⟩
                      have h1X : Below wr.heap.size wr X := by
                        have h1 : Below wr.heap.size wr (wr.drewN (m1 + m2)) := below_drewN (Below.refl _ _) _
                        exact h1.trans (hb3.mono h1.size)
                      have HOx : Hid (X.ownsRow (gk + 1) 3 1 vb ((List.range n).filter (fun x => !ok x)).length (unV ((List.range n).filter (fun x => !ok x)))) := own_below HOb.out h1X
                      have HKx : Hid (Rw X gk ns 3 (fun s => .int .i64 (ctS ok z n s : Nat))) := HKb.out.below h1X HKb.out.lt
                      have HBx : Hid (Below w9.heap.size w9 X) := HBk.out.trans (h1X.mono HBk.out.size)
                      have HWX : Hid (Below w.heap.size w X) := Hwk.out.trans (h1X.mono Hwk.out.size)
                      clear hb3 h1X HCL HB1 HB2 HTH c5
                      cases db
                      · have hdd := of_decide_eq_false HDB.out
                        have HN2 : Hid _ := HSTEP.out (fun _ _ h3 => Classical.byContradiction (fun h4 => hdd ⟨h4, h3⟩))
                        by_cases hab : BN = PB
                        · have hab1 : (BN.toList == PB.toList) = true := texts_eq hab
                          have hnb2 : ok n = true := by rw [HOKE.out]; exact decide_eq_true ⟨hth2, hab.symm⟩
                          have HLE : Hid ((List.range (n + 1)).filter (fun x => !ok x) = (List.range n).filter (fun x => !ok x)) := by show _ = _; rw [List.range_succ, List.filter_append]; simp [hnb2]
                          have HK6 : Hid (Rw X gk ns 3 (fun s => .int .i64 (ctS ok z (n + 1) s : Nat))) := HKx.out.to (fun s _ => by rw [ctS_ok hnb2])
                          clear hab hnb2 hdd HSTEP HOKE
                          go_wp2_with fail
                          go_roundw
                          case rel => exact ⟨n + 1, vb, by omega, rfl, by go_num, by rw [HLE.out]; exact HOx.out, HK6.out, HN2.out, HBx.out⟩
                          case measure => simp [intOf]; omega
                        · have hab1 : (BN.toList == PB.toList) = false := texts_ne hab
                          have HOKN : Hid (ok n = false) := by show _ = _; rw [HOKE.out]; exact decide_eq_false (fun hh => hab hh.2.symm)
                          clear hab hdd HSTEP HOKE
                          have hnb2 : ok n = false := HOKN.out
                          have hgk1 : gk < X.heap.size := HKx.out.lt
                          obtain ⟨v', w5, hr, ho, hg5⟩ := own_int n HOx.out (by omega) (Nat.le_trans (List.length_filter_le _ _) (by simp; omega))
                          have hbA : Below X.heap.size X (X.alloc (.cells #[.int .i64 n] 3)) := (Below.refl _ _).alloc (Nat.le_refl _) _
                          have hk5 : Rw w5 gk ns 3 (fun s => .int .i64 (ctS ok z n s : Nat)) := by
                            have h1 : Rw (X.alloc (.cells #[.int .i64 n] 3)) gk ns 3 (fun s => .int .i64 (ctS ok z n s : Nat)) := HKx.out.alloc _
                            exact (hg5.block gk h1.lt (fun e => by have := own_ge HOx.out gk e.symm; omega)).trans h1
                          have hpx : X.heap[pb]? = some (.cells #[.int .i64 K, .int .i64 M, .int .i64 C, .int .i64 V] 23 (0, 0)) := (HBx.out.block pb hpb9).trans HP9.out
                          have hp5 : w5.heap[pb]? = some (.cells #[.int .i64 K, .int .i64 M, .int .i64 C, .int .i64 V] 23 (0, 0)) := by
                            rw [hg5.block pb (by have := HBx.out.size; simp; omega) (fun e => by have := own_ge HOx.out pb e.symm; omega), heap_alloc_old _ _ (by have := HBx.out.size; omega)]
                            exact hpx
                          have q0' : w5.cell? ⟨pb, 0, none⟩ = some (.int .i64 K) := cell_of_row _ _ _ _ 23 _ hp5
                          have q1' : w5.cell? ⟨pb, 1, none⟩ = some (.int .i64 M) := cell_of_row _ _ _ _ 23 _ hp5
                          have hcl := ctS_le ok z n (n / z)
                          have hsl : n / z < ns := by rw [Nat.div_lt_iff_lt_mul hz0, hnz]; omega
                          have k5 : w5.cell? ⟨gk, n / z, none⟩ = some (.int .i64 (ctS ok z n (n / z) : Nat)) := hk5.cell _ hsl
                          have kf : w5.frozen? ⟨gk, n / z, none⟩ = false := hk5.free _
                          have HK6 : Hid (Rw (w5.setCell ⟨gk, n / z, none⟩ (.int .i64 ((ctS ok z n (n / z) + 1 : Nat) : Int))) gk ns 3 (fun s => .int .i64 (ctS ok z (n + 1) s : Nat))) := (hk5.put (n / z) _).to (fun s _ => by
                            rw [ctS_bad hnb2]
                            show (if s = n / z then _ else _) = _
                            by_cases e : s = n / z
                            · rw [if_pos e, if_pos e, e]
                            · rw [if_neg e, if_neg e])
                          have HLE : Hid ((List.range (n + 1)).filter (fun x => !ok x) = (List.range n).filter (fun x => !ok x) ++ [n]) := by show _ = _; rw [List.range_succ, List.filter_append]; simp [hnb2]
                          have HO6 : Hid ((w5.setCell ⟨gk, n / z, none⟩ (.int .i64 ((ctS ok z n (n / z) + 1 : Nat) : Int))).ownsRow (gk + 1) 3 1 v' (((List.range n).filter (fun x => !ok x)) ++ [n]).length (unV (((List.range n).filter (fun x => !ok x)) ++ [n]))) := own_kept ho (fun y hy => set_other _ _ _ _ _ (by have := own_ge ho y hy; omega))
                          have HB6' : Hid (Below w9.heap.size w9 (w5.setCell ⟨gk, n / z, none⟩ (.int .i64 ((ctS ok z n (n / z) + 1 : Nat) : Int)))) := ((HBx.out.alloc HBx.out.size _).grown hg5 (by simp; have := HBx.out.size; omega) (fun y hy => by have := own_ge HOx.out y hy; omega)).setCell (p := ⟨gk, n / z, none⟩) (by show w9.heap.size ≤ gk; omega) _
                          obtain ⟨cv, hcv⟩ : ∃ cv, ctS ok z n (n / z) = cv := ⟨_, rfl⟩
                          obtain ⟨sv, hsv⟩ : ∃ sv, n / z = sv := ⟨_, rfl⟩
                          rw [hcv] at k5 HK6 HO6 HB6' hcl
                          rw [hsv] at k5 kf HK6 HO6 HB6' hsl
                          have d1 : (n : Int) / (z : Int) = (sv : Int) := by rw [← hsv, Int.natCast_ediv]
                          have d2 : (n : Int).tdiv (z : Int) = (sv : Int) := by rw [Int.tdiv_eq_ediv_of_nonneg (by omega)]; exact d1
                          have d3 : IntKind.i64.wrap (sv : Int) = (sv : Int) := by rw [IntKind.wrap_i64]; omega
                          have d4 : IntKind.i64.wrap (z : Int) = (z : Int) := by rw [IntKind.wrap_i64]; omega
                          have d5 : IntKind.i64.wrap ((cv : Int) + 1) = (cv : Int) + 1 := by rw [IntKind.wrap_i64]; omega
                          have d6 : (K : Int) + (M : Int) = (z : Int) := by omega
                          have d7 : (sv : Int) < (ns : Int) := by omega
                          have HRUN : Hid _ := hr
                          obtain ⟨aa1, ca1, hv1⟩ := own_shape HOx.out
                          obtain ⟨aa2, ca2, hv2⟩ := own_shape ho
                          generalize ((List.range n).filter (fun x => !ok x)).length = n1 at hv1
                          generalize (((List.range n).filter (fun x => !ok x)) ++ [n]).length = n2 at hv2
                          subst hv1 hv2
                          clear hr ho hg5 hbA hk5 hpx hp5 hnb2 hcv hsv hgk1
                          go_wp2_with (at_builtin; refine wpList_app rfl (.tmp 144) (.tmp 146) 39 rfl _ _ _ (by simp [Act.eval]) (by simp [Act.eval]) _ HRUN.out ?_)
                          go_roundw
                          case rel => exact ⟨n + 1, _, by omega, rfl, by go_num, by rw [HLE.out]; exact HO6.out, HK6.out, HN2.out, HB6'.out⟩
                          case measure => simp [intOf]; omega
                      · go_wp2_with fail
                        go_ret
                        exact ⟨rfl, HWX.out⟩
                  · have hin5 : ¬ (n : Int) < (cn : Int) := by omega
                    obtain ⟨w11, hw11⟩ : ∃ w11, w11 = wr := ⟨_, rfl⟩
                    have hnc : n = cn := by omega
                    rw [← hw11] at HOb HKb HBk HWk HBl H4k Hwk c5 ⊢
                    rw [hnc] at HOb HKb
                    have HNN : Hid (∀ u j, u < V → u * cn / V + j < (u + 1) * cn / V → out u = false → u * cn / V + j < cut u → leafT (ofT kt) (BK (u * cn / V + j)) = leafT (ofT kt) (pc (R u) C j) → BK (u * cn / V + j) = pc (R u) C j) := fun u j hu hj => HNO.out u j hu hj (by
                      have := rng_top (nb := cn) (v := u + 1) hV1 (by omega)
                      omega)
                    clear hw11 hnc HNO hlt4 hn
                    have hgk11 : gk < w11.heap.size := HKb.out.lt
                    have HPb : Hid (w11.heap[pb]? = some (.cells #[.int .i64 K, .int .i64 M, .int .i64 C, .int .i64 V] 23 (0, 0))) := (HBk.out.block pb hpb9).trans HP9.out
                    go_wp2_with fail
                    clear c5
                    go_loopw [28, 29] (fun sv iv wr => ∃ (i : Nat) (vs : Value), i ≤ ns ∧ vs = sv ∧ iv = .int .i64 i ∧ wr.ownsRow w11.heap.size 3 1 vs ((List.range i).filter (fun s => decide (M < ctS ok z cn s))).length (unV ((List.range i).filter (fun s => decide (M < ctS ok z cn s)))) ∧ Below w11.heap.size w11 wr) (fun _ iv _ => ns - (intOf iv).toNat)
                    case atStart => exact ⟨0, _, by omega, rfl, rfl, ⟨rfl, .inl ⟨rfl, rfl⟩⟩, Below.refl _ _⟩
                    case round =>
                      obtain ⟨i5, vs, hi5, rfl, rfl, hO5, hb5⟩ := hrel
                      have HO5 : Hid (wr.ownsRow w11.heap.size 3 1 vs ((List.range i5).filter (fun s => decide (M < ctS ok z cn s))).length (unV ((List.range i5).filter (fun s => decide (M < ctS ok z cn s))))) := hO5
                      have HB5 : Hid (Below w11.heap.size w11 wr) := hb5
                      clear hO5 hb5
                      have hrow : wr.heap[pb]? = some (.cells #[.int .i64 K, .int .i64 M, .int .i64 C, .int .i64 V] 23 (0, 0)) := (HB5.out.block pb (Array.getElem?_eq_some_iff.1 HPb.out).1).trans HPb.out
                      have p1 : wr.cell? ⟨pb, 1, none⟩ = some (.int .i64 M) := cell_of_row _ _ _ _ 23 _ hrow
                      have HWq : Hid (Wrk wl.heap.size wb gl go gc cc x gf cf gp cp K M C V ns cn pl (fun _ => false) out cut wr) := HWk.out.below HB5.out
                      have c4 : wr.cell? ⟨x, 4, none⟩ = some (.int .i64 ns) := cell_of_row _ _ _ _ 84 _ HWq.out.pln.row
                      clear hrow
                      by_cases hlt5 : i5 < ns
                      · have hin6 : (i5 : Int) < (ns : Int) := by omega
                        have hKr : Rw wr gk ns 3 (fun s => .int .i64 (ctS ok z cn s : Nat)) := HKb.out.below HB5.out hgk11
                        have k1 := hKr.cell i5 hlt5
                        have hcl := ctS_le ok z cn i5
                        obtain ⟨cs, hcs⟩ : ∃ cs, ctS ok z cn i5 = cs := ⟨_, rfl⟩
                        have k1' : wr.cell? ⟨gk, i5, none⟩ = some (.int .i64 (cs : Nat)) := by rw [← hcs]; exact k1
                        rw [hcs] at hcl
                        have HCS : Hid _ := hcs
                        clear hKr k1 hcs
                        by_cases hgt : M < cs
                        · have hgt' : (M : Int) < (cs : Int) := by omega
                          have HE : Hid ((List.range (i5 + 1)).filter (fun s => decide (M < ctS ok z cn s)) = (List.range i5).filter (fun s => decide (M < ctS ok z cn s)) ++ [i5]) := by show _ = _; rw [List.range_succ, List.filter_append]; simp [HCS.out, hgt]
                          go_wp2_with fail
                          go_quiet (fail)
                          obtain ⟨X, hX⟩ : ∃ X, wr.drewN nq = X := ⟨_, rfl⟩
                          have HOX : Hid (X.ownsRow w11.heap.size 3 1 vs ((List.range i5).filter (fun s => decide (M < ctS ok z cn s))).length (unV ((List.range i5).filter (fun s => decide (M < ctS ok z cn s))))) := by show World.ownsRow _ _ _ _ _ _ _; rw [← hX]; exact own_kept HO5.out (fun _ _ => rfl)
                          have HBX : Hid (Below w11.heap.size w11 X) := by show Below _ _ _; rw [← hX]; exact below_drewN HB5.out _
                          rw [hX]
                          obtain ⟨v', w2, hr, ho, hg⟩ := own_int i5 HOX.out HBX.out.size (Nat.le_trans (List.length_filter_le _ _) (by simp; omega))
                          have HRUN : Hid _ := hr
                          have HO2 : Hid _ := ho
                          have HB2 : Hid (Below w11.heap.size w11 w2) := (HBX.out.alloc HBX.out.size _).grown hg (by simp; have := HBX.out.size; omega) (fun y hy => own_ge HOX.out y hy)
                          obtain ⟨aa1, ca1, hv1⟩ := own_shape HOX.out
                          obtain ⟨aa2, ca2, hv2⟩ := own_shape ho
                          generalize ((List.range i5).filter (fun s => decide (M < ctS ok z cn s))).length = n1 at hv1
                          generalize (((List.range i5).filter (fun s => decide (M < ctS ok z cn s))) ++ [i5]).length = n2 at hv2
                          subst hv1 hv2
                          clear hr ho hg hX
                          go_wp2_with (at_builtin; refine wpList_app rfl (.tmp 175) (.tmp 177) 39 rfl _ _ _ (by simp [Act.eval]) (by simp [Act.eval]) _ HRUN.out ?_)
                          go_roundw
                          case rel => exact ⟨i5 + 1, _, by omega, rfl, by go_num, by rw [HE.out]; exact HO2.out, HB2.out⟩
                          case measure => simp [intOf]; omega
                        · have hgt' : ¬ (M : Int) < (cs : Int) := by omega
                          have HE : Hid ((List.range (i5 + 1)).filter (fun s => decide (M < ctS ok z cn s)) = (List.range i5).filter (fun s => decide (M < ctS ok z cn s))) := by show _ = _; rw [List.range_succ, List.filter_append]; simp [HCS.out]; omega
                          go_wp2_with fail
                          go_quiet (fail)
                          go_wp2_with fail
                          go_roundw
                          case rel => exact ⟨i5 + 1, vs, by omega, rfl, by go_num, by rw [HE.out]; exact own_kept HO5.out (fun _ _ => rfl), below_drewN HB5.out _⟩
                          case measure => simp [intOf]; omega
                      · have hin6 : ¬ (i5 : Int) < (ns : Int) := by omega
                        have hin6' : i5 = ns := by omega
                        have hsh : (List.range ns).filter (fun s => decide (M < ctS ok z cn s)) = shL ok K M ns := by
                          unfold shL
                          apply List.filter_congr
                          intro s hs
                          rw [← hnz, ctS_end hz0 (List.mem_range.1 hs), hz]
                        obtain ⟨s12, hs12⟩ : ∃ s12, s12 = wr := ⟨_, rfl⟩
                        rw [← hs12] at HO5 HB5 HWq c4 ⊢
                        rw [hin6', hsh] at HO5
                        clear hin6' hsh hs12 p1 hlt5 hi5
                        obtain ⟨LS, hLS⟩ : ∃ LS, shL ok K M ns = LS := ⟨_, rfl⟩
                        obtain ⟨LB, hLB⟩ : ∃ LB, (List.range cn).filter (fun x => !ok x) = LB := ⟨_, rfl⟩
                        obtain ⟨LA, hLA⟩ : ∃ LA, (List.range V).filter (fun u => out u) = LA := ⟨_, rfl⟩
                        have hLSn : LS.length ≤ 1000000 := by rw [← hLS]; unfold shL; exact Nat.le_trans (List.length_filter_le _ _) (by simp; omega)
                        have hLBn : LB.length ≤ 1000000 := by rw [← hLB]; exact Nat.le_trans (List.length_filter_le _ _) (by simp; omega)
                        have hLAn : LA.length ≤ 1000000 := by rw [← hLA]; exact Nat.le_trans (List.length_filter_le _ _) (by simp; omega)
                        rw [hLS] at HO5
                        rw [hLB] at HOb
                        rw [hLA] at HO
                        have H912 : Hid (Below w9.heap.size w9 s12) := HBk.out.trans (HB5.out.mono HBk.out.size)
                        have HOA : Hid (s12.ownsRow w8.heap.size 3 1 va LA.length (unV LA)) := own_below HO.out H912.out
                        have HOB : Hid (s12.ownsRow (gk + 1) 3 1 vb LB.length (unV LB)) := own_below HOb.out HB5.out
                        have HOS : Hid (s12.ownsRow w11.heap.size 3 1 vs LS.length (unV LS)) := HO5.out
                        have Hl12 : Hid (Below wl.heap.size wl s12) := HBl.out.trans (HB5.out.mono HBl.out.size)
                        have H412 : Hid (Below s4.heap.size s4 s12) := H4k.out.trans (HB5.out.mono H4k.out.size)
                        have Hw12 : Hid (Below w.heap.size w s12) := Hwk.out.trans (HB5.out.mono Hwk.out.size)
                        have HVH : Hid (VRw s12 gh V L) := VRw.kept HVr.out (Hl12.out.block gh (VRw.lt HVr.out))
                        have HRT : Hid _ := rest_any (cv := ch) HWq.out hV2 hC2 (by omega) (fun u hu => HBD.out.bpl u hu) HVH.out HC.out.lo HC.out.hi (fun u hu => by rw [HL.out u hu, ByteArray.size_append, HSZ.out u hu, HPL.out u hu])
                        have HLP : Hid _ := hLS
                        have HLQ : Hid _ := hLB
                        have HLR : Hid _ := hLA
                        clear hLS hLB hLA HO HOb HO5 HKb HB3 HBk HP9 HP8 HPb
                        go_wp2_with fail
                        clear c4
                        refine Calls.mono HRT.out ?_
                        rintro e s13 ⟨v9, H9, n9, rfl, hO9, hT9, hb9⟩
                        have hn9 : n9 = (kpL out V).length := by have := congrArg List.length hT9; simpa [texL] using this
                        have hn90 : 0 < n9 := by
                          obtain ⟨u, hu, ho⟩ := HC.out.left
                          have := List.length_pos_of_mem (kpL_mem.2 ⟨hu, ho⟩)
                          omega
                        have hn95 : n9 ≤ 5 := by have := kpL_len out V; omega
                        obtain ⟨g9, cap9, rfl, hg9, hg9l, hC9⟩ := own_row9 hO9 hn90
                        have Hw13 : Hid (Below w.heap.size w s13) := Hw12.out.trans (hb9.mono Hw12.out.size)
                        have H1213 : Hid (Below s12.heap.size s12 s13) := hb9
                        have HTT : Hid ((texL H9 n9) = (kpL out V).map (fun u => HD u ++ (R u).extract 0 ((cut u - u * cn / V) * C))) := by
                          show _ = _
                          rw [hT9]
                          apply List.map_congr_left
                          intro u hu
                          have hu' := (kpL_mem.1 hu).1
                          unfold rsT
                          rw [HL.out u hu', HPL.out u hu', ext_hd]
                        have hrt : RO = ⟨#[]⟩ ∨ RO = rtT kt K M C V (datOf F q0) (nmF F q0) := .inr HRE.out.symm
                        obtain ⟨hex, hall⟩ := HEP.out HSZ.out HC.out.lo HC.out.hi HC.out.left HOK.out HNN.out (H := H9) hn9 (by rw [HTT.out]) hrt
                        have hsz9 : ∀ i, i < n9 → (H9 i).size ≤ 140737488351232 := fun i hi => by
                          obtain ⟨s, t0, _, hrun, _⟩ := hex
                          have hP := hall s t0 ⟨‹_›, hrun, ‹_›⟩
                          have := (run_good n9 s hrun hP.un).1 i hi
                          have h2 := rd_none (same3_L this.1 this.1 ⟨rfl, rfl, rfl⟩).2.1
                          omega
                        have HEX : Hid _ := hex
                        have HALL : Hid _ := hall
                        have HOP : Hid _ := opened_any kt RO H9 (some ⟨g9, 0, none⟩) n9 cap9 s13 (HG.out.below Hw13.out) (by omega) hsz9 (.inr ⟨_, rfl, fun i hi => ⟨g9, 0, rfl, hg9l, by rw [Nat.zero_add]; exact hC9 i hi⟩⟩)
                        clear hn9 hO9 hT9 hb9 hg9 hg9l hC9 hrt hex hall hsz9 HRT HVH HTT HNN HOK
                        go_wp2_with fail
                        refine Calls.mono HOP.out ?_
                        rintro e s14 ⟨hB14, ⟨rfl, hno'⟩ | ⟨B, vv, rfl, hBl, hBu, s, t0, kb, g, p, q, f, un, hop, hr0, hBv, ⟨hBq, hBf⟩, hVL, hVS⟩⟩
                        · obtain ⟨s, t0, h⟩ := HEX.out
                          exact absurd h (hno' s t0)
                        have hPk := HALL.out s t0 hop
                        have hT : Told1 (tT t0) := ck_ok (rd_none hr0).2.1
                        have hle := told_len (RS.on t0)
                        obtain ⟨T, hTe⟩ : ∃ T, tT t0 = T := ⟨_, rfl⟩
                        obtain ⟨vT, lT, hTl⟩ := hPk.T
                        have hun := hPk.un
                        have hab := hPk.ab
                        have hba := hPk.ba
                        have hsh := hPk.sh
                        have hfo := hPk.fo
                        have hfin := hPk.fin
                        have hobj := hPk.obj
                        have hle' : (tT t0).L.es.length ≤ 16 ∧ lenE (tT t0).L.es ≤ 4096 := hle
                        have hVS' : VS kt B kb g p q f (tT t0) un s.un s.rd s.bl (fun _ => false) (fun _ => 0) (fun _ => .slice none 0 0) s14 := hVS
                        rw [hTe] at hTl hab hba hsh hfo hfin hobj hle' hT hVS'
                        rw [hun] at hVS'
                        rw [HLR.out] at hab
                        rw [HLQ.out] at hba
                        rw [HLP.out] at hsh hfin
                        have hEs : T.L.es = esF F q0 := hTl.es
                        have hsz13 := Hw13.out.size
                        have HF14 : Hid (Below s13.heap.size s13 s14) := hB14
                        have hlt14 : q < s14.heap.size ∧ f < s14.heap.size ∧ vv < s14.heap.size := ⟨hVS'.blR.lt, hVS'.fiR.lt, (Array.getElem?_eq_some_iff.1 hVL).1⟩
                        have Hw14 : Hid (Below w.heap.size w s14) := Hw13.out.trans (hB14.mono Hw13.out.size)
                        have HVV : Hid _ := vverify kt B vv kb g p q f T un [] s.rd s.bl (fun _ => false) (fun _ => 0) (fun _ => .slice none 0 0) s14 hVL hVS' hT hle' (by simp) (HG.out.below Hw14.out) hBu (by omega)
                        have HAB : Hid _ := hab
                        have HBA : Hid _ := hba
                        have HSH : Hid _ := hsh
                        have HFO : Hid _ := hfo
                        have HFI : Hid _ := hfin
                        have HOJ : Hid _ := hobj
                        have HES : Hid _ := hEs
                        have HLE : Hid _ := hle'
                        have HTO : Hid _ := hT
                        clear hPk hT hle hTe hTl hun hab hba hsh hfo hfin hobj hle' hVS hVS' hVL hop hr0 hB14 HEX HALL HOP hEs
                        go_wp2_with fail
                        refine Calls.mono HVV.out ?_
                        rintro e s15 ⟨zs', bd', ra, rb, rc, rd', ru, rfl, hv15, hS15, hF15, o1, o2, o3, o4, o5⟩
                        rw [HAB.out] at o2
                        rw [HBA.out] at o3
                        rw [HSH.out] at o4
                        rw [HFO.out] at o5
                        obtain ⟨xa1, ya1, h1⟩ := own_shape o1
                        obtain ⟨xb1, yb1, h2⟩ := own_shape o2
                        obtain ⟨xc1, yc1, h3⟩ := own_shape o3
                        obtain ⟨xd1, yd1, h4⟩ := own_shape o4
                        obtain ⟨xu1, yu1, h5⟩ := own_shape o5
                        obtain ⟨a2, c2, h6⟩ := own_shape HOA.out
                        obtain ⟨b2, d2, h7⟩ := own_shape HOB.out
                        obtain ⟨e2, f2, h8⟩ := own_shape HOS.out
                        subst h1 h2 h3 h4 h5 h6 h7 h8
                        have hQ15 : Fr (Q3 q f vv) s14 s15 := hF15
                        have h1315 : Below s13.heap.size s13 s15 := HF14.out.trans (hQ15.lowB s13.heap.size HF14.out.size (fun j hj e => by rcases e with e | e | e <;> omega))
                        have h1215 : Below s12.heap.size s12 s15 := H1213.out.trans (h1315.mono H1213.out.size)
                        have Hw15 : Hid (Below w.heap.size w s15) := Hw13.out.trans (h1315.mono Hw13.out.size)
                        have H415 : Hid (Below s4.heap.size s4 s15) := H412.out.trans (h1215.mono H412.out.size)
                        have HOA5 : Hid _ := own_below HOA.out h1215
                        have HOB5 : Hid _ := own_below HOB.out h1215
                        have HOS5 : Hid _ := own_below HOS.out h1215
                        have HP15 : Hid (Pln x gf cf gp cp K M C V ns cn pl s15) := HWq.out.pln.below (by have a := HWq.out.lo; have b := HWq.out.hi; have c := HWq.out.lt; omega) h1215
                        obtain ⟨Y, hY⟩ : ∃ Y, s15.alloc (.cells #[.slice xa1 0 ya1, .slice xb1 LA.length yb1, .slice xc1 LB.length yc1, .slice xd1 LS.length yd1, .slice xu1 0 yu1] 99) = Y := ⟨_, rfl⟩
                        have hbY : Below s15.heap.size s15 Y := by rw [← hY]; exact (Below.refl _ _).alloc (Nat.le_refl _) _
                        obtain ⟨yb, hyb⟩ : ∃ yb, s15.heap.size = yb := ⟨_, rfl⟩
                        have hYr : Y.heap[yb]? = some (.cells #[.slice xa1 0 ya1, .slice xb1 LA.length yb1, .slice xc1 LB.length yc1, .slice xd1 LS.length yd1, .slice xu1 0 yu1] 99 (0, 0)) := by rw [← hY, ← hyb]; exact heap_alloc_new _ _
                        have y0 : Y.cell? ⟨yb, 0, none⟩ = some (.slice xa1 0 ya1) := cell_of_row _ _ _ _ 99 _ hYr
                        have y1 : Y.cell? ⟨yb, 1, none⟩ = some (.slice xb1 LA.length yb1) := cell_of_row _ _ _ _ 99 _ hYr
                        have y2 : Y.cell? ⟨yb, 2, none⟩ = some (.slice xc1 LB.length yc1) := cell_of_row _ _ _ _ 99 _ hYr
                        have y3 : Y.cell? ⟨yb, 3, none⟩ = some (.slice xd1 LS.length yd1) := cell_of_row _ _ _ _ 99 _ hYr
                        have y4 : Y.cell? ⟨yb, 4, none⟩ = some (.slice xu1 0 yu1) := cell_of_row _ _ _ _ 99 _ hYr
                        have HS1 : Hid (∀ j, _) := fun j => sameInts_any LB xc1 b2 yc1 d2 (Y.drewN j) hLBn (own_ir (own_kept (own_below o3 hbY) (fun _ _ => rfl)) rfl) (own_ir (own_kept (own_below HOB5.out hbY) (fun _ _ => rfl)) rfl)
                        have HS2 : Hid (∀ j, _) := fun j => sameInts_any LS xd1 e2 yd1 f2 (Y.drewN j) hLSn (own_ir (own_kept (own_below o4 hbY) (fun _ _ => rfl)) rfl) (own_ir (own_kept (own_below HOS5.out hbY) (fun _ _ => rfl)) rfl)
                        have HS3 : Hid (∀ j, _) := fun j => sameInts_any LA xb1 a2 yb1 c2 (Y.drewN j) hLAn (own_ir (own_kept (own_below o2 hbY) (fun _ _ => rfl)) rfl) (own_ir (own_kept (own_below HOA5.out hbY) (fun _ _ => rfl)) rfl)
                        have HVY : Hid (∀ j, VK kt B vv kb g p q f T un [] s.rd s.bl (Y.drewN j)) := fun j => (show VK kt B vv kb g p q f T un [] s.rd s.bl s15 from ⟨hv15, _, _, _, hS15⟩).below (below_drewN hbY j)
                        have HwY : Hid (Below w.heap.size w Y) := Hw15.out.trans (hbY.mono Hw15.out.size)
                        have H4Y : Hid (Below s4.heap.size s4 Y) := H415.out.trans (hbY.mono H415.out.size)
                        have HPY : Hid (∀ j, Pln x gf cf gp cp K M C V ns cn pl (Y.drewN j)) := fun j => (HP15.out.below (by have := h1215.size; have a := HWq.out.lo; have b := HWq.out.hi; have c := HWq.out.lt; omega) hbY).kept (fun _ _ => rfl)
                        have HIS : Hid (∀ j, IR (Y.drewN j) e2 LS) := fun j => own_ir (own_kept (own_below HOS5.out hbY) (fun _ _ => rfl)) rfl
                        have HLY : Hid (OwnF Y s2.heap.size (.slice la q0 lc) q0 F) := HO4.out.low (fun r hr => own_lt HO4.out r hr) H4Y.out
                        obtain ⟨la', lc', hle2, hLc⟩ := OwnF.cells HLY.out
                        obtain ⟨rfl, rfl⟩ : la = la' ∧ lc = lc' := by simpa using hle2
                        have HEY : Hid (∀ j, (Y.drewN j).cell? ⟨0, 0, none⟩ = some (.iface 376 (rt 63))) := fun j => (HwY.out.cell (p := ⟨0, 0, none⟩) (block_lt_of_cell HER.out)).trans HER.out
                        have hYs : s14.heap.size ≤ Y.heap.size := Nat.le_trans hQ15.size hbY.size
                        have HPA : Hid (∀ j, _) := fun j => partly_any kt B vv kb g p q f T un [] s.rd s.bl F q0 lc la x gf cf gp cp K M C V ns cn pl LS e2 f2 (Y.drewN j) (HVY.out j) HTO.out HLE.out (HG.out.below (below_drewN HwY.out j)) (HEY.out j) (by show B ≤ Y.heap.size; omega) (by omega) (by omega) (by omega) (by omega) (HPY.out j) hV1 hK1 hK2 hC1 hC2 hq HS.out hLc HES.out (HIS.out j) hLSn HFI.out HOJ.out
                        have HYE : Hid _ := hY
                        have HYB : Hid _ := hyb
                        have hwY : w.heap.size ≤ Y.heap.size := HwY.out.size
                        have hybl : yb < Y.heap.size := (Array.getElem?_eq_some_iff.1 hYr).1
                        have hyq : q < yb ∧ f < yb ∧ vv < yb := by have := hQ15.size; omega
                        have hq4 : w.heap.size ≤ q ∧ w.heap.size ≤ f ∧ w.heap.size ≤ vv := by omega
                        generalize LA.length = nA at *
                        generalize LB.length = nB at *
                        generalize LS.length = nS at *
                        clear hv15 hS15 hF15 o1 o2 o3 o4 o5 hQ15 h1315 h1215 hbY hYr hle2 hLc HOA HOB HOS HOA5 HOB5 HOS5
                        unfold repC
                        go_wp2_with fail
                        clear hY hyb
                        have HS10 : Hid (Calls Tryz.prog 41 #[.slice xc1 nB yc1, .slice b2 nB d2] Y fun e w' => e = .returned (.bool true) ∧ ∃ m, w' = Y.drewN m) := (HS1.out 0).mono (fun e w' ⟨a, m, b⟩ => ⟨a, 0 + m, by rw [b, World.drewN_drewN]⟩)
                        refine Calls.mono HS10.out ?_
                        rintro e u1 ⟨rfl, m1, rfl⟩
                        go_wp2_with fail
                        refine Calls.mono (HS2.out _) ?_
                        rintro e u2 ⟨rfl, m2, hu2⟩
                        rw [World.drewN_drewN] at hu2
                        subst hu2
                        go_wp2_with fail
                        refine Calls.mono (HS3.out _) ?_
                        rintro e u3 ⟨rfl, m3, hu3⟩
                        rw [World.drewN_drewN] at hu3
                        subst hu3
                        go_wp2_with fail
                        refine Calls.mono (HPA.out _) ?_
                        rintro e u4 ⟨rfl, hF4⟩
                        have t0 : u4.cell? ⟨yb, 0, none⟩ = some (.slice xa1 0 ya1) := (hF4.cell (g := yb) hybl (fun e => by rcases e with e | e | e <;> omega) 0).trans y0
                        have t4 : u4.cell? ⟨yb, 4, none⟩ = some (.slice xu1 0 yu1) := (hF4.cell (g := yb) hybl (fun e => by rcases e with e | e | e <;> omega) 4).trans y4
                        have HBE : Hid (Below w.heap.size w u4) := (below_drewN HwY.out _).trans (hF4.lowB w.heap.size hwY (fun j hj e => by rcases e with e | e | e <;> omega))
                        clear hF4 y0 y1 y2 y3 y4
                        go_wp2_with fail
                        go_ret
                        exact ⟨rfl, HBE.out⟩
end Go.Proofs.YtadinjaocnlglaaGreatDoor
