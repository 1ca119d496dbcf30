/-
  The walk of vaultkeep.Guarded.
-/
import Derived.Test.YtadinjaocnlglaaGreatDoorZ46
import Derived.Test.YtadinjaocnlglaaGreatDoorZ47
import Derived.Test.YtadinjaocnlglaaGreatDoorZ44
import Derived.Test.YtadinjaocnlglaaGreatDoorZ37
namespace Go.Proofs.YtadinjaocnlglaaGreatDoor
open Go.RowKit
set_option maxRecDepth 100000
set_option maxHeartbeats 4000000
theorem guardedL (kt : Nat → Int) (k m c v : Int) (xa aa ba : Option Addr) (nx xc na ac nb bc : Nat) (w : World) (k0 : -9223372036854775808 ≤ k) (k1 : k ≤ 9223372036854775807) (m0 : -9223372036854775808 ≤ m) (m1 : m ≤ 9223372036854775807) (c0 : -9223372036854775808 ≤ c) (c1 : c ≤ 9223372036854775807) (v0 : -9223372036854775808 ≤ v) (v1 : v ≤ 9223372036854775807)
    (hnx : nx ≤ 140737488355328) (hna : na ≤ 140737488355328) (hX : Raw w xa nx) (hA : Chs w aa na) (hB : Ints w ba nb) (hG : Gd kt w) (hGR : Gr kt w) :
    Calls Tryz.prog 11 #[.agg #[.int .i64 k, .int .i64 m, .int .i64 c, .int .i64 v], .slice xa nx xc, .slice aa na ac, .slice ba nb bc] w fun e w' => e = .returned (.bool true) ∧ Below w.heap.size w w' := by
  have H4 : Hid (∀ W, _) := fun W => params_any k m c v W k0 k1 m0 m1 c0 c1 v0 v1
  have hK := pk_lt k 5 (by omega)
  have hM := pk_lt m 4 (by omega)
  have hC := pk_lt c 8 (by omega)
  have hV := pk_lt v 5 (by omega)
  obtain ⟨K, eK⟩ : ∃ K, 1 + pk k 5 = K := ⟨_, rfl⟩
  obtain ⟨M, eM⟩ : ∃ M, pk m 4 = M := ⟨_, rfl⟩
  obtain ⟨C, eC⟩ : ∃ C, 1 + pk c 8 = C := ⟨_, rfl⟩
  obtain ⟨V, eV⟩ : ∃ V, 1 + pk v 5 = V := ⟨_, rfl⟩
  rw [eK, eM, eC, eV] at H4
  have hK1 : 1 ≤ K := by omega
  have hK2 : K ≤ 5 := by omega
  have hM1 : M ≤ 3 := by omega
  have hC1 : 1 ≤ C := by omega
  have hC2 : C ≤ 8 := by omega
  have hV1 : 1 ≤ V := by omega
  have hV2 : V ≤ 5 := by omega
  have HX : Hid (Raw w xa nx) := hX
  have HA : Hid (Chs w aa na) := hA
  have HB : Hid (Ints w ba nb) := hB
  have HGR : Hid (Gr kt w) := hGR
  have HG : Hid (Gd kt w) := hG
  have hw4 := hG.one
  clear eK eM eC eV hK hM hC hV k0 k1 m0 m1 c0 c1 v0 v1 hX hA hB hG hGR
  unfold pV at H4
  go_enter Tryz.func11, Tryz.ntmps11
  go_wp2_with fail
  refine Calls.mono (H4.out _) ?_
  rintro e s1 ⟨rfl, hb1⟩
  have HB1 : Hid (Below w.heap.size w s1) := by
    have h0 : Below w.heap.size w (w.alloc (Obj.cells #[Value.int IntKind.i64 k, Value.int IntKind.i64 m, Value.int IntKind.i64 c, Value.int IntKind.i64 v] 23)) := (Below.refl _ _).alloc (Nat.le_refl _) _
    exact h0.trans (hb1.mono h0.size)
  clear hb1 H4
  go_wp2_with fail
  obtain ⟨s2, hs2⟩ : ∃ s2, s1.alloc (Obj.cells #[Value.int IntKind.i64 K, Value.int IntKind.i64 M, Value.int IntKind.i64 C, Value.int IntKind.i64 V] 23) = s2 := ⟨_, rfl⟩
  have HP2 : Hid (s2.heap[s1.heap.size]? = some (.cells #[.int .i64 K, .int .i64 M, .int .i64 C, .int .i64 V] 23 (0, 0))) := by show _ = _; rw [← hs2]; exact heap_alloc_new _ _
  have HB2 : Hid (Below w.heap.size w s2) := by show Below _ _ _; rw [← hs2]; exact HB1.out.alloc HB1.out.size _
  have hpl : s1.heap.size < s2.heap.size := by rw [← hs2]; simp
  rw [hs2]
  obtain ⟨pb, hpb⟩ : ∃ pb, s1.heap.size = pb := ⟨_, rfl⟩
  rw [hpb] at HP2 hpl ⊢
  clear hs2 hpb HB1
  refine (objects_any xa nx xc s2 hnx (HX.out.below HB2.out)).mono ?_
  rintro e s3 ⟨vl, q0, F, rfl, hO3, hq, hS, hb3⟩
  obtain ⟨la, lc, hvl⟩ := own_shape hO3
  subst hvl
  have HO3 : Hid (OwnF s3 s2.heap.size (.slice la q0 lc) q0 F) := hO3
  have HS : Hid (Srt q0 F) := hS
  have HB3 : Hid (Below w.heap.size w s3) := HB2.out.trans (hb3.mono HB2.out.size)
  have HP3 : Hid (s3.heap[pb]? = some (.cells #[.int .i64 K, .int .i64 M, .int .i64 C, .int .i64 V] 23 (0, 0))) := by show _ = _; rw [hb3.block pb hpl]; exact HP2.out
  clear hO3 hS hb3 HP2 HB2
  have p0 : s3.cell? ⟨pb, 0, none⟩ = some (.int .i64 K) := cell_of_row _ _ _ _ 23 _ HP3.out
  have p1 : s3.cell? ⟨pb, 1, none⟩ = some (.int .i64 M) := cell_of_row _ _ _ _ 23 _ HP3.out
  have p2 : s3.cell? ⟨pb, 2, none⟩ = some (.int .i64 C) := cell_of_row _ _ _ _ 23 _ HP3.out
  have p3 : s3.cell? ⟨pb, 3, none⟩ = some (.int .i64 V) := cell_of_row _ _ _ _ 23 _ HP3.out
  have H6 : Hid _ := packed_any kt K M C V q0 lc 0 0 s2.heap.size la none F s3 hK1 hK2 hM1 hC1 hC2 hV1 hV2 hq HO3.out HS.out (fun i hi => absurd hi (by omega)) (HG.out.below HB3.out)
  unfold pV at H6
  obtain ⟨R, hR⟩ : ∃ R, rtT kt K M C V (datOf F q0) (nmF F q0) = R := ⟨_, rfl⟩
  obtain ⟨VO, hVO⟩ : ∃ VO, voT kt K M C V (datOf F q0) (nmF F q0) = VO := ⟨_, rfl⟩
  rw [hR, hVO] at H6
  have HRE : Hid _ := hR
  have HVO : Hid _ := hVO
  clear hR hVO
  go_wp2_with fail
  refine Calls.mono H6.out ?_
  rintro e s4 ⟨g4, rfl, h41, h42, h43⟩
  have HO4 : Hid (OwnF s4 s2.heap.size (.slice la q0 lc) q0 F) := HO3.out.low (fun r hr => own_lt HO3.out r hr) h43
  have HB4 : Hid (Below w.heap.size w s4) := HB3.out.trans (h43.mono HB3.out.size)
  have HR4 : Hid (VRw s4 g4 V VO) := rw_vr h42
  have hrt : R = ⟨#[]⟩ ∨ R = rtT kt K M C V (datOf F q0) (nmF F q0) := .inr HRE.out.symm
  obtain ⟨hex, hall⟩ := packed_plain (kt := kt) HS.out hK1 hK2 hM1 hC1 hC2 hV1 hV2 hq (H := VO) (rt := R) (by rw [HVO.out]) hrt
  have hsz : ∀ i, i < V → (VO i).size ≤ 60000 := fun i hi => by
    obtain ⟨s, t0, _, hrun, _⟩ := hex
    have hP := hall s t0 ⟨‹_›, hrun, ‹_›⟩
    have := (run_good V s hrun hP.un).1 i hi
    have h2 := rd_none (same3_L this.1 this.1 ⟨rfl, rfl, rfl⟩).2.1
    omega
  have HSZ : Hid _ := hsz
  have HEX : Hid _ := hex
  have HALL : Hid _ := hall
  have HOP : Hid _ := opened_any kt R VO (some ⟨g4, 0, none⟩) V V s4 (HG.out.below HB4.out) (by omega) (fun i hi => Nat.le_trans (hsz i hi) (by omega)) (.inr ⟨_, rfl, fun i hi => ⟨g4, 0, rfl, HR4.out.lt, by rw [Nat.zero_add]; exact HR4.out.cell hi⟩⟩)
  clear h41 h42 h43 p0 p1 p2 p3 HP3 HO3 HB3 H6 hrt hex hall hsz hpl
  go_wp2_with fail
  refine Calls.mono HOP.out ?_
  rintro e s6 ⟨hB6, ⟨rfl, hno⟩ | ⟨B, vb, rfl, hBl, hBu, s, t0, kb, g, p, q, f, un, hop, hr0, hBv, ⟨hBq, hBf⟩, hVL, hVS⟩⟩
  · obtain ⟨s, t0, h⟩ := HEX.out
    exact absurd h (hno s t0)
  have hPk := HALL.out s t0 hop
  have hT : Told1 (tT t0) := ck_ok (rd_none hr0).2.1
  have hle := told_len (RS.on t0)
  obtain ⟨vT, lT, hTl⟩ := hPk.T
  have HES : Hid ((tT t0).L.es.length = q0) := by show _ = _; rw [hTl.es, esF_len]
  have HOB : Hid _ := hPk.obj
  have HK6 : Hid (VK kt B vb kb g p q f (tT t0) un s.un s.rd s.bl s6) := ⟨hVL, _, _, _, hVS⟩
  have HB6 : Hid (Below s4.heap.size s4 s6) := hB6
  have hB46 := HB4.out.size
  have HUN : Hid _ := vunpack_ok kt B vb kb g p q f (tT t0) un s.un s.rd s.bl s6 HK6.out hT hle (HG.out.below (HB4.out.trans (hB6.mono HB4.out.size))) hBu (by omega) hPk.st
  have hq6 : s4.heap.size ≤ q := by omega
  have hf6 : s4.heap.size ≤ f := by omega
  have hv6 : s4.heap.size ≤ vb := by omega
  rw [HES.out] at HUN
  clear hPk hT hle hTl hVS hVL hop hr0 hB6 HEX HALL HOP
  go_wp2_with fail
  refine Calls.mono HUN.out ?_
  rintro e s7 ⟨vu, rfl, hK7, hF7, hO7⟩
  obtain ⟨ua, uc, rfl, hUc⟩ := OwnF.cells hO7
  have HB7 : Hid (Below s4.heap.size s4 s7) := low3 HB6.out hF7 hq6 hf6 hv6
  have HL7 : Hid (OwnF s7 s2.heap.size (.slice la q0 lc) q0 F) := HO4.out.low (fun r hr => own_lt HO4.out r hr) HB7.out
  obtain ⟨la', lc', hle, hLc⟩ := OwnF.cells HL7.out
  obtain ⟨rfl, rfl⟩ : la = la' ∧ lc = lc' := by simpa using hle
  have HSO : Hid _ := sameO_any (unO kt (tT t0) s.bl) F q0 uc lc ua la s7 (by omega) hUc hLc HOB.out
  clear hUc hLc hle hK7 hF7 hO7 HUN HOB HES HK6 HB6
  go_wp2_with fail
  refine Calls.mono HSO.out ?_
  rintro e s8 ⟨rfl, hb8⟩
  have HB8 : Hid (Below s4.heap.size s4 s8) := HB7.out.trans (hb8.mono HB7.out.size)
  have HR8 : Hid (VRw s8 g4 V VO) := HR4.out.kept (HB8.out.block g4 HR4.out.lt)
  have HL8 : Hid (OwnF s8 s2.heap.size (.slice la q0 lc) q0 F) := HO4.out.low (fun r hr => own_lt HO4.out r hr) HB8.out
  have HW8 : Hid (Below w.heap.size w s8) := HB4.out.trans (HB8.out.mono HB4.out.size)
  clear hb8 HSO HL7 HB7 HB8 HB4 HO4 HR4 hq6 hf6 hv6 hB46 hBl hBu hBv hBq hBf
  go_wp2_with fail
  go_loopw [18, 19] (fun hv iv wr => ∃ (i gh ch : Nat) (L : Nat → ByteArray), i ≤ na ∧ hv = .slice (some ⟨gh, 0, none⟩) V ch ∧ iv = .int .i64 i ∧ VRw wr gh V L ∧ (∀ u, u < V → (L u).size ≤ 140737488351232) ∧ Below s8.heap.size s8 wr) (fun _ iv _ => na - (intOf iv).toNat)
  case atStart => exact ⟨0, g4, V, VO, by omega, rfl, rfl, HR8.out, fun u hu => Nat.le_trans (HSZ.out u hu) (by omega), Below.refl _ _⟩
  case round =>
    obtain ⟨i, gh, ch, L, hi, rfl, rfl, hVR, hLs, hBw⟩ := hrel
    have HVR : Hid (VRw wr gh V L) := hVR
    have HLS : Hid _ := hLs
    have HBW : Hid _ := hBw
    clear hVR hLs hBw
    by_cases hlt : i < na
    · have hlt' : (i : Int) < (na : Int) := by omega
      obtain ⟨cb, co, z0, z1, z2, wh, S, rfl, hcl, x0, x1, x2, x3, x4, w0, w1, hSz⟩ := HA.out.below (HW8.out.trans (HBW.out.mono HW8.out.size)) i hlt
      have HCH : Hid _ := changed_any V gh ch L z0 z1 z2 wh S wr hV1 (by omega) HVR.out HLS.out w0.1 w0.2 w1.1 w1.2
      clear w0 w1
      go_wp2_with fail
      refine Calls.mono HCH.out ?_
      rintro e w1 ⟨g1, c1, L', rfl, hV', hB', hg1, hL'⟩
      have HV1 : Hid _ := hV'
      have HB1 : Hid _ := hB'
      have HLS1 : Hid (∀ u, u < V → (L' u).size ≤ 140737488351232) := by
        intro u hu
        rcases hL' with rfl | ⟨u', t, hu', ht, rfl⟩
        · exact HLS.out u hu
        · unfold updT
          by_cases e : u = u'
          · rw [if_pos e]
            rcases ht with rfl | ht
            · exact hSz
            · rw [ht]; exact HLS.out u' hu'
          · rw [if_neg e]; exact HLS.out u hu
      clear hV' hB' hg1 hL' HCH hcl x0 x1 x2 x3 x4 hSz
      go_wp2_with fail
      go_roundw
      case rel => exact ⟨i + 1, g1, c1, L', by omega, rfl, by go_num, HV1.out, HLS1.out, HBW.out.trans (HB1.out.mono HBW.out.size)⟩
      case measure => simp [intOf]; omega
    · have hlt' : ¬ (i : Int) < (na : Int) := by omega
      have HMX : Hid _ := mixed_any L (some ⟨gh, 0, none⟩) ba V ch nb bc wr (by omega) hV1 (.inr ⟨_, rfl, fun i hi => ⟨gh, 0, rfl, HVR.out.lt, by rw [Nat.zero_add]; exact HVR.out.cell hi⟩⟩) (HB.out.below (HW8.out.trans (HBW.out.mono HW8.out.size)))
      clear hlt hi
      go_wp2_with fail
      refine Calls.mono HMX.out ?_
      rintro e t1 ⟨v5, H, rfl, hO5, hperm, hb5⟩
      obtain ⟨g5, cap5, rfl, hg5, hg5l, hC5⟩ := own_row9 hO5 hV1
      have HHZ : Hid (∀ u, u < V → (H u).size ≤ 140737488351232) := by
        intro u hu
        have h1 : H u ∈ texL L V := hperm.mem_iff.1 (List.mem_map.2 ⟨u, List.mem_range.2 hu, rfl⟩)
        obtain ⟨x, hx, e⟩ := List.mem_map.1 h1
        rw [← e]; exact HLS.out x (List.mem_range.1 hx)
      have HB1 : Hid (Below s8.heap.size s8 t1) := HBW.out.trans (hb5.mono HBW.out.size)
      have HW1 : Hid (Below w.heap.size w t1) := HW8.out.trans (HB1.out.mono HW8.out.size)
      have HC5 : Hid (∀ i, i < V → t1.cell? ⟨g5, i, none⟩ = some (.string (H i))) := hC5
      have HOP : Hid _ := opened_any kt R H (some ⟨g5, 0, none⟩) V cap5 t1 (HG.out.below HW1.out) (by omega) HHZ.out (.inr ⟨_, rfl, fun i hi => ⟨g5, 0, rfl, hg5l, by rw [Nat.zero_add]; exact hC5 i hi⟩⟩)
      clear hO5 hperm hb5 hg5 hC5 HMX HVR HLS HBW
      go_wp2_with fail
      refine Calls.mono HOP.out ?_
      rintro e t2 ⟨hB2, ⟨rfl, hno⟩ | ⟨B, vb, rfl, hBl, hBu, s, t0, kb, g, p, q, f, un, hop, hr0, hBv, ⟨hBq, hBf⟩, hVL, hVS⟩⟩
      · have HB2 : Hid (Below w.heap.size w t2) := HW1.out.trans (hB2.mono HW1.out.size)
        clear hno hB2
        go_wp2_with fail
        go_ret
        exact ⟨rfl, HB2.out⟩
      have hT : Told1 (tT t0) := ck_ok (rd_none hr0).2.1
      have hle := told_len (RS.on t0)
      have HK2 : Hid (VK kt B vb kb g p q f (tT t0) un s.un s.rd s.bl t2) := ⟨hVL, _, _, _, hVS⟩
      have HB2 : Hid (Below t1.heap.size t1 t2) := hB2
      have hs1 := HW1.out.size
      have hs81 := HB1.out.size
      have hs8w := HW8.out.size
      have HUN : Hid _ := vunpack_any kt B vb kb g p q f (tT t0) un s.un s.rd s.bl t2 HK2.out hT hle (HG.out.below (HW1.out.trans (hB2.mono HW1.out.size))) hBu (by omega)
      have HGD : Hid (NoC kt (txL kt (texL VO V) ++ txL kt (texL H V)) → Gdd kt F q0 s t0) := fun hn => guarded_plain HS.out hK1 hK2 hM1 hC1 hC2 hV1 hV2 hq (by rw [HRE.out]; exact hop) (by rw [HVO.out]; exact hn)
      obtain ⟨P, hP⟩ : ∃ P : Prop, NoC kt (txL kt (texL VO V) ++ txL kt (texL H V)) = P := ⟨_, rfl⟩
      rw [hP] at HGD
      have hq6 : t1.heap.size ≤ q := by omega
      have hf6 : t1.heap.size ≤ f := by omega
      have hv6 : t1.heap.size ≤ vb := by omega
      have hel := hle.1
      clear hT hVL hVS hop hr0 hB2 HOP hle
      go_wp2_with fail
      refine Calls.mono HUN.out ?_
      rintro e t3 ⟨vo, er, rfl, lv, G, n, Hl, m, _, hF3, hO3, hou, _, hlo, hler⟩
      have HB3 : Hid (Below t1.heap.size t1 t3) := low3 HB2.out hF3 hq6 hf6 hv6
      have HW3 : Hid (Below w.heap.size w t3) := HW1.out.trans (HB3.out.mono HW1.out.size)
      have HB83 : Hid (Below s8.heap.size s8 t3) := HB1.out.trans (HB3.out.mono HB1.out.size)
      have hnl : n ≤ 16 := by
        have h1 := congrArg List.length hou
        simp only [objs, outL, List.length_map, List.length_range] at h1
        have h2 := List.length_filter_le (fun j => finJ kt (tT t0) s.bl j) (List.range (tT t0).L.es.length)
        rw [List.length_range] at h2
        have h3 : (tT t0).L.es.length ≤ 16 := hel
        omega
      have HNQ : Hid (P → n ≤ q0) := fun hp => ((HGD.out hp).rgt hou).2.1
      have HNM : Hid (P → m = 0 → n = q0) := fun hp hm => ((HGD.out hp).rgt hou).2.2 (by rw [← hlo, hm]; rfl)
      obtain ⟨J, hJ⟩ : ∃ J, P → Rgt F q0 G n J := by
        by_cases hp : P
        · obtain ⟨J, hJ⟩ := ((HGD.out hp).rgt hou).1
          exact ⟨J, fun _ => hJ⟩
        · exact ⟨fun _ => 0, fun h => absurd h hp⟩
      have HJ : Hid _ := hJ
      obtain ⟨oa, oc, rfl, hOc⟩ := OwnF.cells hO3
      have HL3 : Hid (OwnF t3 s2.heap.size (.slice la q0 lc) q0 F) := HL8.out.low (fun r hr => own_lt HL8.out r hr) HB83.out
      obtain ⟨la', lc', hle, hLc⟩ := OwnF.cells HL3.out
      obtain ⟨rfl, rfl⟩ : la = la' ∧ lc = lc' := by simpa using hle
      have HOC : Hid (∀ X : World, Below t3.heap.size t3 X → ∀ i, i < n → ∃ g, oa = some ⟨g, 0, none⟩ ∧ X.cell? ⟨g, i * 2, none⟩ = some (.string (G i).1) ∧ X.cell? ⟨g, i * 2 + 1, none⟩ = some (.string (G i).2)) := fun X hX i hi => by
        obtain ⟨g, e, h1, h2⟩ := hOc i hi
        exact ⟨g, e, (hX.cell (p := ⟨g, _, none⟩) (block_lt_of_cell h1)).trans h1, (hX.cell (p := ⟨g, _, none⟩) (block_lt_of_cell h2)).trans h2⟩
      have HLC : Hid (∀ X : World, Below t3.heap.size t3 X → ∀ i, i < q0 → ∃ g, la = some ⟨g, 0, none⟩ ∧ X.cell? ⟨g, i * 2, none⟩ = some (.string (F i).1) ∧ X.cell? ⟨g, i * 2 + 1, none⟩ = some (.string (F i).2)) := fun X hX i hi => by
        obtain ⟨g, e, h1, h2⟩ := hLc i hi
        exact ⟨g, e, (hX.cell (p := ⟨g, _, none⟩) (block_lt_of_cell h1)).trans h1, (hX.cell (p := ⟨g, _, none⟩) (block_lt_of_cell h2)).trans h2⟩
      have HVC : Hid (∀ i, i < V → t3.cell? ⟨g4, i, none⟩ = some (.string (VO i))) := fun i hi => (HB83.out.cell (p := ⟨g4, i, none⟩) HR8.out.lt).trans (HR8.out.cell hi)
      have HHC : Hid (∀ i, i < V → t3.cell? ⟨g5, i, none⟩ = some (.string (H i))) := fun i hi => (HB3.out.cell (p := ⟨g5, i, none⟩) hg5l).trans (HC5.out i hi)
      have hg4l : g4 < s8.heap.size := HR8.out.lt
      have h83 : s8.heap.size ≤ t3.heap.size := HB83.out.size
      have hg5l' : g5 < t3.heap.size := Nat.lt_of_lt_of_le hg5l HB3.out.size
      clear hF3 hO3 hou hlo hJ hOc hLc hle HUN HGD HK2 HB2 hq6 hf6 hv6 hel HL3 HL8 HR8 HC5 HB3 HB83 HB1 hs1 hs81 hBl hBu hBv hBq hBf
      obtain ⟨r0, hr0, hcase⟩ : ∃ r0 : Bool, (P → r0 = true) ∧ (((n : Int) ≤ (q0 : Int) ∧ er = .nilIface ∧ ((n : Int) == (q0 : Int)) = true ∧ (n : Int) = (q0 : Int) ∧ r0 = true) ∨ ((n : Int) ≤ (q0 : Int) ∧ er = .nilIface ∧ ((n : Int) == (q0 : Int)) = false ∧ ¬ (n : Int) = (q0 : Int) ∧ r0 = false) ∨ ((n : Int) ≤ (q0 : Int) ∧ (∃ eg : Nat, er = .iface 305 (.pointer (some ⟨eg, 0, none⟩))) ∧ r0 = true) ∨ (¬ (n : Int) ≤ (q0 : Int) ∧ r0 = false)) := by
        by_cases hnq : n ≤ q0
        · rcases hler with ⟨hm0, e⟩ | ⟨hm0, eg, mg, e, _, _⟩
          · by_cases hne : n = q0
            · exact ⟨true, fun _ => rfl, .inl ⟨by omega, e, by simp; omega, by omega, rfl⟩⟩
            · exact ⟨false, fun hp => absurd (HNM.out hp hm0) hne, .inr (.inl ⟨by omega, e, by simp; omega, by omega, rfl⟩)⟩
          · exact ⟨true, fun _ => rfl, .inr (.inr (.inl ⟨by omega, ⟨eg, e⟩, rfl⟩))⟩
        · exact ⟨false, fun hp => absurd (HNQ.out hp) hnq, .inr (.inr (.inr ⟨by omega, rfl⟩))⟩
      clear hler
      rcases hcase with ⟨hnq', rfl, hne2, hne', rfl⟩ | ⟨hnq', rfl, hne2, hne', rfl⟩ | ⟨hnq', ⟨eg, rfl⟩, rfl⟩ | ⟨hnq', rfl⟩
      all_goals
        have HR0 : Hid _ := hr0
        clear hr0
        go_wp2_with fail
        go_loopw [21, 22, 23] (fun rv kv iv wr => ∃ (i k : Nat) (r : Bool), i ≤ n ∧ rv = .bool r ∧ kv = .int .i64 k ∧ iv = .int .i64 i ∧ k ≤ q0 + i ∧ (P → r = true ∧ ∀ j, i ≤ j → j < n → k ≤ J j) ∧ Below t3.heap.size t3 wr) (fun _ _ iv _ => n - (intOf iv).toNat)
        case atStart => exact ⟨0, 0, _, Nat.zero_le _, rfl, rfl, rfl, Nat.zero_le _, fun hp => ⟨by first | rfl | exact HR0.out hp | exact (HR0.out hp).elim, fun j _ _ => Nat.zero_le _⟩, Below.refl _ _⟩
        case round =>
          obtain ⟨i, k, r, hi, rfl, rfl, rfl, hk, hinv, hBX⟩ := hrel
          have HINV : Hid (P → r = true ∧ ∀ j, i ≤ j → j < n → k ≤ J j) := hinv
          have HBX : Hid (Below t3.heap.size t3 wr) := hBX
          clear hinv hBX
          cases r with
          | true =>
            by_cases hin : i < n
            · have hin' : (i : Int) < (n : Int) := by omega
              go_wp2_with fail
              go_loopw [22] (fun kv wr => ∃ k' : Nat, kv = .int .i64 k' ∧ k' ≤ q0 + i ∧ (P → k' ≤ J i) ∧ Below t3.heap.size t3 wr) (fun kv _ => q0 - (intOf kv).toNat)
              case atStart => exact ⟨k, rfl, hk, fun hp => (HINV.out hp).2 i (Nat.le_refl _) hin, HBX.out⟩
              case round =>
                obtain ⟨k', rfl, hk', hJk, hBk⟩ := hrel
                have HJK : Hid _ := hJk
                have HBK : Hid (Below t3.heap.size t3 wr) := hBk
                clear hJk hBk
                by_cases hkq : k' < q0
                · have hkq' : (k' : Int) < (q0 : Int) := by omega
                  obtain ⟨gl, rfl, c0, c1⟩ := HLC.out wr HBK.out k' hkq
                  obtain ⟨go, rfl, d0, d1⟩ := HOC.out wr HBK.out i hin
                  cases hbl : Op.bytesLess (F k').1.toList (G i).1.toList with
                  | true =>
                    have HK1 : Hid (P → k' + 1 ≤ J i) := fun hp => by
                      have h1 := HJK.out hp
                      rcases Nat.lt_or_ge k' (J i) with h2 | h2
                      · exact h2
                      · have h3 : k' = J i := by omega
                        have h4 := ((HJ.out hp).at_ i hin).2
                        rw [← h3] at h4
                        rw [h4, bl_irr] at hbl
                        cases hbl
                    go_wp2_with fail
                    go_region
                    go_wp2_with fail
                    go_roundw
                    case rel => exact ⟨k' + 1, by go_num, by omega, HK1.out, by first | exact HBK.out.drew | exact HBK.out⟩
                    case measure => simp [intOf]; omega
                  | false =>
                    have HKE : Hid (P → F k' = G i) := fun hp => by
                      have h1 := HJK.out hp
                      obtain ⟨h4, h5⟩ := (HJ.out hp).at_ i hin
                      rcases Nat.lt_or_ge k' (J i) with h2 | h2
                      · have h3 : Op.bytesLess (F k').1.toList (F (J i)).1.toList = true := HS.out.lt k' (J i) h2 h4
                        rw [← h5, hbl] at h3
                        cases h3
                      · rw [show k' = J i by omega]; exact h5.symm
                    go_wp2_with fail
                    go_region
                    obtain ⟨X2, hX2⟩ : ∃ X, wr.drew = X := ⟨_, rfl⟩
                    have HB2 : Hid (Below t3.heap.size t3 X2) := by show Below _ _ _; rw [← hX2]; exact HBK.out.drew
                    rw [hX2]
                    clear hX2 c0 c1 d0 d1 hbl
                    obtain ⟨gl2, e1, c0, c1⟩ := HLC.out X2 HB2.out k' hkq
                    obtain ⟨go2, e2, d0, d1⟩ := HOC.out X2 HB2.out i hin
                    cases e1
                    cases e2
                    cases hb1 : ((F k').1.toList == (G i).1.toList) with
                    | false =>
                      have HNP : Hid (¬ P) := fun hp => by rw [HKE.out hp] at hb1; simp at hb1
                      go_wp2_with fail
                      go_region
                      go_wp2_with fail
                      go_roundw
                      case rel => exact ⟨i + 1, k' + 1, false, by omega, rfl, by go_num, by go_num, by omega, fun hp => absurd hp HNP.out, by first | exact HB2.out.drew | exact HB2.out⟩
                      case measure => simp [intOf]; omega
                    | true =>
                      cases hb2 : ((F k').2.toList == (G i).2.toList) with
                      | false =>
                        have HNP : Hid (¬ P) := fun hp => by rw [HKE.out hp] at hb2; simp at hb2
                        go_wp2_with fail
                        go_region
                        go_wp2_with fail
                        go_roundw
                        case rel => exact ⟨i + 1, k' + 1, false, by omega, rfl, by go_num, by go_num, by omega, fun hp => absurd hp HNP.out, by first | exact HB2.out.drew | exact HB2.out⟩
                        case measure => simp [intOf]; omega
                      | true =>
                        have HJJ : Hid (P → ∀ j, i + 1 ≤ j → j < n → k' + 1 ≤ J j) := fun hp j h1 h2 => by
                          have h3 := (HJ.out hp).lt i j (by omega) h2
                          have h4 := HJK.out hp
                          omega
                        go_wp2_with fail
                        go_region
                        go_wp2_with fail
                        go_roundw
                        case rel => exact ⟨i + 1, k' + 1, true, by omega, rfl, by go_num, by go_num, by omega, fun hp => ⟨rfl, HJJ.out hp⟩, by first | exact HB2.out.drew | exact HB2.out⟩
                        case measure => simp [intOf]; omega
                · have hkq' : ¬ (k' : Int) < (q0 : Int) := by omega
                  have HNP : Hid (¬ P) := fun hp => by
                    have h1 := HJK.out hp
                    have h2 := ((HJ.out hp).at_ i hin).1
                    omega
                  go_wp2_with fail
                  go_region
                  go_wp2_with fail
                  go_region
                  go_wp2_with fail
                  go_roundw
                  case rel => exact ⟨i + 1, k' + 1, false, by omega, rfl, by go_num, by go_num, by omega, fun hp => absurd hp HNP.out, by first | exact HBK.out.drew.drew | exact HBK.out.drew | exact HBK.out⟩
                  case measure => simp [intOf]; omega
            · have hin' : ¬ (i : Int) < (n : Int) := by omega
              have HBE : Hid (Below w.heap.size w wr) := HW3.out.trans (HBX.out.mono HW3.out.size)
              go_wp2_with fail
              go_ret
              exact ⟨rfl, HBE.out⟩
          | false =>
            have HNP : Hid (¬ P) := fun hp => absurd (HINV.out hp).1 (by simp)
            rcases Decidable.em ((i : Int) < (n : Int)) with hin' | hin'
            all_goals
              have hwx := HW3.out.trans (HBX.out.mono HW3.out.size)
              have HTA : Hid _ := rtexts kt VO g4 V V wr (HGR.out.below hwx) (by omega) (fun i hi => Nat.le_trans (HSZ.out i hi) (by omega)) (Nat.lt_of_lt_of_le hg4l (Nat.le_trans h83 HBX.out.size)) (fun i hi => (HBX.out.cell (p := ⟨g4, i, none⟩) (Nat.lt_of_lt_of_le hg4l h83)).trans (HVC.out i hi))
              clear hwx
              go_wp2_with fail
              refine Calls.mono HTA.out ?_
              rintro e y1 ⟨vx, rfl, hoA, hbA⟩
              obtain ⟨xa1, xc1, rfl⟩ := own_shape hoA
              obtain ⟨vA, y2, hrA, hoA2, hgA, hbelA, _⟩ := OwnT.cat (OwnT.nil y1 wr.heap.size) hoA (by simp; have := txL_len kt VO V; omega) hbA.size
              have hBA := hbelA wr (Nat.le_refl _) hbA rfl
              obtain ⟨nA, hnA⟩ : ∃ x, ([] ++ txL kt (texL VO V)).length = x := ⟨_, rfl⟩
              obtain ⟨aA, cA, rfl⟩ := own_shape hoA2
              rw [hnA] at hrA
              have RA : Hid _ := hrA
              have HOA : Hid (OwnT y2 wr.heap.size (.slice aA nA cA) (txL kt (texL VO V))) := by
                have := hoA2
                rw [hnA] at this
                exact this
              have HBA : Hid (Below t3.heap.size t3 y2) := HBX.out.trans (hBA.mono HBX.out.size)
              have HBXA : Hid (Below wr.heap.size wr y2) := hBA
              have hwy := HW3.out.trans (HBA.out.mono HW3.out.size)
              have HTB : Hid _ := rtexts kt H g5 V cap5 y2 (HGR.out.below hwy) (by omega) HHZ.out (Nat.lt_of_lt_of_le hg5l' HBA.out.size) (fun i hi => (HBA.out.cell (p := ⟨g5, i, none⟩) hg5l').trans (HHC.out i hi))
              clear hwy hoA hbA hrA hoA2 hgA hbelA hBA hnA HTA
              go_wp2_with (at_builtin; refine wpList_app rfl (.tmp 160) (.tmp 162) 42 rfl _ _ _ (by simp [Act.eval]) (by simp [Act.eval]) _ RA.out ?_)
              refine Calls.mono HTB.out ?_
              rintro e y3 ⟨vy, rfl, hoB, hbB⟩
              obtain ⟨xa2, xc2, rfl⟩ := own_shape hoB
              have hoA3 : OwnT y3 wr.heap.size (.slice aA nA cA) (txL kt (texL VO V)) := OwnT.below HOA.out hbB
              obtain ⟨vB, y4, hrB, hoB2, hgB, hbelB, _⟩ := OwnT.cat hoA3 hoB (by have := txL_len kt VO V; have := txL_len kt H V; omega) (Nat.le_trans HBXA.out.size hbB.size)
              have hBB := hbelB wr (Nat.le_refl _) (HBXA.out.trans (hbB.mono HBXA.out.size)) rfl
              obtain ⟨ll, hll⟩ : ∃ x, txL kt (texL VO V) ++ txL kt (texL H V) = x := ⟨_, rfl⟩
              rw [hll] at hoB2
              have hlpos : 0 < ll.length := by
                rcases Nat.eq_zero_or_pos ll.length with h0 | h0
                · exact absurd (by rw [← hP, hll, List.length_eq_zero_iff.1 h0]; intro x hx; cases hx) HNP.out
                · exact h0
              obtain ⟨gB, cB, rfl, hgBl, hcB⟩ := OwnT.row hoB2 hlpos
              have hlz : ll.length ≤ 1000000 := by rw [← hll, List.length_append]; have := txL_len kt VO V; have := txL_len kt H V; omega
              have RB : Hid _ := hrB
              have HBB : Hid (Below t3.heap.size t3 y4) := HBX.out.trans (hBB.mono HBX.out.size)
              have hwz := HW3.out.trans (HBB.out.mono HW3.out.size)
              have HCO : Hid _ := collides_any kt (fun i => ll.getD i ⟨#[]⟩) gB ll.length cB y4 (HG.out.below hwz) (fun i hi => by
                have hm : ll.getD i ⟨#[]⟩ ∈ ll := by rw [List.getD_eq_getElem?_getD, List.getElem?_eq_getElem hi]; exact List.getElem_mem hi
                rw [← hll] at hm
                rw [← hll]
                rcases List.mem_append.1 hm with h1 | h1
                · exact txL_sz kt _ _ h1
                · exact txL_sz kt _ _ h1) hgBl hlz hcB
              have HNP2 : Hid (¬ NoC kt ll) := by show ¬ _; rw [← hll, hP]; exact HNP.out
              have HWZ : Hid _ := hwz
              obtain ⟨nl, hnl⟩ : ∃ x, ll.length = x := ⟨_, rfl⟩
              rw [hnl] at HCO RB
              have HNL : Hid _ := hnl
              clear hwz hoB hbB hoA3 hrB hoB2 hgB hbelB hBB hll hgBl hcB HTB RA hnl
              go_wp2_with (at_builtin; refine wpList_app rfl (.tmp 164) (.tmp 166) 42 rfl _ _ _ (by simp [Act.eval]) (by simp [Act.eval]) _ RB.out ?_)
              refine Calls.mono HCO.out ?_
              rintro e y5 ⟨bb, rfl, hfb, hb5⟩
              have hbt : bb = true := by
                cases bb with
                | true => rfl
                | false =>
                  have h1 := hfb rfl
                  rw [← HNL.out] at h1
                  exact absurd (noc_of h1) HNP2.out
              subst hbt
              have HB5 : Hid (Below w.heap.size w y5) := HWZ.out.trans (hb5.mono HWZ.out.size)
              clear hfb hb5 HCO
              go_wp2_with fail
              go_ret
              exact ⟨rfl, HB5.out⟩
end Go.Proofs.YtadinjaocnlglaaGreatDoor
