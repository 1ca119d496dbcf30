/-
  The walk of layout.Volumes.
  The walk of layout.Volumes, where there is no block.
-/
import Derived.Test.YtadinjaocnlglaaGreatDoorZ14
namespace Go.Proofs.YtadinjaocnlglaaGreatDoor
open Go.RowKit
set_option maxRecDepth 100000
set_option maxHeartbeats 2000000
theorem lstT_size (K M C V n : Nat) (Nm : Nat → ByteArray) (Ln : Nat → Nat) (hN : ∀ j, (Nm j).size ≤ 1000) (hn : n ≤ 1000) : (lstT K M C V n Nm Ln).size ≤ 2000000 := by
  have h1 := lst2_len (lst1 (num5 K M C V n) 5) Nm Ln hN n
  have h2 := lst1_len (num5 K M C V n) 5
  show (lst2 (lst1 (num5 K M C V n) 5) Nm Ln n).toArray.size ≤ 2000000
  simp only [List.size_toArray]
  omega
theorem volumes_some (kt : Nat → Int) (K M C V nE capE nB capB g : Nat) (aE : Option Addr) (Nm : Nat → ByteArray) (Ln : Nat → Nat) (Bk : Nat → ByteArray) (w : World) (hK : K ≤ 100000) (hM : M ≤ 100000) (hC : C ≤ 100000) (hV1 : 1 ≤ V) (hV : V ≤ 1000) (hnE : nE ≤ 1000)
    (hN : ∀ j, (Nm j).size ≤ 1000) (hLn : ∀ j, Ln j ≤ 100000) (hE : ∀ j, j < nE → ∃ b, aE = some ⟨b, 0, none⟩ ∧ b < w.heap.size ∧ w.cell? ⟨b, j * 2, none⟩ = some (.string (Nm j)) ∧ w.cell? ⟨b, j * 2 + 1, none⟩ = some (.int .i64 (Ln j)))
    (hnB1 : 1 ≤ nB) (hnB : nB ≤ 10000) (hcap : nB ≤ capB) (hBk : ∀ i, i < nB → (Bk i).size ≤ 1000) (hg : g < w.heap.size) (hCl : Cl w g nB (tI Bk)) (hG : Gd kt w) :
    Calls Tryz.prog 124 #[.agg #[.int .i64 K, .int .i64 M, .int .i64 C, .int .i64 V], .slice aE nE capE, .slice (some ⟨g, 0, none⟩) nB capB] w fun e w' => ∃ gv, e = .returned (.tuple #[.slice (some ⟨gv, 0, none⟩) V V, .string (rootT (ofT kt) (lstT K M C V nE Nm Ln) nB fun i => leafT (ofT kt) (Bk i))]) ∧ w.heap.size ≤ gv ∧ Rw w' gv V 9 (tX (volT (ofT kt) (rootT (ofT kt) (lstT K M C V nE Nm Ln) nB fun i => leafT (ofT kt) (Bk i)) (lstT K M C V nE Nm Ln) nB (fun i => leafT (ofT kt) (Bk i)) Bk V)) ∧ Below w.heap.size w w' := by
  have hmk := run_make_row' (P := Tryz.prog) 42 9 (.string ⟨#[]⟩) 16 Tryz.underlying42 info9 rfl .i64 .i64 V (by omega) (by omega)
  have HLS : Hid _ := lstT_size K M C V nE Nm Ln hN hnE
  have HLIST : Hid (∀ W, Below w.heap.size w W → Calls Tryz.prog 180 #[.agg #[.int .i64 K, .int .i64 M, .int .i64 C, .int .i64 V], .slice aE nE capE] W fun e w' => e = .returned (.string (lstT K M C V nE Nm Ln)) ∧ Below W.heap.size W w') := fun W hW =>
    listOf_any K M C V nE capE aE Nm Ln W hK hM hC (by omega) (by omega) hN hLn (fun j hj => by
      obtain ⟨b, h1, h2, h3, h4⟩ := hE j hj
      exact ⟨b, h1, Nat.lt_of_lt_of_le h2 hW.size, (hW.cell (p := ⟨b, j * 2, none⟩) h2).trans h3, (hW.cell (p := ⟨b, j * 2 + 1, none⟩) h2).trans h4⟩)
  have HCL : Hid (∀ W, Below w.heap.size w W → Cl W g nB (tI Bk)) := fun W hW => Cl.below hCl hW hg
  have HG : Hid (∀ W, Below w.heap.size w W → Gd kt W) := fun W hW => hG.below hW
  have HBK : Hid _ := hBk
  clear hN hLn hE hCl hG hBk
  obtain ⟨l, hl⟩ : ∃ l, lstT K M C V nE Nm Ln = l := ⟨_, rfl⟩
  rw [hl] at HLS HLIST ⊢
  clear hl
  obtain ⟨Lf, hLf⟩ : ∃ Lf : Nat → ByteArray, (fun i => leafT (ofT kt) (Bk i)) = Lf := ⟨_, rfl⟩
  have HLF : Hid (∀ i, (Lf i).size ≤ 32) := fun i => by rw [← hLf]; exact Nat.le_of_eq (ofT_size kt _)
  have HLE : Hid _ := hLf
  rw [hLf]
  clear hLf
  obtain ⟨root, hroot⟩ : ∃ root, rootT (ofT kt) l nB Lf = root := ⟨_, rfl⟩
  have hrs : root.size = 32 := by rw [← hroot]; exact ofT_size kt _
  have HRE : Hid _ := hroot
  rw [hroot]
  clear hroot
  obtain ⟨VT, hVT⟩ : ∃ VT, volT (ofT kt) root l nB Lf Bk V = VT := ⟨_, rfl⟩
  have HVT : Hid _ := hVT
  rw [hVT]
  clear hVT
  go_enter Tryz.func124, Tryz.ntmps124
  go_wp2_with fail
  obtain ⟨s0, hs0⟩ : ∃ s0, s0 = w.alloc (Obj.cells #[Value.int IntKind.i64 K, Value.int IntKind.i64 M, Value.int IntKind.i64 C, Value.int IntKind.i64 V] 23) := ⟨_, rfl⟩
  have HX0 : Hid (s0.heap[w.heap.size]? = some (.cells #[.int .i64 K, .int .i64 M, .int .i64 C, .int .i64 V] 23 (0, 0))) := by
    show _ = _
    rw [hs0]; exact heap_alloc_new _ _
  have HB0 : Hid (Below w.heap.size w s0) := by show Below _ _ _; rw [hs0]; exact (Below.refl _ _).alloc (Nat.le_refl _) _
  rw [← hs0]
  clear hs0
  obtain ⟨x, hx⟩ : ∃ x, x = w.heap.size := ⟨_, rfl⟩
  rw [← hx] at HX0 ⊢
  have HX : Hid _ := hx
  clear hx
  have hx0 : x < s0.heap.size := (Array.getElem?_eq_some_iff.1 HX0.out).1
  refine Calls.mono (HLIST.out s0 HB0.out) ?_
  rintro e s1 ⟨rfl, hb1⟩
  have HB1 : Hid (Below s0.heap.size s0 s1) := hb1
  clear hb1 HLIST
  have HW1 : Hid (Below w.heap.size w s1) := HB0.out.trans (HB1.out.mono HB0.out.size)
  go_wp2_with fail
  refine (leavesOf_any kt Bk (some ⟨g, 0, none⟩) nB capB s1 (by omega) (fun i hi => Nat.le_trans (HBK.out i hi) (by omega)) (HG.out _ HW1.out) (fun i hi => ⟨g, rfl, Nat.lt_of_lt_of_le hg HW1.out.size, HCL.out _ HW1.out i hi⟩)).mono ?_
  rintro e s2 ⟨rfl, hR2, hb2⟩
  have HB2 : Hid (Below s0.heap.size s0 s2) := HB1.out.trans (hb2.mono HB1.out.size)
  have HR2 : Hid (Rw s2 s1.heap.size nB 9 (tI Lf)) := by show Rw s2 s1.heap.size nB 9 (tI Lf); rw [← HLE.out]; exact hR2
  have HW2 : Hid (Below w.heap.size w s2) := HB0.out.trans (HB2.out.mono HB0.out.size)
  clear hR2 hb2 HB1 HW1
  have hl2 : s1.heap.size < s2.heap.size := HR2.out.lt
  obtain ⟨gl, hgl⟩ : ∃ gl, gl = s1.heap.size := ⟨_, rfl⟩
  rw [← hgl] at HR2 hl2 ⊢
  have HGL : Hid _ := hgl
  clear hgl
  go_wp2_with fail
  refine (rootOf_any kt l Lf gl nB nB s2 (by have := HLS.out; omega) (by omega) (fun i _ => HLF.out i) (HG.out _ HW2.out) hl2 (fun i hi => HR2.out.cell i hi)).mono ?_
  rintro e s3 ⟨rfl, hb3⟩
  rw [HRE.out]
  have HB3 : Hid (Below s0.heap.size s0 s3) := HB2.out.trans (hb3.mono HB2.out.size)
  have HR3 : Hid (Rw s3 gl nB 9 (tI Lf)) := HR2.out.below hb3 hl2
  have hl3 : gl < s3.heap.size := HR3.out.lt
  clear hb3 HB2 HR2 HW2 hl2
  have c3 : s3.cell? ⟨x, 3, none⟩ = some (.int .i64 V) := cell_of_row _ _ _ _ 23 _ (by rw [HB3.out.block x hx0]; exact HX0.out)
  go_wp2
  obtain ⟨s4, hs4⟩ : ∃ s4, s4 = s3.alloc (Obj.cells (madeCells #[Value.string { data := #[] }] V) 9) := ⟨_, rfl⟩
  have HRV : Hid (Rw s4 s3.heap.size V 9 (fun _ => .string ⟨#[]⟩)) := by show Rw _ _ _ _ _; rw [hs4]; exact Rw.made s3 V 9 _
  have hb34 : Below s3.heap.size s3 s4 := by rw [hs4]; exact (Below.refl _ _).alloc (Nat.le_refl _) _
  rw [← hs4]
  clear hs4 c3
  have HR4 : Hid (Rw s4 gl nB 9 (tI Lf)) := HR3.out.below hb34 hl3
  have HB4 : Hid (Below s3.heap.size s3 s4) := hb34
  clear hb34
  obtain ⟨gv, hgv⟩ : ∃ gv, gv = s3.heap.size := ⟨_, rfl⟩
  rw [← hgv] at HRV hl3 ⊢
  have HGV : Hid _ := hgv
  have hxv : x < gv := by rw [hgv]; exact Nat.lt_of_lt_of_le hx0 HB3.out.size
  have hgg : g < gv := by rw [hgv]; exact Nat.lt_of_lt_of_le hg (Nat.le_trans HB0.out.size HB3.out.size)
  clear hgv
  have HSB : Hid (Below w.heap.size w s3) := HB0.out.trans (HB3.out.mono HB0.out.size)
  go_loopw [27] (fun iv wr => ∃ v : Nat, v ≤ V ∧ iv = .int .i64 v ∧ Rw wr gv V 9 (part' v (tX VT) (.string ⟨#[]⟩)) ∧ Below gv s3 wr) (fun iv _ => V - (intOf iv).toNat)
  case atStart => exact ⟨0, by omega, rfl, HRV.out.to (fun j _ => (part_0 _ _ j).symm), by rw [HGV.out]; exact HB4.out⟩
  case round =>
    obtain ⟨v, hv, rfl, hRr, hbr⟩ := hrel
    have HRR : Hid (Rw wr gv V 9 (part' v (tX VT) (.string ⟨#[]⟩))) := hRr
    have HBR : Hid (Below gv s3 wr) := hbr
    clear hRr hbr
    have HWR : Hid (Below w.heap.size w wr) := HSB.out.trans (HBR.out.mono (by rw [HGV.out]; exact HSB.out.size))
    by_cases hlt : v < V
    · have hls := HLS.out
      have q1 : ((⟨#[86, 79, 76, 49]⟩ : ByteArray) ++ root).size ≤ 100 := by
        rw [ByteArray.size_append, hrs]
        have : (⟨#[86, 79, 76, 49]⟩ : ByteArray).size = 4 := rfl
        omega
      have q2 : ((⟨#[86, 79, 76, 49]⟩ : ByteArray) ++ root ++ l).size ≤ 3000000 := by rw [ByteArray.size_append]; omega
      have hvm : ((v : Nat) : Int) % 4294967296 = ((v : Nat) : Int) := by omega
      have hvs := vint_size v
      have q3 : ((⟨#[86, 79, 76, 49]⟩ : ByteArray) ++ root ++ l ++ vint v).size ≤ 3000100 := by rw [ByteArray.size_append]; omega
      have hjs : (jT Lf nB).size ≤ 1000000 := Nat.le_trans (jT_size Lf 32 nB (fun i _ => HLF.out i)) (by omega)
      have HTD : Hid (toldT root l nB Lf v = (⟨#[86, 79, 76, 49]⟩ : ByteArray) ++ root ++ l ++ vint v ++ jT Lf nB) := rfl
      have q4 : (toldT root l nB Lf v).size ≤ 5000000 := by rw [HTD.out, ByteArray.size_append]; omega
      go_wp2_with fail
      refine (varint_any v wr (by omega)).mono ?_
      rintro e w1 ⟨rfl, hb1⟩
      have HR1 : Hid (Rw w1 gv V 9 (part' v (tX VT) (.string ⟨#[]⟩))) := HRR.out.below hb1 HRR.out.lt
      have HB1' : Hid (Below gv s3 w1) := HBR.out.trans (hb1.mono (Nat.le_of_lt HRR.out.lt))
      clear hb1 HRR HBR HWR
      go_wp2_with fail
      refine (sjoin_any Lf gl 0 nB nB 32 w1 (Nat.lt_of_lt_of_le hl3 (Nat.le_of_lt HR1.out.lt)) (Nat.le_refl _) (by omega) (by omega) (fun i _ => HLF.out i) (fun i hi => by rw [Nat.zero_add]; exact (HB1'.out.cell (p := ⟨gl, i, none⟩) hl3).trans (HR3.out.cell i hi))).mono ?_
      rintro e w2 ⟨rfl, hb2⟩
      have HR2' : Hid (Rw w2 gv V 9 (part' v (tX VT) (.string ⟨#[]⟩))) := HR1.out.below hb2 HR1.out.lt
      have HB2' : Hid (Below gv s3 w2) := HB1'.out.trans (hb2.mono (Nat.le_of_lt HR1.out.lt))
      clear hb2 HR1 HB1'
      have c3 : w2.cell? ⟨x, 3, none⟩ = some (.int .i64 V) := cell_of_row _ _ _ _ 23 _ (by rw [HB2'.out.block x hxv, HB3.out.block x hx0]; exact HX0.out)
      go_wp2_with fail
      rw [← HTD.out]
      have hf1 : v * nB / V < nB := Nat.div_lt_of_lt_mul (Nat.mul_lt_mul_of_pos_right hlt (by omega))
      have hf2 : v * nB / V ≤ (v + 1) * nB / V := Nat.div_le_div_right (Nat.mul_le_mul_right _ (by omega))
      have hf3 : (v + 1) * nB / V ≤ nB := Nat.div_le_of_le_mul (Nat.mul_le_mul_right _ (by omega))
      have HVE : Hid (VT v = toldT root l nB Lf v ++ ofT kt (⟨#[3]⟩ ++ toldT root l nB Lf v) ++ jT (fun i => Bk (v * nB / V + i)) ((v + 1) * nB / V - v * nB / V)) := by
        show VT v = _
        rw [← HVT.out]; rfl
      obtain ⟨td, htd⟩ : ∃ td, toldT root l nB Lf v = td := ⟨_, rfl⟩
      rw [htd] at q4 HVE ⊢
      refine (share_any V nB v w2 (by omega) hV (by omega) (by omega)).mono ?_
      rintro e w3 ⟨rfl, q, hq⟩
      obtain ⟨f, hfe⟩ : ∃ f, v * nB / V = f := ⟨_, rfl⟩
      obtain ⟨en, hee⟩ : ∃ en, (v + 1) * nB / V = en := ⟨_, rfl⟩
      rw [hfe] at hf1 hf2 HVE ⊢
      rw [hee] at hf2 hf3 HVE ⊢
      have HR3' : Hid (Rw w3 gv V 9 (part' v (tX VT) (.string ⟨#[]⟩))) := by show Rw _ _ _ _ _; rw [hq]; exact HR2'.out
      have HB3' : Hid (Below gv s3 w3) := by show Below _ _ _; rw [hq]; exact below_drewN HB2'.out q
      clear hq hfe hee HR2' HB2' c3 htd q1 q2 q3 hjs HTD
      have HW3 : Hid (Below w.heap.size w w3) := HSB.out.trans (HB3'.out.mono (by rw [HGV.out]; exact HSB.out.size))
      have q5 : ((⟨#[3]⟩ : ByteArray) ++ td).size ≤ 6000000 := by
        rw [ByteArray.size_append]
        have : (⟨#[3]⟩ : ByteArray).size = 1 := rfl
        omega
      have HDG : Hid (∀ W, Below gv s3 W → Calls Tryz.prog 125 #[.string (⟨#[3]⟩ ++ td)] W fun e w' => e = .returned (.string (ofT kt (⟨#[3]⟩ ++ td))) ∧ Below W.heap.size W w') := fun W hW => by
        have hg1 := HG.out W (HSB.out.trans (hW.mono (by rw [HGV.out]; exact HSB.out.size)))
        exact of_any kt _ W (by omega) hg1.tab hg1.one
      have HJN : Hid (∀ W, gv ≤ W.heap.size → Below gv s3 W → Calls Tryz.prog 184 #[.slice (some ⟨g, f, none⟩) (en - f) (capB - f), .string ⟨#[]⟩] W fun e w' => e = .returned (.string (jT (fun i => Bk (f + i)) (en - f))) ∧ Below W.heap.size W w') := fun W hz hW =>
        sjoin_any (fun i => Bk (f + i)) g f (en - f) (capB - f) 1000 W (Nat.lt_of_lt_of_le hgg hz) (by omega) (by omega) (by omega) (fun i hi => HBK.out _ (by omega)) (fun i hi => HCL.out W (HSB.out.trans (hW.mono (by rw [HGV.out]; exact HSB.out.size))) (f + i) (by omega))
      have hds : (ofT kt (⟨#[3]⟩ ++ td)).size ≤ 32 := Nat.le_of_eq (ofT_size kt _)
      have hjs : (jT (fun i => Bk (f + i)) (en - f)).size ≤ 100000000 := Nat.le_trans (jT_size _ 1000 _ (fun i hi => HBK.out _ (by omega))) (Nat.le_trans (Nat.mul_le_mul_right 1000 (show en - f ≤ 10000 by omega)) (by omega))
      obtain ⟨dg, hdg⟩ : ∃ dg, ofT kt (⟨#[3]⟩ ++ td) = dg := ⟨_, rfl⟩
      obtain ⟨jn', hjn⟩ : ∃ jn', jT (fun i => Bk (f + i)) (en - f) = jn' := ⟨_, rfl⟩
      rw [hdg] at HVE HDG hds
      rw [hjn] at HVE HJN hjs
      have q6 : (td ++ dg).size ≤ 6000000 := by rw [ByteArray.size_append]; omega
      clear hdg hjn
      have hfc : (f : Int) < (capB : Int) := by omega
      have hfe : (f : Int) ≤ (en : Int) := by omega
      have hec : (en : Int) ≤ (capB : Int) := by omega
      have hvV : (v : Int) < (V : Int) := by omega
      have hvl := HR3'.out.lt
      have k1 := HR3'.out.cell v hlt
      have k2 := HR3'.out.free v
      have HS3 : Hid (gv ≤ w3.heap.size) := Nat.le_of_lt HR3'.out.lt
      have t1 : (⟨#[3]⟩ : ByteArray).size = 1 := rfl
      have k3 : ¬ (9223372036854775807 < (⟨#[3]⟩ : ByteArray).size + td.size) := by omega
      have k3' : ¬ (9223372036854775807 < 1 + td.size) := by omega
      have k4 : ¬ (9223372036854775807 < td.size + dg.size) := by omega
      have k5 : ¬ (9223372036854775807 < (td ++ dg).size + jn'.size) := by omega
      have k5' : ¬ (9223372036854775807 < td.size + dg.size + jn'.size) := by omega
      go_wp2
      go_region_held3 (fun w' => w'.frozen? ⟨gv, v, none⟩ = false) (go_keep) (first | (go_at_call 125; refine Calls.mono (HDG.out _ (by first | exact HB3'.out | exact HB3'.out.drew)) ?_; rintro e r1 ⟨rfl, hbd⟩; have hB1 : Below w3.heap.size w3 r1 := (by first | exact hbd | exact ((Below.refl _ _).drew).trans hbd); have HRa : Hid (Rw r1 gv V 9 (part' v (tX VT) (.string ⟨#[]⟩))) := HR3'.out.below hB1 hvl; have HBa : Hid (Below gv s3 r1) := HB3'.out.trans (hB1.mono HS3.out); have m1 := HRa.out.cell v hlt; have m2 := HRa.out.free v) | (go_at_call 184; refine Calls.mono (HJN.out r1 (Nat.le_of_lt HRa.out.lt) HBa.out) ?_; rintro e r2 ⟨rfl, hbj⟩; have HRb : Hid (Rw r2 gv V 9 (part' v (tX VT) (.string ⟨#[]⟩))) := HRa.out.below hbj HRa.out.lt; have HBb : Hid (Below gv s3 r2) := HBa.out.trans (hbj.mono (Nat.le_of_lt HRa.out.lt)); have n1 := HRb.out.cell v hlt; have n2 := HRb.out.free v))
      clear n1 n2 m1 m2 k1 k2
      go_wp2
      go_roundw
      case rel => exact ⟨v + 1, by omega, by go_num, (HRb.out.put v _).to (fun j _ => by rw [← HVE.out, ← part_step]; rfl), HBb.out.setCell (Nat.le_refl _) _⟩
      case measure => simp [intOf]; omega
    · have e : v = V := by omega
      subst e
      go_wp2
      go_ret2
      exact ⟨gv, rfl, by rw [HGV.out]; exact HSB.out.size, HRR.out.to (fun j hj => by simp [part', hj]), HWR.out⟩
end Go.Proofs.YtadinjaocnlglaaGreatDoor
namespace Go.Proofs.YtadinjaocnlglaaGreatDoor
open Go.RowKit
set_option maxRecDepth 100000
set_option maxHeartbeats 2000000
theorem volumes_nil (kt : Nat → Int) (K M C V nE capE : Nat) (aE : Option Addr) (Nm : Nat → ByteArray) (Ln : Nat → Nat) (Bk : Nat → ByteArray) (w : World) (hK : K ≤ 100000) (hM : M ≤ 100000) (hC : C ≤ 100000) (hV1 : 1 ≤ V) (hV : V ≤ 1000) (hnE : nE ≤ 1000)
    (hN : ∀ j, (Nm j).size ≤ 1000) (hLn : ∀ j, Ln j ≤ 100000) (hE : ∀ j, j < nE → ∃ b, aE = some ⟨b, 0, none⟩ ∧ b < w.heap.size ∧ w.cell? ⟨b, j * 2, none⟩ = some (.string (Nm j)) ∧ w.cell? ⟨b, j * 2 + 1, none⟩ = some (.int .i64 (Ln j)))
    (hG : Gd kt w) :
    Calls Tryz.prog 124 #[.agg #[.int .i64 K, .int .i64 M, .int .i64 C, .int .i64 V], .slice aE nE capE, .slice none 0 0] w fun e w' => ∃ gv, e = .returned (.tuple #[.slice (some ⟨gv, 0, none⟩) V V, .string (rootT (ofT kt) (lstT K M C V nE Nm Ln) 0 fun i => leafT (ofT kt) (Bk i))]) ∧ w.heap.size ≤ gv ∧ Rw w' gv V 9 (tX (volT (ofT kt) (rootT (ofT kt) (lstT K M C V nE Nm Ln) 0 fun i => leafT (ofT kt) (Bk i)) (lstT K M C V nE Nm Ln) 0 (fun i => leafT (ofT kt) (Bk i)) Bk V)) ∧ Below w.heap.size w w' := by
  have hmk := run_make_row' (P := Tryz.prog) 42 9 (.string ⟨#[]⟩) 16 Tryz.underlying42 info9 rfl .i64 .i64 V (by omega) (by omega)
  have HLS : Hid _ := lstT_size K M C V nE Nm Ln hN hnE
  have HLIST : Hid (∀ W, Below w.heap.size w W → Calls Tryz.prog 180 #[.agg #[.int .i64 K, .int .i64 M, .int .i64 C, .int .i64 V], .slice aE nE capE] W fun e w' => e = .returned (.string (lstT K M C V nE Nm Ln)) ∧ Below W.heap.size W w') := fun W hW =>
    listOf_any K M C V nE capE aE Nm Ln W hK hM hC (by omega) (by omega) hN hLn (fun j hj => by
      obtain ⟨b, h1, h2, h3, h4⟩ := hE j hj
      exact ⟨b, h1, Nat.lt_of_lt_of_le h2 hW.size, (hW.cell (p := ⟨b, j * 2, none⟩) h2).trans h3, (hW.cell (p := ⟨b, j * 2 + 1, none⟩) h2).trans h4⟩)
  have HG : Hid (∀ W, Below w.heap.size w W → Gd kt W) := fun W hW => hG.below hW
  clear hN hLn hE hG
  obtain ⟨l, hl⟩ : ∃ l, lstT K M C V nE Nm Ln = l := ⟨_, rfl⟩
  rw [hl] at HLS HLIST ⊢
  clear hl
  obtain ⟨Lf, hLf⟩ : ∃ Lf : Nat → ByteArray, (fun i => leafT (ofT kt) (Bk i)) = Lf := ⟨_, rfl⟩
  have HLF : Hid (∀ i, (Lf i).size ≤ 32) := fun i => by rw [← hLf]; exact Nat.le_of_eq (ofT_size kt _)
  have HLE : Hid _ := hLf
  rw [hLf]
  clear hLf
  obtain ⟨root, hroot⟩ : ∃ root, rootT (ofT kt) l 0 Lf = root := ⟨_, rfl⟩
  have hrs : root.size = 32 := by rw [← hroot]; exact ofT_size kt _
  have HRE : Hid _ := hroot
  rw [hroot]
  clear hroot
  obtain ⟨VT, hVT⟩ : ∃ VT, volT (ofT kt) root l 0 Lf Bk V = VT := ⟨_, rfl⟩
  have HVT : Hid _ := hVT
  rw [hVT]
  clear hVT
  go_enter Tryz.func124, Tryz.ntmps124
  go_wp2_with fail
  obtain ⟨s0, hs0⟩ : ∃ s0, s0 = w.alloc (Obj.cells #[Value.int IntKind.i64 K, Value.int IntKind.i64 M, Value.int IntKind.i64 C, Value.int IntKind.i64 V] 23) := ⟨_, rfl⟩
  have HX0 : Hid (s0.heap[w.heap.size]? = some (.cells #[.int .i64 K, .int .i64 M, .int .i64 C, .int .i64 V] 23 (0, 0))) := by
    show _ = _
    rw [hs0]; exact heap_alloc_new _ _
  have HB0 : Hid (Below w.heap.size w s0) := by show Below _ _ _; rw [hs0]; exact (Below.refl _ _).alloc (Nat.le_refl _) _
  rw [← hs0]
  clear hs0
  obtain ⟨x, hx⟩ : ∃ x, x = w.heap.size := ⟨_, rfl⟩
  rw [← hx] at HX0 ⊢
  have HX : Hid _ := hx
  clear hx
  have hx0 : x < s0.heap.size := (Array.getElem?_eq_some_iff.1 HX0.out).1
  refine Calls.mono (HLIST.out s0 HB0.out) ?_
  rintro e s1 ⟨rfl, hb1⟩
  have HB1 : Hid (Below s0.heap.size s0 s1) := hb1
  clear hb1 HLIST
  have HW1 : Hid (Below w.heap.size w s1) := HB0.out.trans (HB1.out.mono HB0.out.size)
  go_wp2_with fail
  refine (leavesOf_any kt Bk none 0 0 s1 (by omega) (fun i hi => by omega) (HG.out _ HW1.out) (fun i hi => by omega)).mono ?_
  rintro e s2 ⟨rfl, hR2, hb2⟩
  have HB2 : Hid (Below s0.heap.size s0 s2) := HB1.out.trans (hb2.mono HB1.out.size)
  have HR2 : Hid (Rw s2 s1.heap.size 0 9 (tI Lf)) := by show Rw s2 s1.heap.size 0 9 (tI Lf); rw [← HLE.out]; exact hR2
  have HW2 : Hid (Below w.heap.size w s2) := HB0.out.trans (HB2.out.mono HB0.out.size)
  clear hR2 hb2 HB1 HW1
  have hl2 : s1.heap.size < s2.heap.size := HR2.out.lt
  obtain ⟨gl, hgl⟩ : ∃ gl, gl = s1.heap.size := ⟨_, rfl⟩
  rw [← hgl] at HR2 hl2 ⊢
  have HGL : Hid _ := hgl
  clear hgl
  go_wp2_with fail
  refine (rootOf_any kt l Lf gl 0 0 s2 (by have := HLS.out; omega) (by omega) (fun i _ => HLF.out i) (HG.out _ HW2.out) hl2 (fun i hi => HR2.out.cell i hi)).mono ?_
  rintro e s3 ⟨rfl, hb3⟩
  rw [HRE.out]
  have HB3 : Hid (Below s0.heap.size s0 s3) := HB2.out.trans (hb3.mono HB2.out.size)
  have HR3 : Hid (Rw s3 gl 0 9 (tI Lf)) := HR2.out.below hb3 hl2
  have hl3 : gl < s3.heap.size := HR3.out.lt
  clear hb3 HB2 HR2 HW2 hl2
  have c3 : s3.cell? ⟨x, 3, none⟩ = some (.int .i64 V) := cell_of_row _ _ _ _ 23 _ (by rw [HB3.out.block x hx0]; exact HX0.out)
  go_wp2
  obtain ⟨s4, hs4⟩ : ∃ s4, s4 = s3.alloc (Obj.cells (madeCells #[Value.string { data := #[] }] V) 9) := ⟨_, rfl⟩
  have HRV : Hid (Rw s4 s3.heap.size V 9 (fun _ => .string ⟨#[]⟩)) := by show Rw _ _ _ _ _; rw [hs4]; exact Rw.made s3 V 9 _
  have hb34 : Below s3.heap.size s3 s4 := by rw [hs4]; exact (Below.refl _ _).alloc (Nat.le_refl _) _
  rw [← hs4]
  clear hs4 c3
  have HR4 : Hid (Rw s4 gl 0 9 (tI Lf)) := HR3.out.below hb34 hl3
  have HB4 : Hid (Below s3.heap.size s3 s4) := hb34
  clear hb34
  obtain ⟨gv, hgv⟩ : ∃ gv, gv = s3.heap.size := ⟨_, rfl⟩
  rw [← hgv] at HRV hl3 ⊢
  have HGV : Hid _ := hgv
  have hxv : x < gv := by rw [hgv]; exact Nat.lt_of_lt_of_le hx0 HB3.out.size
  clear hgv
  have HSB : Hid (Below w.heap.size w s3) := HB0.out.trans (HB3.out.mono HB0.out.size)
  go_loopw [27] (fun iv wr => ∃ v : Nat, v ≤ V ∧ iv = .int .i64 v ∧ Rw wr gv V 9 (part' v (tX VT) (.string ⟨#[]⟩)) ∧ Below gv s3 wr) (fun iv _ => V - (intOf iv).toNat)
  case atStart => exact ⟨0, by omega, rfl, HRV.out.to (fun j _ => (part_0 _ _ j).symm), by rw [HGV.out]; exact HB4.out⟩
  case round =>
    obtain ⟨v, hv, rfl, hRr, hbr⟩ := hrel
    have HRR : Hid (Rw wr gv V 9 (part' v (tX VT) (.string ⟨#[]⟩))) := hRr
    have HBR : Hid (Below gv s3 wr) := hbr
    clear hRr hbr
    have HWR : Hid (Below w.heap.size w wr) := HSB.out.trans (HBR.out.mono (by rw [HGV.out]; exact HSB.out.size))
    by_cases hlt : v < V
    · have hls := HLS.out
      have q1 : ((⟨#[86, 79, 76, 49]⟩ : ByteArray) ++ root).size ≤ 100 := by
        rw [ByteArray.size_append, hrs]
        have : (⟨#[86, 79, 76, 49]⟩ : ByteArray).size = 4 := rfl
        omega
      have q2 : ((⟨#[86, 79, 76, 49]⟩ : ByteArray) ++ root ++ l).size ≤ 3000000 := by rw [ByteArray.size_append]; omega
      have hvm : ((v : Nat) : Int) % 4294967296 = ((v : Nat) : Int) := by omega
      have hvs := vint_size v
      have q3 : ((⟨#[86, 79, 76, 49]⟩ : ByteArray) ++ root ++ l ++ vint v).size ≤ 3000100 := by rw [ByteArray.size_append]; omega
      have hjs : (jT Lf 0).size ≤ 1000000 := Nat.le_trans (jT_size Lf 32 0 (fun i _ => HLF.out i)) (by omega)
      have HTD : Hid (toldT root l 0 Lf v = (⟨#[86, 79, 76, 49]⟩ : ByteArray) ++ root ++ l ++ vint v ++ jT Lf 0) := rfl
      have q4 : (toldT root l 0 Lf v).size ≤ 5000000 := by rw [HTD.out, ByteArray.size_append]; omega
      go_wp2_with fail
      refine (varint_any v wr (by omega)).mono ?_
      rintro e w1 ⟨rfl, hb1⟩
      have HR1 : Hid (Rw w1 gv V 9 (part' v (tX VT) (.string ⟨#[]⟩))) := HRR.out.below hb1 HRR.out.lt
      have HB1' : Hid (Below gv s3 w1) := HBR.out.trans (hb1.mono (Nat.le_of_lt HRR.out.lt))
      clear hb1 HRR HBR HWR
      go_wp2_with fail
      refine (sjoin_any Lf gl 0 0 0 32 w1 (Nat.lt_of_lt_of_le hl3 (Nat.le_of_lt HR1.out.lt)) (Nat.le_refl _) (by omega) (by omega) (fun i _ => HLF.out i) (fun i hi => by rw [Nat.zero_add]; exact (HB1'.out.cell (p := ⟨gl, i, none⟩) hl3).trans (HR3.out.cell i hi))).mono ?_
      rintro e w2 ⟨rfl, hb2⟩
      have HR2' : Hid (Rw w2 gv V 9 (part' v (tX VT) (.string ⟨#[]⟩))) := HR1.out.below hb2 HR1.out.lt
      have HB2' : Hid (Below gv s3 w2) := HB1'.out.trans (hb2.mono (Nat.le_of_lt HR1.out.lt))
      clear hb2 HR1 HB1'
      have c3 : w2.cell? ⟨x, 3, none⟩ = some (.int .i64 V) := cell_of_row _ _ _ _ 23 _ (by rw [HB2'.out.block x hxv, HB3.out.block x hx0]; exact HX0.out)
      go_wp2_with fail
      rw [← HTD.out]
      have HVE : Hid (VT v = toldT root l 0 Lf v ++ ofT kt (⟨#[3]⟩ ++ toldT root l 0 Lf v) ++ jT (fun i => Bk (v * 0 / V + i)) ((v + 1) * 0 / V - v * 0 / V)) := by
        show VT v = _
        rw [← HVT.out]; rfl
      obtain ⟨td, htd⟩ : ∃ td, toldT root l 0 Lf v = td := ⟨_, rfl⟩
      rw [htd] at q4 HVE ⊢
      refine (share_any V 0 v w2 (by omega) hV (by omega) (by omega)).mono ?_
      rintro e w3 ⟨rfl, q, hq⟩
      have z1 : v * 0 / V = 0 := by rw [Nat.mul_zero, Nat.zero_div]
      have z2 : (v + 1) * 0 / V = 0 := by rw [Nat.mul_zero, Nat.zero_div]
      rw [z1, z2] at HVE ⊢
      clear z1 z2
      have HR3' : Hid (Rw w3 gv V 9 (part' v (tX VT) (.string ⟨#[]⟩))) := by show Rw _ _ _ _ _; rw [hq]; exact HR2'.out
      have HB3' : Hid (Below gv s3 w3) := by show Below _ _ _; rw [hq]; exact below_drewN HB2'.out q
      clear hq HR2' HB2' c3 htd q1 q2 q3 hjs HTD
      have HW3 : Hid (Below w.heap.size w w3) := HSB.out.trans (HB3'.out.mono (by rw [HGV.out]; exact HSB.out.size))
      have q5 : ((⟨#[3]⟩ : ByteArray) ++ td).size ≤ 6000000 := by
        rw [ByteArray.size_append]
        have : (⟨#[3]⟩ : ByteArray).size = 1 := rfl
        omega
      have HDG : Hid (∀ W, Below gv s3 W → Calls Tryz.prog 125 #[.string (⟨#[3]⟩ ++ td)] W fun e w' => e = .returned (.string (ofT kt (⟨#[3]⟩ ++ td))) ∧ Below W.heap.size W w') := fun W hW => by
        have hg1 := HG.out W (HSB.out.trans (hW.mono (by rw [HGV.out]; exact HSB.out.size)))
        exact of_any kt _ W (by omega) hg1.tab hg1.one
      have HJN : Hid (∀ W, Calls Tryz.prog 184 #[.slice none 0 0, .string ⟨#[]⟩] W fun e w' => e = .returned (.string (jT (fun i => Bk (0 + i)) (0 - 0))) ∧ Below W.heap.size W w') := fun W =>
        (join_none _ 0 ⟨#[]⟩ W).mono fun e w' ⟨h1, h2⟩ => ⟨h1, by rw [h2]; exact Below.refl _ _⟩
      have hds : (ofT kt (⟨#[3]⟩ ++ td)).size ≤ 32 := Nat.le_of_eq (ofT_size kt _)
      have hjs : (jT (fun i => Bk (0 + i)) (0 - 0)).size ≤ 100000000 := by show 0 ≤ _; omega
      obtain ⟨dg, hdg⟩ : ∃ dg, ofT kt (⟨#[3]⟩ ++ td) = dg := ⟨_, rfl⟩
      obtain ⟨jn', hjn⟩ : ∃ jn', jT (fun i => Bk (0 + i)) (0 - 0) = jn' := ⟨_, rfl⟩
      rw [hdg] at HVE HDG hds
      rw [hjn] at HVE HJN hjs
      have q6 : (td ++ dg).size ≤ 6000000 := by rw [ByteArray.size_append]; omega
      clear hdg hjn
      have hvV : (v : Int) < (V : Int) := by omega
      have hvl := HR3'.out.lt
      have k1 := HR3'.out.cell v hlt
      have k2 := HR3'.out.free v
      have HS3 : Hid (gv ≤ w3.heap.size) := Nat.le_of_lt HR3'.out.lt
      have t1 : (⟨#[3]⟩ : ByteArray).size = 1 := rfl
      have k3 : ¬ (9223372036854775807 < (⟨#[3]⟩ : ByteArray).size + td.size) := by omega
      have k3' : ¬ (9223372036854775807 < 1 + td.size) := by omega
      have k4 : ¬ (9223372036854775807 < td.size + dg.size) := by omega
      have k5 : ¬ (9223372036854775807 < (td ++ dg).size + jn'.size) := by omega
      have k5' : ¬ (9223372036854775807 < td.size + dg.size + jn'.size) := by omega
      go_wp2
      go_region_held3 (fun w' => w'.frozen? ⟨gv, v, none⟩ = false) (go_keep) (first | (go_at_call 125; refine Calls.mono (HDG.out _ (by first | exact HB3'.out | exact HB3'.out.drew)) ?_; rintro e r1 ⟨rfl, hbd⟩; have hB1 : Below w3.heap.size w3 r1 := (by first | exact hbd | exact ((Below.refl _ _).drew).trans hbd); have HRa : Hid (Rw r1 gv V 9 (part' v (tX VT) (.string ⟨#[]⟩))) := HR3'.out.below hB1 hvl; have HBa : Hid (Below gv s3 r1) := HB3'.out.trans (hB1.mono HS3.out); have m1 := HRa.out.cell v hlt; have m2 := HRa.out.free v) | (go_at_call 184; refine Calls.mono (HJN.out r1) ?_; rintro e r2 ⟨rfl, hbj⟩; have HRb : Hid (Rw r2 gv V 9 (part' v (tX VT) (.string ⟨#[]⟩))) := HRa.out.below hbj HRa.out.lt; have HBb : Hid (Below gv s3 r2) := HBa.out.trans (hbj.mono (Nat.le_of_lt HRa.out.lt)); have n1 := HRb.out.cell v hlt; have n2 := HRb.out.free v))
      clear n1 n2 m1 m2 k1 k2
      go_wp2
      go_roundw
      case rel => exact ⟨v + 1, by omega, by go_num, (HRb.out.put v _).to (fun j _ => by rw [← HVE.out, ← part_step]; rfl), HBb.out.setCell (Nat.le_refl _) _⟩
      case measure => simp [intOf]; omega
    · have e : v = V := by omega
      subst e
      go_wp2
      go_ret2
      exact ⟨gv, rfl, by rw [HGV.out]; exact HSB.out.size, HRR.out.to (fun j hj => by simp [part', hj]), HWR.out⟩
end Go.Proofs.YtadinjaocnlglaaGreatDoor
