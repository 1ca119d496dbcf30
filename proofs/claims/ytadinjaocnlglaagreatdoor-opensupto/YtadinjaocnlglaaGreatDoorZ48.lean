/-
  A hall: asks, the first four questions.
  Begin of the document's Writer.
  A desk: one act.
  A hall: plays.
  Opens.
-/
import Derived.Test.YtadinjaocnlglaaGreatDoorZ45
import Derived.Test.YtadinjaocnlglaaGreatDoorZ31
import Derived.Test.YtadinjaocnlglaaGreatDoorZ08
import Derived.BigQuiet
import Derived.Test.YtadinjaocnlglaaGreatDoorZ33
import Derived.Test.YtadinjaocnlglaaGreatDoorZ47
namespace Go.Proofs.YtadinjaocnlglaaGreatDoor
open Go.RowKit
set_option maxRecDepth 100000
set_option maxHeartbeats 4000000
def drA (d : Dr) : Value := .agg #[.pointer (some ⟨d.v, 0, none⟩), .pointer (some ⟨d.y, 0, none⟩)]
def drC (d : Dr) : Array Value := #[.pointer (some ⟨d.v, 0, none⟩), .pointer (some ⟨d.y, 0, none⟩)]
theorem HSt.more {kt : Nat → Int} {base h : Nat} {lost : Bool} {ds : List Dr} {m m' : Nat} {w w' : World} (H : HSt kt base h lost ds m w w') (hm : m ≤ m') : HSt kt base h lost ds m' w w' := by
 obtain ⟨bk, h1, h2, h3⟩ := H
 exact ⟨bk, h1, h2.more hm, h3⟩
theorem HSt.pre {kt : Nat → Int} {base h : Nat} {lost : Bool} {ds : List Dr} {m : Nat} {w W w' : World} (H : HSt kt base h lost ds m W w') (hb : Below base w W) : HSt kt base h lost ds m w w' := by
 obtain ⟨bk, h1, h2, h3⟩ := H
 exact ⟨bk, h1, h2, hb.trans h3⟩
theorem HSt.low {kt : Nat → Int} {base h : Nat} {lost : Bool} {ds : List Dr} {m : Nat} {w W w' : World} (H : HSt kt base h lost ds m w W) (hb : Below W.heap.size W w') : HSt kt base h lost ds m w w' := by
 obtain ⟨bk, h1, h2, h3⟩ := H
 exact ⟨bk, h1.low hb, h2, h3.trans (hb.mono h1.bw)⟩
section
variable {kt : Nat → Int} {base h : Nat} {lost : Bool} {ds : List Dr} {bk : Bk} {w w' : World} {d : Dr}
theorem HK.worked (H : HK kt base h lost ds bk noZ w) (hd : d ∈ ds) (hF : Fr (fun j => j = d.q ∨ j = d.f ∨ j = d.v) w w') : Below base w w' ∧ ∀ (db : Nat) (row : Array Value), w.heap[db]? = some (.cells row 147 (0, 0)) → w'.heap[db]? = some (.cells row 147 (0, 0)) := by
 have hA := H.here d hd
 obtain ⟨dn, zs, bd, hV, _⟩ := hA.vs
 refine ⟨Fr.low hF (fun j hj => ?_) H.bw, fun db row hdb => ?_⟩
 ·obtain ⟨_, l1, l2, l3, _⟩ := hA.lo
  rcases hj with e | e | e <;> rw [e] <;> assumption
 ·rw [hF.old db (Array.getElem?_eq_some_iff.1 hdb).1 (fun e => by
   rcases e with e | e | e
   ·exact row_ne hdb hV.blR (by decide) e
   ·exact row_ne hdb hV.fiR (by decide) e
   ·exact row_ne hdb hA.vl (by decide) e)]
  exact hdb
theorem HK.workK (H : HK kt base h lost ds bk noZ w) (hd : d ∈ ds) (hF : Fr (fun j => j = d.q ∨ j = d.f ∨ j = d.v) w w') (hvk : VK kt d.B d.v d.k d.g d.p d.q d.f (tT d.t0) d.un d.ul d.rd d.bl w') : HK kt base h lost ds bk noZ w' := by
 obtain ⟨hvl, dn, zs, bd, hV⟩ := hvk
 exact H.work hd hF hvl ⟨dn, zs, bd, hV, fun j hj => hj.elim⟩ (fun j hj => hj.elim)
end
theorem hask0 (kt : Nat → Int) (base h : Nat) (lost : Bool) (ds : List Dr) (d : Dr) (m : Nat) (bk : Bk) (w : World) (H : HK kt base h lost ds bk noZ w) (hd : d ∈ ds) (hm : bk.le m) :
  Calls Tryz.prog 67 #[.pointer (some ⟨h, 0, none⟩), drA d, .int .i64 0] w fun e w' => e = .returned (.bool true) ∧ HSt kt base h lost ds (m + 5) w w' := by
 obtain ⟨W, hW⟩ : ∃ W, w.alloc (.cells (drC d) 147) = W := ⟨_, rfl⟩
 have hbW : Below w.heap.size w W := by rw [← hW]; exact (Below.refl _ _).alloc (Nat.le_refl _) _
 have hWn : W.heap[w.heap.size]? = some (.cells (drC d) 147 (0, 0)) := by rw [← hW]; exact heap_alloc_new _ _
 have H1 := H.low hbW
 obtain ⟨db, hdbe⟩ : ∃ x, w.heap.size = x := ⟨_, rfl⟩
 rw [hdbe] at hWn
 have HH : Hid _ := H
 have HBW : Hid _ := hbW
 have HWN : Hid _ := hWn
 have HH1 : Hid _ := H1
 have HF : Hid _ := H.fit d hd
 have HDB : Hid (w.heap.size = db) := hdbe
 have c0 : W.cell? ⟨db, 0, none⟩ = some (.pointer (some ⟨d.v, 0, none⟩)) := cell_of_row _ _ _ _ 147 _ hWn
 have c1 : W.cell? ⟨db, 1, none⟩ = some (.pointer (some ⟨d.y, 0, none⟩)) := cell_of_row _ _ _ _ 147 _ hWn
 unfold drC at hW
 unfold drA
 have HV : Hid (Calls Tryz.prog 23 #[.pointer (some ⟨d.v, 0, none⟩)] W fun e w' => e = .returned (.agg #[.int .i64 (tT d.t0).L.K, .int .i64 (tT d.t0).L.M, .int .i64 (tT d.t0).L.C, .int .i64 (tT d.t0).L.V]) ∧ VK kt d.B d.v d.k d.g d.p d.q d.f (tT d.t0) d.un d.ul d.rd d.bl w' ∧ Fr (fun j => j = d.q ∨ j = d.f ∨ j = d.v) W w') := vparams kt d.B d.v d.k d.g d.p d.q d.f (tT d.t0) d.un d.ul d.rd d.bl W (H1.here d hd).vk
 clear H hbW hWn H1
 go_enter Tryz.func67, Tryz.ntmps67
 go_wp2_with fail
 refine Calls.mono HV.out ?_
 rintro e W1 ⟨rfl, hvk, hF⟩
 have hH2 := HH1.out.workK hd hF hvk
 obtain ⟨hbel, hdoor⟩ := HH1.out.worked hd hF
 have hdr := hdoor db _ HWN.out
 obtain ⟨K, hK⟩ : ∃ x, ((tT d.t0).L.K : Int) = x := ⟨_, rfl⟩
 obtain ⟨M, hM⟩ : ∃ x, ((tT d.t0).L.M : Int) = x := ⟨_, rfl⟩
 obtain ⟨C, hC⟩ : ∃ x, ((tT d.t0).L.C : Int) = x := ⟨_, rfl⟩
 obtain ⟨V, hV⟩ : ∃ x, ((tT d.t0).L.V : Int) = x := ⟨_, rfl⟩
 obtain ⟨X0, hX0⟩ : ∃ X, W1.alloc (.cells #[.int .i64 K, .int .i64 M, .int .i64 C, .int .i64 V] 23) = X := ⟨_, rfl⟩
 obtain ⟨p, hp⟩ : ∃ x, W1.heap.size = x := ⟨_, rfl⟩
 have hb0 : Below W1.heap.size W1 X0 := by rw [← hX0]; exact (Below.refl _ _).alloc (Nat.le_refl _) _
 have hpr : X0.heap[p]? = some (.cells #[.int .i64 K, .int .i64 M, .int .i64 C, .int .i64 V] 23 (0, 0)) := by rw [← hX0, ← hp]; exact heap_alloc_new _ _
 have hdr0 : X0.heap[db]? = some (.cells (drC d) 147 (0, 0)) := (hb0.block _ (Array.getElem?_eq_some_iff.1 hdr).1).trans hdr
 have HH3 : Hid _ := hH2.low hb0
 have HB3 : Hid (Below base w X0) := ((HBW.out.mono HH.out.bw).trans hbel).trans (hb0.mono hH2.bw)
 have HRP : Hid (∀ X : World, Below X0.heap.size X0 X → Calls Tryz.prog 110 #[.pointer (some ⟨d.y, 0, none⟩)] X fun e w' => e = .returned (.agg #[.int .i64 K, .int .i64 M, .int .i64 C, .int .i64 V]) ∧ Below X.heap.size X w') := fun X hX => by
  rw [← hK, ← hM, ← hC, ← hV]
  exact rparams kt d.C d.y d.vH d.vU d.hp d.ul d.t0 X (((HH3.out.low hX).here d hd).rb (HF.out)) HF.out.set
 have HSP : Hid (∀ X : World, Calls Tryz.prog 109 #[.agg #[.int .i64 K, .int .i64 M, .int .i64 C, .int .i64 V], .agg #[.int .i64 K, .int .i64 M, .int .i64 C, .int .i64 V]] X fun e w' => e = .returned (.bool true) ∧ Below X.heap.size X w') := fun X => lsameP K M C V X
 have HVC : Hid (∀ X : World, Below X0.heap.size X0 X → X.cell? ⟨p, 0, none⟩ = some (.int .i64 K) ∧ X.cell? ⟨p, 1, none⟩ = some (.int .i64 M) ∧ X.cell? ⟨p, 2, none⟩ = some (.int .i64 C) ∧ X.cell? ⟨p, 3, none⟩ = some (.int .i64 V) ∧ X.cell? ⟨db, 1, none⟩ = some (.pointer (some ⟨d.y, 0, none⟩))) := fun X hX => by
  have h1 := (hX.block _ (Array.getElem?_eq_some_iff.1 hpr).1).trans hpr
  have h2 := (hX.block _ (Array.getElem?_eq_some_iff.1 hdr0).1).trans hdr0
  exact ⟨cell_of_row _ _ _ _ 23 _ h1, cell_of_row _ _ _ _ 23 _ h1, cell_of_row _ _ _ _ 23 _ h1, cell_of_row _ _ _ _ 23 _ h1, cell_of_row _ _ _ _ 147 _ h2⟩
 obtain ⟨x0, x1, x2, x3, x4⟩ := HVC.out X0 (Below.refl _ _)
 rw [hK, hM, hC, hV]
 clear hvk hF hH2 hbel hdoor hdr hb0 hpr hdr0
 go_wp2_with fail
 go_region_held3 (fun X => X.cell? ⟨p, 0, none⟩ = some (.int .i64 K) ∧ X.cell? ⟨p, 1, none⟩ = some (.int .i64 M) ∧ X.cell? ⟨p, 2, none⟩ = some (.int .i64 C) ∧ X.cell? ⟨p, 3, none⟩ = some (.int .i64 V) ∧ X.cell? ⟨db, 1, none⟩ = some (.pointer (some ⟨d.y, 0, none⟩))) (go_keep) (first | (go_at_call 110; refine Calls.mono (HRP.out _ (by first | exact Below.refl _ _ | exact (Below.refl _ _).drew)) ?_; rintro e w7 ⟨rfl, hb7⟩; have hB7 : Below X0.heap.size X0 w7 := (by first | exact hb7 | exact ((Below.refl _ _).drew).trans hb7); obtain ⟨q0, q1, q2, q3, q4⟩ := HVC.out w7 hB7) | (go_at_call 109; refine Calls.mono (HSP.out _) ?_; rintro e w8 ⟨rfl, hb8⟩; have hB8 : Below X0.heap.size X0 w8 := (hB7.trans (hb8.mono hB7.size)); obtain ⟨r0, r1, r2, r3, r4⟩ := HVC.out w8 hB8))
 have HB8 : Hid (HK kt base h lost ds bk noZ w8) := HH3.out.low hB8
 have HBB : Hid (Below base w w8) := HB3.out.trans (hB8.mono HH3.out.bw)
 clear hb7 hB7 hb8 hB8
 go_wp2_with fail
 go_ret
 exact ⟨rfl, bk, HB8.out, hm.more (by omega), HBB.out⟩
theorem hask1 (kt : Nat → Int) (base h : Nat) (lost : Bool) (ds : List Dr) (d : Dr) (m : Nat) (bk : Bk) (w : World) (H : HK kt base h lost ds bk noZ w) (hd : d ∈ ds) (hm : bk.le m) :
  Calls Tryz.prog 67 #[.pointer (some ⟨h, 0, none⟩), drA d, .int .i64 1] w fun e w' => e = .returned (.bool true) ∧ HSt kt base h lost ds (m + 5) w w' := by
 obtain ⟨W, hW⟩ : ∃ W, w.alloc (.cells (drC d) 147) = W := ⟨_, rfl⟩
 have hbW : Below w.heap.size w W := by rw [← hW]; exact (Below.refl _ _).alloc (Nat.le_refl _) _
 have hWn : W.heap[w.heap.size]? = some (.cells (drC d) 147 (0, 0)) := by rw [← hW]; exact heap_alloc_new _ _
 have H1 := H.low hbW
 obtain ⟨db, hdbe⟩ : ∃ x, w.heap.size = x := ⟨_, rfl⟩
 rw [hdbe] at hWn
 have HH : Hid _ := H
 have HBW : Hid _ := hbW
 have HWN : Hid _ := hWn
 have HH1 : Hid _ := H1
 have HF : Hid _ := H.fit d hd
 have HDB : Hid (w.heap.size = db) := hdbe
 have c0 : W.cell? ⟨db, 0, none⟩ = some (.pointer (some ⟨d.v, 0, none⟩)) := cell_of_row _ _ _ _ 147 _ hWn
 have c1 : W.cell? ⟨db, 1, none⟩ = some (.pointer (some ⟨d.y, 0, none⟩)) := cell_of_row _ _ _ _ 147 _ hWn
 unfold drC at hW
 unfold drA
 have HV : Hid (Calls Tryz.prog 24 #[.pointer (some ⟨d.v, 0, none⟩)] W fun e w' => e = .returned (.string (tT d.t0).root) ∧ VK kt d.B d.v d.k d.g d.p d.q d.f (tT d.t0) d.un d.ul d.rd d.bl w' ∧ Fr (fun j => j = d.q ∨ j = d.f ∨ j = d.v) W w') := vroot kt d.B d.v d.k d.g d.p d.q d.f (tT d.t0) d.un d.ul d.rd d.bl W (H1.here d hd).vk
 clear H hbW hWn H1
 go_enter Tryz.func67, Tryz.ntmps67
 go_wp2_with fail
 refine Calls.mono HV.out ?_
 rintro e W1 ⟨rfl, hvk, hF⟩
 have hH2 := HH1.out.workK hd hF hvk
 obtain ⟨hbel, hdoor⟩ := HH1.out.worked hd hF
 have hdr := hdoor db _ HWN.out
 have x1 : W1.cell? ⟨db, 1, none⟩ = some (.pointer (some ⟨d.y, 0, none⟩)) := cell_of_row _ _ _ _ 147 _ hdr
 have HRR : Hid (Calls Tryz.prog 111 #[.pointer (some ⟨d.y, 0, none⟩)] W1 fun e w' => e = .returned (.string (tT d.t0).root) ∧ w' = W1) := rroot kt d.C d.y d.vH d.vU d.hp d.ul d.t0 W1 ((hH2.here d hd).rb HF.out) HF.out.set
 have HH2 : Hid _ := hH2
 have HB2 : Hid (Below base w W1) := (HBW.out.mono HH.out.bw).trans hbel
 clear hvk hF hH2 hbel hdoor hdr
 go_wp2_with fail
 refine Calls.mono HRR.out ?_
 rintro e W2 ⟨rfl, rfl⟩
 go_wp2_with fail
 go_ret
 exact ⟨rfl, bk, HH2.out, hm.more (by omega), HB2.out⟩
theorem hask2 (kt : Nat → Int) (base h : Nat) (lost : Bool) (ds : List Dr) (d : Dr) (m : Nat) (bk : Bk) (w : World) (H : HK kt base h lost ds bk noZ w) (hd : d ∈ ds) (hm : bk.le m) (hm2 : m ≤ 10000000000) :
  Calls Tryz.prog 67 #[.pointer (some ⟨h, 0, none⟩), drA d, .int .i64 2] w fun e w' => e = .returned (.bool true) ∧ HSt kt base h lost ds (m + 5) w w' := by
 obtain ⟨W, hW⟩ : ∃ W, w.alloc (.cells (drC d) 147) = W := ⟨_, rfl⟩
 have hbW : Below w.heap.size w W := by rw [← hW]; exact (Below.refl _ _).alloc (Nat.le_refl _) _
 have hWn : W.heap[w.heap.size]? = some (.cells (drC d) 147 (0, 0)) := by rw [← hW]; exact heap_alloc_new _ _
 have H1 := H.low hbW
 obtain ⟨db, hdbe⟩ : ∃ x, w.heap.size = x := ⟨_, rfl⟩
 rw [hdbe] at hWn
 have HH : Hid _ := H
 have HBW : Hid _ := hbW
 have HWN : Hid _ := hWn
 have HH1 : Hid _ := H1
 have HF : Hid _ := H.fit d hd
 have HDB : Hid (w.heap.size = db) := hdbe
 have c0 : W.cell? ⟨db, 0, none⟩ = some (.pointer (some ⟨d.v, 0, none⟩)) := cell_of_row _ _ _ _ 147 _ hWn
 have c1 : W.cell? ⟨db, 1, none⟩ = some (.pointer (some ⟨d.y, 0, none⟩)) := cell_of_row _ _ _ _ 147 _ hWn
 unfold drC at hW
 unfold drA
 obtain ⟨hT, hle⟩ := HF.out.told
 have HLE : Hid _ := hle
 have HV : Hid (Calls Tryz.prog 25 #[.pointer (some ⟨d.v, 0, none⟩)] W fun e w' => ∃ vo, e = .returned vo ∧ VK kt d.B d.v d.k d.g d.p d.q d.f (tT d.t0) d.un d.ul d.rd d.bl w' ∧ Fr (fun j => j = d.q ∨ j = d.f ∨ j = d.v) W w' ∧ w'.ownsRow W.heap.size 70 2 vo (tT d.t0).L.es.length (enV (tT d.t0).L.es)) := vobjects kt d.B d.v d.k d.g d.p d.q d.f (tT d.t0) d.un d.ul d.rd d.bl W (H1.here d hd).vk hle.1
 clear H hbW hWn H1 hT hle
 go_enter Tryz.func67, Tryz.ntmps67
 go_wp2_with fail
 refine Calls.mono HV.out ?_
 rintro e W1 ⟨vo, rfl, hvk, hF, hvo⟩
 obtain ⟨hbel, hdoor⟩ := HH1.out.worked hd hF
 have hdr := hdoor db _ HWN.out
 have x1 : W1.cell? ⟨db, 1, none⟩ = some (.pointer (some ⟨d.y, 0, none⟩)) := cell_of_row _ _ _ _ 147 _ hdr
 obtain ⟨Z, hZ⟩ : ∃ Z : Nat → Prop, Z = fun j => vo.ownBlock = some j := ⟨_, rfl⟩
 have hH2 : HK kt base h lost ds bk Z W1 := by
  obtain ⟨hvl, dn, zs, bd, hVS⟩ := hvk
  refine HH1.out.work hd hF hvl ⟨dn, zs, bd, hVS, fun j hj ho => ?_⟩ (fun j hj => ?_)
  ·rw [hZ] at hj
   obtain ⟨c1, e1⟩ := hVS.out3 ho
   obtain ⟨c2, e2⟩ := own_type hvo j hj
   exact row_ne e1 e2 (by decide) rfl
  ·rw [hZ] at hj; exact own_ge hvo j hj
 have HRO : Hid (Calls Tryz.prog 113 #[.pointer (some ⟨d.y, 0, none⟩)] W1 fun e w' => ∃ vo, e = .returned vo ∧ w'.ownsRow W1.heap.size 70 2 vo (tT d.t0).L.es.length (enV (tT d.t0).L.es) ∧ Below W1.heap.size W1 w') := robjects kt d.C d.y d.vH d.vU d.hp d.ul d.t0 W1 ((hH2.here d hd).rb HF.out) HF.out.set
 have HH2 : Hid _ := hH2
 have HVO : Hid (W1.ownsRow W.heap.size 70 2 vo (tT d.t0).L.es.length (enV (tT d.t0).L.es)) := hvo
 have HB2 : Hid (Below base w W1) := (HBW.out.mono HH.out.bw).trans hbel
 have HZ : Hid _ := hZ
 clear hvk hF hH2 hbel hdoor hdr hvo hZ
 go_wp2_with fail
 refine Calls.mono HRO.out ?_
 rintro e W2 ⟨vr, rfl, hvr, hb2⟩
 have HVO2 : Hid (W2.ownsRow W.heap.size 70 2 vo (tT d.t0).L.es.length (enV (tT d.t0).L.es)) := own_kept HVO.out (fun q hq => hb2.block q (own_lt HVO.out q hq))
 have HSE : Hid (Calls Tryz.prog 112 #[vo, vr] W2 fun e w' => e = .returned (.bool true) ∧ Below W2.heap.size W2 w') := lsameE (tT d.t0).L.es _ rfl W.heap.size W1.heap.size vo vr W2 (by have := HLE.out.1; omega) HVO2.out hvr
 have HH3 : Hid _ := HH2.out.low hb2
 have HB3 : Hid (Below base w W2) := HB2.out.trans (hb2.mono HH2.out.bw)
 clear hb2 hvr
 go_wp2_with fail
 refine Calls.mono HSE.out ?_
 rintro e W3 ⟨rfl, hb3⟩
 have hH4 := HH3.out.low hb3
 have hvo3 := own_kept HVO2.out (fun q hq => hb3.block q (own_lt HVO2.out q hq))
 obtain ⟨l0, hbi, hrow⟩ := hH4.book
 have hbase : base ≤ W.heap.size := HH1.out.bw
 have HKE : Hid (Calls Tryz.prog 114 #[.pointer (some ⟨h, 1, none⟩), vo] W3 fun e w' => e = .returned (.tuple #[]) ∧ KeptE base h l0 (.bool lost) bk vo W3 w') := keepE base h l0 (.bool lost) bk vo (tT d.t0).L.es.length (enV (tT d.t0).L.es) W3 hbi (own_le hvo3 hbase) (fun q hq hh => by
  obtain ⟨l1, hb1, _⟩ := HH1.out.book
  have h1 := (hb1.lt hh).2
  have h2 := own_ge hvo3 q hq
  omega) hH4.bw hH4.lo (by have := HLE.out.1; omega) (Nat.le_trans hm.1 (by omega)) (Nat.le_trans hm.2.2.2.2 (by omega))
 have HH4 : Hid _ := hH4
 have HRW : Hid (W3.ownsRow base 147 2 l0 ds.length (drV ds)) := hrow
 have HVO3 : Hid (W3.ownsRow W.heap.size 70 2 vo (tT d.t0).L.es.length (enV (tT d.t0).L.es)) := hvo3
 have HB4 : Hid (Below base w W3) := HB3.out.trans (hb3.mono HH3.out.bw)
 clear hb3 hH4 hvo3 hbi hrow hbase
 go_wp2_with fail
 refine Calls.mono HKE.out ?_
 rintro e W4 ⟨rfl, hK⟩
 have hbK : Below base W3 W4 := by obtain ⟨_, _, _, _, h4⟩ := hK; exact h4
 obtain ⟨y, h5, _⟩ := HH4.out.keepE HRW.out hK (fun j hj => ⟨by rw [HZ.out]; exact hj, by obtain ⟨c, hc⟩ := own_type HVO3.out j hj; exact ⟨c, 70, hc, by simp⟩⟩)
 have HH5 : Hid _ := h5
 have HB5 : Hid _ := HB4.out.trans hbK
 clear hK hbK h5
 go_wp2_with fail
 go_ret
 exact ⟨rfl, _, HH5.out.mono (fun _ h => h.elim), hm.oneE.more (by omega), HB5.out⟩
theorem hask3 (kt : Nat → Int) (base h : Nat) (lost : Bool) (ds : List Dr) (d : Dr) (m : Nat) (bk : Bk) (w : World) (H : HK kt base h lost ds bk noZ w) (hd : d ∈ ds) (hm : bk.le m) (hm2 : m ≤ 10000000000) :
  Calls Tryz.prog 67 #[.pointer (some ⟨h, 0, none⟩), drA d, .int .i64 3] w fun e w' => e = .returned (.bool true) ∧ HSt kt base h lost ds (m + 5) w w' := by
 obtain ⟨W, hW⟩ : ∃ W, w.alloc (.cells (drC d) 147) = W := ⟨_, rfl⟩
 have hbW : Below w.heap.size w W := by rw [← hW]; exact (Below.refl _ _).alloc (Nat.le_refl _) _
 have hWn : W.heap[w.heap.size]? = some (.cells (drC d) 147 (0, 0)) := by rw [← hW]; exact heap_alloc_new _ _
 have H1 := H.low hbW
 obtain ⟨db, hdbe⟩ : ∃ x, w.heap.size = x := ⟨_, rfl⟩
 rw [hdbe] at hWn
 have HH : Hid _ := H
 have HBW : Hid _ := hbW
 have HWN : Hid _ := hWn
 have HH1 : Hid _ := H1
 have HF : Hid _ := H.fit d hd
 have HDB : Hid (w.heap.size = db) := hdbe
 have c0 : W.cell? ⟨db, 0, none⟩ = some (.pointer (some ⟨d.v, 0, none⟩)) := cell_of_row _ _ _ _ 147 _ hWn
 have c1 : W.cell? ⟨db, 1, none⟩ = some (.pointer (some ⟨d.y, 0, none⟩)) := cell_of_row _ _ _ _ 147 _ hWn
 unfold drC at hW
 unfold drA
 have HV : Hid (Calls Tryz.prog 115 #[.pointer (some ⟨h, 0, none⟩), .agg #[.pointer (some ⟨d.v, 0, none⟩), .pointer (some ⟨d.y, 0, none⟩)]] W fun e w' => e = .returned (.bool true) ∧ HSt kt base h lost ds (m + 5) W w') := hreport kt base h lost ds d m bk W H1 hd hm hm2
 clear H hbW hWn H1
 go_enter Tryz.func67, Tryz.ntmps67
 go_wp2_with fail
 refine Calls.mono HV.out ?_
 rintro e W1 ⟨rfl, hH⟩
 have HE : Hid _ := hH.pre (HBW.out.mono HH.out.bw)
 clear hH
 go_wp2_with fail
 go_ret
 exact ⟨rfl, HE.out⟩
end Go.Proofs.YtadinjaocnlglaaGreatDoor
namespace Go.Proofs.YtadinjaocnlglaaGreatDoor
open Go.RowKit Go.Maps
set_option maxRecDepth 100000
set_option maxHeartbeats 4000000
set_option maxHeartbeats 400000 in
theorem lpick_any (c : Int) (n : Nat) (w : World) (hn : 0 < n) (hn2 : n ≤ 1000) (h0 : -9223372036854775808 ≤ c) (h1 : c ≤ 9223372036854775807) :
  Calls Tryz.prog 66 #[.int .i64 c, .int .i64 n] w fun e w' => e = .returned (.int .i64 (pk c n)) ∧ w' = w := by
 by_cases hc : c < 0
 ·have E : Hid (-((c + 1).tmod (n : Int)) = ((pk c n : Nat) : Int)) := by
   show -((c + 1).tmod (n : Int)) = ((pk c n : Nat) : Int)
   unfold pk absN
   rw [if_pos hc, ← Int.neg_tmod]
   obtain ⟨a, ha⟩ : ∃ a : Nat, -(c + 1) = (a : Int) := ⟨(-(c + 1)).toNat, by omega⟩
   rw [ha, Int.toNat_natCast]
   exact Int.ofNat_tmod a n
  go_enter Tryz.func66, Tryz.ntmps66
  go_wp2
  go_ret
  rw [E.out]
  exact ⟨rfl, rfl⟩
 ·have E : Hid (c % (n : Int) = ((pk c n : Nat) : Int)) := by
   show c % (n : Int) = ((pk c n : Nat) : Int)
   unfold pk absN
   rw [if_neg hc]
   obtain ⟨a, ha⟩ : ∃ a : Nat, c = (a : Int) := ⟨c.toNat, by omega⟩
   rw [ha, Int.toNat_natCast]
   exact (Int.natCast_emod a n).symm
  go_enter Tryz.func66, Tryz.ntmps66
  go_wp2
  go_ret
  rw [E.out]
  exact ⟨rfl, rfl⟩
end Go.Proofs.YtadinjaocnlglaaGreatDoor
namespace Go.Proofs.YtadinjaocnlglaaGreatDoor
open Go.RowKit
set_option maxRecDepth 100000
set_option maxHeartbeats 4000000
theorem drV_get : ∀ (ds : List Dr) (i : Nat) (h : i < ds.length), (drV ds)[i * 2]? = some (.pointer (some ⟨ds[i].v, 0, none⟩)) ∧ (drV ds)[i * 2 + 1]? = some (.pointer (some ⟨ds[i].y, 0, none⟩))
 | [], i, h => by simp at h
 | d :: r, 0, _ => ⟨rfl, rfl⟩
 | d :: r, i + 1, h => by
  have ih := drV_get r i (by simpa using h)
  have e : drV (d :: r) = .pointer (some ⟨d.v, 0, none⟩) :: .pointer (some ⟨d.y, 0, none⟩) :: drV r := rfl
  rw [e, show (i + 1) * 2 = i * 2 + 1 + 1 by omega, List.getElem?_cons_succ, List.getElem?_cons_succ, List.getElem?_cons_succ, List.getElem?_cons_succ]
  exact ih
section
variable {kt : Nat → Int} {base h : Nat} {lost : Bool} {ds : List Dr} {m : Nat} {W w : World}
theorem HSt.list (H : HSt kt base h lost ds m W w) : ∃ al cl, w.cell? ⟨h, 0, none⟩ = some (.slice al ds.length cl) ∧ ∀ i (hi : i < ds.length), ∃ g, al = some ⟨g, 0, none⟩ ∧ w.cell? ⟨g, i * 2, none⟩ = some (.pointer (some ⟨ds[i].v, 0, none⟩)) ∧ w.cell? ⟨g, i * 2 + 1, none⟩ = some (.pointer (some ⟨ds[i].y, 0, none⟩)) := by
 obtain ⟨bk, h1, _⟩ := H
 obtain ⟨l0, hB, ho⟩ := h1.book
 obtain ⟨al, cl, rfl⟩ := own_shape ho
 obtain ⟨vT, vI, vO, vE, h2, _⟩ := hB.row
 refine ⟨al, cl, cell_of_row _ _ _ _ 50 _ h2, fun i hi => ?_⟩
 rcases ho.2 with ⟨_, h0⟩ | ⟨g, cap, cur, hv, hb, hh, _⟩
 ·omega
 ·cases hv
  obtain ⟨e1, e2⟩ := drV_get ds i hi
  have c1 := ho.cells (g := g) rfl _ _ e1
  have c2 := ho.cells (g := g) rfl _ _ e2
  rw [Addr.add_lit, Nat.zero_add] at c1 c2
  exact ⟨g, rfl, c1, c2⟩
theorem HSt.looks (H : HSt kt base h lost ds m W w) (hm : m ≤ 10000000000) : Calls Tryz.prog 52 #[.pointer (some ⟨h, 1, none⟩)] w fun e w' => e = .returned (.bool true) ∧ HSt kt base h lost ds m W w' := by
 obtain ⟨bk, h1, h2, h3⟩ := H
 obtain ⟨l0, hB, ho⟩ := h1.book
 obtain ⟨a1, a2, a3, a4, a5⟩ := h2
 exact (looksG base h l0 (.bool lost) bk w hB (by omega) (by omega) (by omega) (by omega)).mono fun e w' hh => ⟨hh.1, bk, h1.low hh.2, ⟨a1, a2, a3, a4, a5⟩, h3.trans (hh.2.mono h1.bw)⟩
end
def HAsk (kt : Nat → Int) (base h : Nat) (lost : Bool) (ds : List Dr) (kinds : Nat) : Prop := ∀ (k : Nat), k < kinds → ∀ d ∈ ds, ∀ (m : Nat) (bk : Bk) (X : World), HK kt base h lost ds bk noZ X → bk.le m → m ≤ 10000000000 → Calls Tryz.prog 67 #[.pointer (some ⟨h, 0, none⟩), drA d, .int .i64 k] X fun e w' => e = .returned (.bool true) ∧ HSt kt base h lost ds (m + 5) X w'
theorem HSt.ask {kt : Nat → Int} {base h : Nat} {lost : Bool} {ds : List Dr} {m kinds : Nat} {W w : World} (H : HSt kt base h lost ds m W w) (hA : HAsk kt base h lost ds kinds) (hm : m ≤ 10000000000) {k : Nat} (hk : k < kinds) {i : Nat} (hi : i < ds.length) : Calls Tryz.prog 67 #[.pointer (some ⟨h, 0, none⟩), .agg #[.pointer (some ⟨ds[i].v, 0, none⟩), .pointer (some ⟨ds[i].y, 0, none⟩)], .int .i64 k] w fun e w' => e = .returned (.bool true) ∧ HSt kt base h lost ds (m + 5) W w' := by
 obtain ⟨bk, h1, h2, h3⟩ := H
 exact (hA k hk ds[i] (List.getElem_mem hi) m bk w h1 h2 hm).mono fun e w' hh => ⟨hh.1, hh.2.pre h3⟩
def RawI (base : Nat) (w : World) (a : Option Addr) (n : Nat) (A : Nat → Int) : Prop := ∀ i, i < n → ∃ b off, a = some ⟨b, off, none⟩ ∧ b < base ∧ w.cell? ⟨b, off + i, none⟩ = some (.int .i64 (A i)) ∧ -9223372036854775808 ≤ A i ∧ A i ≤ 9223372036854775807
theorem RawI.low {base : Nat} {w w' : World} {a : Option Addr} {n : Nat} {A : Nat → Int} (h : RawI base w a n A) (hb : Below base w w') : RawI base w' a n A := fun i hi => by
 obtain ⟨b, off, e, h1, h2, h3⟩ := h i hi
 exact ⟨b, off, e, h1, (hb.cell (p := ⟨b, off + i, none⟩) h1).trans h2, h3⟩
theorem hplays (kt : Nat → Int) (base h : Nat) (lost : Bool) (ds : List Dr) (kinds : Nat) (A : Nat → Int) (a : Option Addr) (n cap : Nat) (W w : World) (H : HSt kt base h lost ds 0 W w) (hA : HAsk kt base h lost ds kinds) (hk0 : 0 < kinds) (hk6 : kinds ≤ 6) (hds : ds.length ≤ 2) (hn : n ≤ 100000000) (hR : RawI base W a n A) :
  Calls Tryz.prog 20 #[.pointer (some ⟨h, 0, none⟩), .slice a n cap, .int .i64 kinds] w fun e w' => e = .returned (.bool true) ∧ ∃ m, HSt kt base h lost ds m W w' := by
 have HP : Hid (HSt kt base h lost ds 0 W w) := H
 have HA : Hid _ := hA
 have HR : Hid (RawI base W a n A) := hR
 obtain ⟨nd, hnd⟩ : ∃ x, ds.length = x := ⟨_, rfl⟩
 have HND : Hid (ds.length = nd) := hnd
 have HLS : Hid (∀ (m : Nat) (X : World), HSt kt base h lost ds m W X → ∃ al cl, X.cell? ⟨h, 0, none⟩ = some (.slice al nd cl) ∧ ∀ i (hi : i < nd), ∃ g v y, al = some ⟨g, 0, none⟩ ∧ X.cell? ⟨g, i * 2, none⟩ = some (.pointer (some ⟨v, 0, none⟩)) ∧ X.cell? ⟨g, i * 2 + 1, none⟩ = some (.pointer (some ⟨y, 0, none⟩)) ∧ ∀ k, k < kinds → m ≤ 10000000000 → ∀ X', HSt kt base h lost ds m W X' → Calls Tryz.prog 67 #[.pointer (some ⟨h, 0, none⟩), .agg #[.pointer (some ⟨v, 0, none⟩), .pointer (some ⟨y, 0, none⟩)], .int .i64 k] X' fun e w' => e = .returned (.bool true) ∧ HSt kt base h lost ds (m + 5) W w') := fun m X hX => by
  obtain ⟨al, cl, h1, h2⟩ := hX.list
  rw [hnd] at h1
  refine ⟨al, cl, h1, fun i hi => ?_⟩
  rw [← hnd] at hi
  obtain ⟨g, e, c1, c2⟩ := h2 i hi
  exact ⟨g, _, _, e, c1, c2, fun k hk hm X' hX' => hX'.ask hA hm hk hi⟩
 rw [hnd] at hds
 have HSZ : Hid (∀ (m : Nat) (X : World), HSt kt base h lost ds m W X → base ≤ X.heap.size) := fun m X ⟨bk, h1, _⟩ => h1.bw
 clear H hA hR hnd
 go_enter Tryz.func20, Tryz.ntmps20
 go_wp2_with fail
 go_loopw [7] (fun iv wr => ∃ i : Nat, i ≤ n ∧ iv = .int .i64 i ∧ HSt kt base h lost ds (5 * i) W wr) (fun iv _ => n - (intOf iv).toNat)
 case atStart => exact ⟨0, by omega, rfl, HP.out⟩
 case round =>
  obtain ⟨i, hi, rfl, hI⟩ := hrel
  have HI : Hid (HSt kt base h lost ds (5 * i) W wr) := hI
  obtain ⟨al, cl, c0, hcs⟩ := HLS.out _ _ hI
  have HCS : Hid _ := hcs
  clear hI hcs
  by_cases hlt : i < n ∧ 0 < nd
  ·obtain ⟨hin, hnp⟩ := hlt
   have hin' : (i : Int) < (n : Int) := by omega
   have hnp' : (0 : Int) < (nd : Int) := by omega
   obtain ⟨b, off, ha, hbl, x0, hw0, hw1⟩ := HR.out.low (by obtain ⟨_, _, _, hb⟩ := HI.out; exact hb) i hin
   subst ha
   have hN : 0 < kinds * nd := Nat.mul_pos hk0 hnp
   have hN2 : kinds * nd ≤ 12 := Nat.mul_le_mul hk6 hds
   obtain ⟨NN, hNN⟩ : ∃ x, kinds * nd = x := ⟨_, rfl⟩
   have e1 : (kinds : Int) * (nd : Int) = (NN : Int) := by rw [← hNN]; simp
   have u1 : IntKind.i64.wrap (NN : Int) = (NN : Int) := by rw [IntKind.wrap_i64]; omega
   rw [hNN] at hN hN2
   have HPK : Hid (∀ X : World, Calls Tryz.prog 66 #[.int .i64 (A i), .int .i64 NN] X fun e w' => e = .returned (.int .i64 (pk (A i) NN)) ∧ w' = X) := fun X => lpick_any (A i) NN X hN (by omega) hw0 hw1
   have hx : pk (A i) NN < NN := by unfold pk; exact Nat.mod_lt _ hN
   obtain ⟨x, hxe⟩ : ∃ x, pk (A i) NN = x := ⟨_, rfl⟩
   rw [hxe] at hx HPK
   have hq : x / kinds < nd := by rw [Nat.div_lt_iff_lt_mul hk0, Nat.mul_comm, hNN]; exact hx
   have hr : x % kinds < kinds := Nat.mod_lt _ hk0
   obtain ⟨Q, hQ⟩ : ∃ y, x / kinds = y := ⟨_, rfl⟩
   obtain ⟨R, hRm⟩ : ∃ y, x % kinds = y := ⟨_, rfl⟩
   have d1 : (x : Int) / (kinds : Int) = (Q : Int) := by rw [← hQ, Int.natCast_ediv]
   have d3 : (x : Int).tdiv (kinds : Int) = (Q : Int) := by rw [Int.tdiv_eq_ediv_of_nonneg (by omega)]; exact d1
   have d4 : (x : Int) % (kinds : Int) = (R : Int) := by rw [← hRm, Int.natCast_emod]
   have d5 : (x : Int).tmod (kinds : Int) = (R : Int) := by rw [Int.tmod_eq_emod_of_nonneg (by omega)]; exact d4
   rw [hQ] at hq
   rw [hRm] at hr
   have u2 : IntKind.i64.wrap (Q : Int) = (Q : Int) := by rw [IntKind.wrap_i64]; omega
   have u3 : IntKind.i64.wrap (R : Int) = (R : Int) := by rw [IntKind.wrap_i64]; omega
   have hz1 : ((kinds : Int) == 0) = false := by simp; omega
   have hz3 : ¬ (kinds : Int) = 0 := by omega
   have hz4 : ¬ kinds = 0 := by omega
   obtain ⟨g, v, y, hal, y0, y1, hask⟩ := HCS.out Q hq
   subst hal
   have HASK : Hid (∀ X', HSt kt base h lost ds (5 * i) W X' → Calls Tryz.prog 67 #[.pointer (some ⟨h, 0, none⟩), .agg #[.pointer (some ⟨v, 0, none⟩), .pointer (some ⟨y, 0, none⟩)], .int .i64 R] X' fun e w' => e = .returned (.bool true) ∧ HSt kt base h lost ds (5 * i + 5) W w') := fun X' hX' => hask R hr (by omega) X' hX'
   have hq0 : (0 : Int) ≤ (Q : Int) := by omega
   have hqn : (Q : Int) < (nd : Int) := by omega
   clear hask hNN hxe hQ hRm hN hN2 hx
   go_wp2_with fail
   go_quiet ((go_at_call 66; refine Calls.quiet_of_same (HPK.out _)))
   go_wp2_with fail
   go_region_with (go_at_call 67; refine Calls.mono (HASK.out _ (HI.out.low (below_drewN (Below.refl _ _) _))) ?_; rintro e w6 ⟨rfl, hI6⟩)
   all_goals
    have HLK : Hid (Calls Tryz.prog 52 #[.pointer (some ⟨h, 1, none⟩)] w6 fun e w' => e = .returned (.bool true) ∧ HSt kt base h lost ds (5 * i + 5) W w') := hI6.looks (by omega)
    clear hI6
    go_wp2_with fail
    refine Calls.mono HLK.out ?_
    rintro e w7 ⟨rfl, hI7⟩
    have HI7 : Hid (HSt kt base h lost ds (5 * i + 5) W w7) := hI7
    clear hI7
    go_wp2_with fail
    go_roundw
    case rel => exact ⟨i + 1, by omega, by go_num, HI7.out⟩
    case measure => simp [intOf]; omega
  ·have HI2 : Hid (HSt kt base h lost ds (5 * n) W wr) := HI.out.more (by omega)
   have hcond : (¬ (i : Int) < (n : Int)) ∨ ((i : Int) < (n : Int) ∧ nd = 0) := by omega
   clear hlt HI HCS
   rcases hcond with hc | ⟨hc, hz⟩
   ·go_wp2_with fail
    clear c0 hc
    go_loopw [11] (fun iv wx => ∃ j : Nat, j ≤ nd ∧ iv = .int .i64 j ∧ HSt kt base h lost ds (5 * n + 30 * j) W wx) (fun iv _ => nd - (intOf iv).toNat)
    case atStart => exact ⟨0, by omega, rfl, HI2.out⟩
    case round =>
     obtain ⟨j, hj, rfl, hJ⟩ := hrel
     have HJ : Hid (HSt kt base h lost ds (5 * n + 30 * j) W wr) := hJ
     obtain ⟨al, cl, c0, _⟩ := HLS.out _ _ hJ
     clear hJ
     by_cases hjn : j < nd
     ·have hjn' : (j : Int) < (nd : Int) := by omega
      have hj0 : (0 : Int) ≤ (j : Int) := by omega
      go_wp2_with fail
      clear c0
      go_loopw [12] (fun kv wx => ∃ k : Nat, k ≤ kinds ∧ kv = .int .i64 k ∧ HSt kt base h lost ds (5 * n + 30 * j + 5 * k) W wx) (fun kv _ => kinds - (intOf kv).toNat)
      case atStart => exact ⟨0, by omega, rfl, HJ.out⟩
      case round =>
       obtain ⟨k, hk, rfl, hK⟩ := hrel
       have HKK : Hid (HSt kt base h lost ds (5 * n + 30 * j + 5 * k) W wr) := hK
       by_cases hkn : k < kinds
       ·have hkn' : (k : Int) < (kinds : Int) := by omega
        obtain ⟨al2, cl2, c2, hcs⟩ := HLS.out _ _ hK
        obtain ⟨g, v, y, hal, y0, y1, hask⟩ := hcs j hjn
        subst hal
        have HASK : Hid (Calls Tryz.prog 67 #[.pointer (some ⟨h, 0, none⟩), .agg #[.pointer (some ⟨v, 0, none⟩), .pointer (some ⟨y, 0, none⟩)], .int .i64 k] wr fun e w' => e = .returned (.bool true) ∧ HSt kt base h lost ds (5 * n + 30 * j + 5 * k + 5) W w') := hask k hkn (by omega) wr HKK.out
        clear hcs hask hK
        go_wp2_with fail
        refine Calls.mono HASK.out ?_
        rintro e w6 ⟨rfl, hI6⟩
        have HI6 : Hid (HSt kt base h lost ds (5 * n + 30 * j + 5 * (k + 1)) W w6) := hI6
        clear hI6 c2 y0 y1
        go_wp2_with fail
        go_roundw
        case rel => exact ⟨k + 1, by omega, by go_num, HI6.out⟩
        case measure => simp [intOf]; omega
       ·have hkn' : ¬ (k : Int) < (kinds : Int) := by omega
        have HK2 : Hid (HSt kt base h lost ds (5 * n + 30 * (j + 1)) W wr) := hK.more (by omega)
        clear hK
        go_wp2_with fail
        go_roundw
        case rel => exact ⟨j + 1, by omega, by go_num, HK2.out⟩
        case measure => simp [intOf]; omega
     ·have hjn' : ¬ (j : Int) < (nd : Int) := by omega
      have HLK : Hid (Calls Tryz.prog 52 #[.pointer (some ⟨h, 1, none⟩)] wr fun e w' => e = .returned (.bool true) ∧ HSt kt base h lost ds (5 * n + 30 * j) W w') := HJ.out.looks (by omega)
      go_wp2_with fail
      refine Calls.mono HLK.out ?_
      rintro e w7 ⟨rfl, hI7⟩
      have HI7 : Hid (HSt kt base h lost ds (5 * n + 30 * j) W w7) := hI7
      clear hI7
      go_wp2_with fail
      go_ret
      exact ⟨rfl, _, HI7.out⟩
   ·subst hz
    have HLK : Hid (Calls Tryz.prog 52 #[.pointer (some ⟨h, 1, none⟩)] wr fun e w' => e = .returned (.bool true) ∧ HSt kt base h lost ds (5 * n) W w') := HI2.out.looks (by omega)
    go_wp2_with fail
    refine wp_loop_rounds 1 ?_
    rw [rounds_succ]
    go_wp2_with fail
    refine Calls.mono HLK.out ?_
    rintro e w7 ⟨rfl, hI7⟩
    have HI7 : Hid (HSt kt base h lost ds (5 * n) W w7) := hI7
    clear hI7
    go_wp2_with fail
    go_ret
    exact ⟨rfl, _, HI7.out⟩
theorem HK.empty {kt : Nat → Int} {base h : Nat} {lost : Bool} {w : World} (h8 : 8 ≤ base) (hG : Glb kt w) (hlo : base ≤ h) (hb : base ≤ w.heap.size) (hh : w.heap[h]? = some (.cells #[.slice none 0 0, .int .i64 0, .slice none 0 0, .slice none 0 0, .slice none 0 0, .slice none 0 0, .bool lost] 50 (0, 0))) : HK kt base h lost [] ⟨0, [], [], [], []⟩ noZ w :=
 ⟨hlo, h8, hb, ⟨.slice none 0 0, ⟨⟨_, _, _, _, hh, own0, own0, own0, own0⟩, fun e he => (by cases he), fun e he => (by cases he), fun e he => (by cases he), fun e he => (by cases he)⟩, own0⟩, fun d hd => (by cases hd), fun d hd => (by cases hd), List.Pairwise.nil, fun j hj => (by
  rcases hj with ⟨e, he, _⟩ | ⟨e, he, _⟩ | ⟨e, he, _⟩ | ⟨e, he, _⟩ <;> cases he), hG⟩
theorem hask4 (kt : Nat → Int) (base h : Nat) (lost : Bool) (ds : List Dr) : HAsk kt base h lost ds 4 := fun k hk d hd m bk X H hm hm2 => by
 match k, hk with
 | 0, _ => exact hask0 kt base h lost ds d m bk X H hd hm
 | 1, _ => exact hask1 kt base h lost ds d m bk X H hd hm
 | 2, _ => exact hask2 kt base h lost ds d m bk X H hd hm hm2
 | 3, _ => exact hask3 kt base h lost ds d m bk X H hd hm hm2
theorem opens_any (kt : Nat → Int) (L1 L2 : Nat → ByteArray) (r1 r2 : ByteArray) (A : Nat → Int) (a1 a2 a : Option Addr) (n1 c1 n2 c2 n cap : Nat) (w : World) (h8 : 8 ≤ w.heap.size) (hG : Glb kt w) (hn1 : n1 ≤ 100000000) (hn2 : n2 ≤ 100000000) (hn : n ≤ 100000000) (hL1 : ∀ i, i < n1 → (L1 i).size ≤ 140737488351232) (hL2 : ∀ i, i < n2 → (L2 i).size ≤ 140737488351232) (hR1 : RawT w a1 n1 c1 L1) (hR2 : RawT w a2 n2 c2 L2) (hR : RawI w.heap.size w a n A) :
  Calls Tryz.prog 5 #[.slice a1 n1 c1, .string r1, .slice a2 n2 c2, .string r2, .slice a n cap] w fun e w' => e = .returned (.bool true) ∧ Below w.heap.size w w' := by
 obtain ⟨W, hW⟩ : ∃ W, w.alloc (.cells #[.slice none 0 0, .int .i64 0, .slice none 0 0, .slice none 0 0, .slice none 0 0, .slice none 0 0, .bool false] 50) = W := ⟨_, rfl⟩
 have hbW : Below w.heap.size w W := by rw [← hW]; exact (Below.refl _ _).alloc (Nat.le_refl _) _
 have hWn : W.heap[w.heap.size]? = some (.cells #[.slice none 0 0, .int .i64 0, .slice none 0 0, .slice none 0 0, .slice none 0 0, .slice none 0 0, .bool false] 50 (0, 0)) := by rw [← hW]; exact heap_alloc_new _ _
 obtain ⟨h, hhe⟩ : ∃ x, w.heap.size = x := ⟨_, rfl⟩
 have HH : Hid (HK kt h h false [] ⟨0, [], [], [], []⟩ noZ W) := by
  rw [hhe] at hWn h8
  exact HK.empty h8 (hG.low h8 (by rw [← hhe]; exact hbW)) (Nat.le_refl _) (by rw [← hhe]; exact hbW.size) hWn
 have HBW : Hid (Below h w W) := by rw [← hhe]; exact hbW
 have HO : Hid (Calls Tryz.prog 19 #[.pointer (some ⟨h, 0, none⟩), .slice a1 n1 c1, .string r1] W fun e w' => e = .returned (.bool true) ∧ Below h W w' ∧ ∃ ds', HK kt h h false ds' ⟨0, [], [], [], []⟩ noZ w' ∧ (ds' = [] ∨ ∃ d, ds' = [] ++ [d])) := hopens kt h h false [] _ r1 L1 a1 n1 c1 W HH.out (fun e => by cases e) hn1 hL1 (hR1.low hbW) (by simp)
 have HR2 : Hid (∀ X : World, Below h w X → RawT X a2 n2 c2 L2) := fun X hX => hR2.low (by rw [hhe]; exact hX)
 have HR : Hid (RawI h w a n A) := by rw [hhe] at hR; exact hR
 have HL2 : Hid _ := hL2
 have HHE : Hid (w.heap.size = h) := hhe
 rw [hhe]
 clear hbW hWn hR1 hR2 hR hL1 hL2 hG
 go_enter Tryz.func5, Tryz.ntmps5
 go_wp2_with fail
 refine Calls.mono HO.out ?_
 rintro e w1 ⟨rfl, hb1, ds1, hH1, hd1⟩
 have hB1 : Below h w w1 := HBW.out.trans hb1
 have hl1 : ds1.length ≤ 1 := by rcases hd1 with rfl | ⟨d, rfl⟩ <;> simp
 have HO2 : Hid (Calls Tryz.prog 19 #[.pointer (some ⟨h, 0, none⟩), .slice a2 n2 c2, .string r2] w1 fun e w' => e = .returned (.bool true) ∧ Below h w1 w' ∧ ∃ ds', HK kt h h false ds' ⟨0, [], [], [], []⟩ noZ w' ∧ (ds' = ds1 ∨ ∃ d, ds' = ds1 ++ [d])) := hopens kt h h false ds1 _ r2 L2 a2 n2 c2 w1 hH1 (fun e => by cases e) hn2 HL2.out (HR2.out w1 hB1) (by omega)
 have HB1 : Hid _ := hB1
 clear hb1 hH1 hd1 hB1
 go_wp2_with fail
 refine Calls.mono HO2.out ?_
 rintro e w2 ⟨rfl, hb2, ds2, hH2, hd2⟩
 have hB2 : Below h w w2 := HB1.out.trans hb2
 have hl2 : ds2.length ≤ 2 := by
  rcases hd2 with rfl | ⟨d, rfl⟩
  ·omega
  ·rw [List.length_append, List.length_singleton]; omega
 have HPL : Hid (Calls Tryz.prog 20 #[.pointer (some ⟨h, 0, none⟩), .slice a n cap, .int .i64 (4 : Nat)] w2 fun e w' => e = .returned (.bool true) ∧ ∃ m, HSt kt h h false ds2 m w w') := hplays kt h h false ds2 4 A a n cap w w2 ⟨_, hH2, ⟨Nat.le_refl _, Nat.le_refl _, Nat.le_refl _, Nat.le_refl _, Nat.le_refl _⟩, hB2⟩ (hask4 kt h h false ds2) (by omega) (by omega) hl2 hn HR.out
 clear hb2 hH2 hd2 hB2
 go_wp2_with fail
 refine Calls.mono HPL.out ?_
 rintro e w3 ⟨rfl, m, bk, _, _, hb3⟩
 have HB3 : Hid _ := hb3
 clear hb3
 go_wp2_with fail
 go_ret
 exact ⟨rfl, HB3.out⟩
end Go.Proofs.YtadinjaocnlglaaGreatDoor
