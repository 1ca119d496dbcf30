/-
  A hall: report, Verify on both sides.
-/
import Derived.Test.YtadinjaocnlglaaGreatDoorZ42
import Derived.Test.YtadinjaocnlglaaGreatDoorZ44
namespace Go.Proofs.YtadinjaocnlglaaGreatDoor
open Go.RowKit
set_option maxRecDepth 100000
set_option maxHeartbeats 4000000
def Bk.le (b : Bk) (m : Nat) : Prop := b.n ≤ m ∧ b.T.length ≤ m ∧ b.I.length ≤ m ∧ b.O.length ≤ m ∧ b.E.length ≤ m
theorem Bk.le.more {b : Bk} {m k : Nat} (h : b.le m) (hk : m ≤ k) : b.le k := by
 obtain ⟨h1, h2, h3, h4, h5⟩ := h
 exact ⟨by omega, by omega, by omega, by omega, by omega⟩
theorem Bk.le.oneI {b : Bk} {m : Nat} {x : Ent} (h : b.le m) : Bk.le { b with n := b.n + 1, I := b.I ++ [x] } (m + 1) := by
 obtain ⟨h1, h2, h3, h4, h5⟩ := h
 exact ⟨by show b.n + 1 ≤ m + 1; omega, by show b.T.length ≤ m + 1; omega, by show (b.I ++ [x]).length ≤ m + 1; rw [List.length_append]; simp; omega, by show b.O.length ≤ m + 1; omega, by show b.E.length ≤ m + 1; omega⟩
theorem Bk.le.oneE {b : Bk} {m : Nat} {x : Ent} (h : b.le m) : Bk.le { b with n := b.n + 1, E := b.E ++ [x] } (m + 1) := by
 obtain ⟨h1, h2, h3, h4, h5⟩ := h
 exact ⟨by show b.n + 1 ≤ m + 1; omega, by show b.T.length ≤ m + 1; omega, by show b.I.length ≤ m + 1; omega, by show b.O.length ≤ m + 1; omega, by show (b.E ++ [x]).length ≤ m + 1; rw [List.length_append]; simp; omega⟩
def HSt (kt : Nat → Int) (base h : Nat) (lost : Bool) (ds : List Dr) (m : Nat) (w w' : World) : Prop := ∃ bk, HK kt base h lost ds bk noZ w' ∧ bk.le m ∧ Below base w w'
structure RpI (kt : Nat → Int) (base h : Nat) (lost : Bool) (ds : List Dr) (m : Nat) (Z : Nat → Prop) (S r q : Nat) (rc qc : Array Value) (L : List (Value × Value × List Nat)) (W w : World) : Prop where
 hk : ∃ bk, HK kt base h lost ds bk Z w ∧ bk.le m ∧ ∀ x ∈ L, ∀ j, x.1.ownBlock = some j → ¬ bk.has j
 r : w.heap[r]? = some (.cells rc 99 (0, 0))
 q : w.heap[q]? = some (.cells qc 99 (0, 0))
 own : ∀ x ∈ L, w.ownsRow base 3 1 x.1 x.2.2.length (unV x.2.2) ∧ w.ownsRow S 3 1 x.2.1 x.2.2.length (unV x.2.2)
 apt : (L.map Prod.fst).Pairwise Apt
 z : ∀ x ∈ L, ∀ j, x.1.ownBlock = some j → Z j ∧ j < S
 sz : S ≤ w.heap.size
 len : ∀ x ∈ L, x.2.2.length ≤ 100000000
 bel : Below base W w
section
variable {kt : Nat → Int} {base h : Nat} {lost : Bool} {ds : List Dr} {m : Nat} {Z : Nat → Prop} {S r q : Nat} {rc qc : Array Value} {x : Value × Value × List Nat} {L : List (Value × Value × List Nat)} {W w w' : World}
theorem RpI.low (H : RpI kt base h lost ds m Z S r q rc qc L W w) (hb : Below w.heap.size w w') : RpI kt base h lost ds m Z S r q rc qc L W w' := by
 obtain ⟨bk, h1, h2, h3⟩ := H.hk
 exact ⟨⟨bk, h1.low hb, h2, h3⟩, (hb.block _ (Array.getElem?_eq_some_iff.1 H.r).1).trans H.r, (hb.block _ (Array.getElem?_eq_some_iff.1 H.q).1).trans H.q, fun x hx => ⟨own_kept (H.own x hx).1 (fun j hj => hb.block j (own_lt (H.own x hx).1 j hj)), own_kept (H.own x hx).2 (fun j hj => hb.block j (own_lt (H.own x hx).2 j hj))⟩, H.apt, H.z, Nat.le_trans H.sz hb.size, H.len, H.bel.trans (hb.mono h1.bw)⟩
theorem RpI.drew (H : RpI kt base h lost ds m Z S r q rc qc L W w) : RpI kt base h lost ds m Z S r q rc qc L W w.drew := H.low (Below.refl _ _).drew
theorem RpI.same (H : RpI kt base h lost ds m Z S r q rc qc (x :: L) W w) : Calls Tryz.prog 163 #[x.1, x.2.1] w fun e w' => e = .returned (.bool true) ∧ RpI kt base h lost ds m Z S r q rc qc (x :: L) W w' :=
 (lsameInts x.2.2 base S x.1 x.2.1 w (H.len x (by simp)) (H.own x (by simp)).1 (H.own x (by simp)).2).mono fun _ _ h => ⟨h.1, H.low h.2⟩
theorem RpI.keep (H : RpI kt base h lost ds m Z S r q rc qc (x :: L) W w) (hm : m ≤ 100000000000) : Calls Tryz.prog 164 #[.pointer (some ⟨h, 1, none⟩), x.1] w fun e w' => e = .returned (.tuple #[]) ∧ RpI kt base h lost ds (m + 1) Z S r q rc qc L W w' := by
 obtain ⟨bk, h1, h2, h3⟩ := H.hk
 obtain ⟨l0, hb1, hb2⟩ := h1.book
 have hx : x ∈ x :: L := by simp
 have hox := (H.own x hx).1
 refine (keepI base h l0 (.bool lost) bk x.1 x.2.2.length (unV x.2.2) w hb1 hox (h3 x hx) h1.bw h1.lo (Nat.le_trans (H.len x hx) (by omega)) (Nat.le_trans h2.1 hm) (Nat.le_trans h2.2.2.1 hm)).mono fun e w' hh => ⟨hh.1, ?_⟩
 have hK := hh.2
 obtain ⟨y, b1, b2, b3, b4⟩ := hh.2
 obtain ⟨y', h4, h5⟩ := h1.keepI hb2 hK (fun j hj => ⟨(H.z x hx j hj).1, by obtain ⟨c, hc⟩ := own_type hox j hj; exact ⟨c, 3, hc, .inl rfl⟩⟩)
 have hap := H.apt
 rw [List.map_cons, List.pairwise_cons] at hap
 have hgo : ∀ (j : Nat) (cs : Array Value) (t : TypeId), w.heap[j]? = some (.cells cs t (0, 0)) → t ≠ 50 → t ≠ 193 → x.1.ownBlock ≠ some j → w'.heap[j]? = some (.cells cs t (0, 0)) := b3
 have h99 : ∀ (j : Nat) (cs : Array Value), w.heap[j]? = some (.cells cs 99 (0, 0)) → x.1.ownBlock ≠ some j := fun j cs hj e => by
  obtain ⟨c, hc⟩ := own_type hox j e
  exact row_ne hj hc (by decide) rfl
 refine ⟨⟨_, h4, h2.oneI, fun y hy j hj hh => ?_⟩, hgo _ _ _ H.r (by decide) (by decide) (h99 _ _ H.r), hgo _ _ _ H.q (by decide) (by decide) (h99 _ _ H.q), fun y hy => ?_, hap.2, fun y hy => H.z y (List.mem_cons_of_mem _ hy), Nat.le_trans H.sz b4.size, fun y hy => H.len y (List.mem_cons_of_mem _ hy), H.bel.trans b4⟩
 ·rcases h5 j hh with e | e | e
  ·exact h3 y (List.mem_cons_of_mem _ hy) j hj e
  ·exact hap.1 y.1 (List.mem_map_of_mem hy) j e hj
  ·have := own_lt (H.own y (List.mem_cons_of_mem _ hy)).1 j hj
   omega
 ·have ho := H.own y (List.mem_cons_of_mem _ hy)
  refine ⟨own_kept' ho.1 (fun j cs hj hc => hgo j cs 3 hc (by decide) (by decide) (fun e => hap.1 y.1 (List.mem_map_of_mem hy) j e hj)), own_kept' ho.2 (fun j cs hj hc => hgo j cs 3 hc (by decide) (by decide) (fun e => ?_))⟩
  have h6 := own_ge ho.2 j hj
  have h7 := (H.z x hx j e).2
  omega
theorem RpI.fin (H : RpI kt base h lost ds m Z S r q rc qc L W w) : HSt kt base h lost ds m W w := by
 obtain ⟨bk, h1, h2, _⟩ := H.hk
 exact ⟨bk, h1.mono (fun _ h => h.elim), h2, H.bel⟩
end
theorem hreport (kt : Nat → Int) (base h : Nat) (lost : Bool) (ds : List Dr) (d : Dr) (m : Nat) (bk : Bk) (w : World) (H : HK kt base h lost ds bk noZ w) (hd : d ∈ ds) (hm : bk.le m) (hm2 : m ≤ 10000000000) :
  Calls Tryz.prog 115 #[.pointer (some ⟨h, 0, none⟩), .agg #[.pointer (some ⟨d.v, 0, none⟩), .pointer (some ⟨d.y, 0, none⟩)]] w fun e w' => e = .returned (.bool true) ∧ HSt kt base h lost ds (m + 5) w w' := by
 have hA := H.here d hd
 have hf := H.fit d hd
 obtain ⟨dn, zs, bd, hV, _⟩ := hA.vs
 obtain ⟨hT, hle⟩ := hf.told
 obtain ⟨W, hW⟩ : ∃ W, w.alloc (.cells #[.pointer (some ⟨d.v, 0, none⟩), .pointer (some ⟨d.y, 0, none⟩)] 147) = W := ⟨_, rfl⟩
 have hbW : Below w.heap.size w W := by rw [← hW]; exact (Below.refl _ _).alloc (Nat.le_refl _) _
 have hWn : W.heap[w.heap.size]? = some (.cells #[.pointer (some ⟨d.v, 0, none⟩), .pointer (some ⟨d.y, 0, none⟩)] 147 (0, 0)) := by rw [← hW]; exact heap_alloc_new _ _
 have H1 := H.low hbW
 have hA1 := H1.here d hd
 have hdb : w.heap.size < W.heap.size := (Array.getElem?_eq_some_iff.1 hWn).1
 obtain ⟨db, hdbe⟩ : ∃ x, w.heap.size = x := ⟨_, rfl⟩
 have HV : Hid (Calls Tryz.prog 40 #[.pointer (some ⟨d.v, 0, none⟩)] W fun e w' => VVDid kt d.B d.v d.k d.g d.p d.q d.f (tT d.t0) d.un d.ul d.rd d.bl dn W e w') := vverify kt d.B d.v d.k d.g d.p d.q d.f (tT d.t0) d.un d.ul d.rd d.bl dn zs bd W hA1.vl (hV.below hbW) hT hle (Nat.le_trans hf.ul (by omega)) H1.glb.gd (Nat.le_trans hA.bw hbW.size) (by have := hA.lo.2.1; have := H.bs; omega)
 have HH : Hid _ := H
 have HA : Hid _ := hA
 have HF : Hid _ := hf
 have HBW : Hid _ := hbW
 have HWN : Hid _ := hWn
 have HH1 : Hid _ := H1
 have HT : Hid _ := hT
 rw [hdbe] at hWn HWN hdb
 have c0 : W.cell? ⟨db, 0, none⟩ = some (.pointer (some ⟨d.v, 0, none⟩)) := cell_of_row _ _ _ _ 147 _ hWn
 have HDB : Hid (w.heap.size = db) := hdbe
 clear hA hf hV hbW hWn H1 hA1 hT hle H
 go_enter Tryz.func115, Tryz.ntmps115
 go_wp2_with fail
 refine Calls.mono HV.out ?_
 rintro e W1 ⟨zs', bd', a, b, c, d', u, rfl, hvl1, hS1, hF1, o1, o2, o3, o4, o5, hRA⟩
 obtain ⟨s1, k1, e1⟩ := own_shape o1
 obtain ⟨s2, k2, e2⟩ := own_shape o2
 obtain ⟨s3, k3, e3⟩ := own_shape o3
 obtain ⟨s4, k4, e4⟩ := own_shape o4
 obtain ⟨s5, k5, e5⟩ := own_shape o5
 generalize d.ul.length = n1 at e1
 generalize (abF d.rd (tT d.t0).L.V).length = n2 at e2
 generalize (baF kt (tT d.t0) d.bl (tT d.t0).L.ns).length = n3 at e3
 generalize (fsF kt (tT d.t0) d.bl 1 (tT d.t0).L.ns).length = n4 at e4
 generalize (fsF kt (tT d.t0) d.bl 2 (tT d.t0).L.ns).length = n5 at e5
 subst e1 e2 e3 e4 e5
 obtain ⟨hbel, hdoor⟩ : Below base W W1 ∧ W1.heap[db]? = some (.cells #[.pointer (some ⟨d.v, 0, none⟩), .pointer (some ⟨d.y, 0, none⟩)] 147 (0, 0)) := by
  obtain ⟨dn2, zs2, bd2, hV2, _⟩ := (HH1.out.here d hd).vs
  refine ⟨Fr.low hF1 (fun j hj => ?_) HH1.out.bw, ?_⟩
  ·obtain ⟨_, l1, l2, l3, _⟩ := HA.out.lo
   rcases hj with e | e | e <;> rw [e] <;> assumption
  ·rw [hF1.old db hdb (fun e => by
    rcases e with e | e | e
    ·exact row_ne HWN.out hV2.blR (by decide) e
    ·exact row_ne HWN.out hV2.fiR (by decide) e
    ·exact row_ne HWN.out (HH1.out.here d hd).vl (by decide) e)]
   exact HWN.out
 obtain ⟨Z, hZ⟩ : ∃ Z : Nat → Prop, Z = fun j => ∃ x ∈ [Value.slice s1 n1 k1, .slice s2 n2 k2, .slice s3 n3 k3, .slice s4 n4 k4, .slice s5 n5 k5], x.ownBlock = some j := ⟨_, rfl⟩
 have hZge : ∀ j, Z j → W.heap.size ≤ j := fun j hj => by
  rw [hZ] at hj
  obtain ⟨x, hx, e⟩ := hj
  simp only [List.mem_cons, List.not_mem_nil, or_false] at hx
  rcases hx with rfl | rfl | rfl | rfl | rfl
  ·exact own_ge o1 j e
  ·exact own_ge o2 j e
  ·exact own_ge o3 j e
  ·exact own_ge o4 j e
  ·exact own_ge o5 j e
 have hH2 : HK kt base h lost ds bk Z W1 := HH1.out.work hd hF1 hvl1 ⟨_, _, _, hS1, fun j hj => by
  rw [hZ] at hj
  obtain ⟨x, hx, e⟩ := hj
  exact hRA.2 x hx j e⟩ hZge
 have HRA : Hid _ := hRA.1
 obtain ⟨X0, hX0⟩ : ∃ X, W1.alloc (.cells (repC (.slice s1 n1 k1) (.slice s2 n2 k2) (.slice s3 n3 k3) (.slice s4 n4 k4) (.slice s5 n5 k5)) 99) = X := ⟨_, rfl⟩
 obtain ⟨r, hr⟩ : ∃ x, W1.heap.size = x := ⟨_, rfl⟩
 have hb0 : Below W1.heap.size W1 X0 := by rw [← hX0]; exact (Below.refl _ _).alloc (Nat.le_refl _) _
 have hrr : X0.heap[r]? = some (.cells (repC (.slice s1 n1 k1) (.slice s2 n2 k2) (.slice s3 n3 k3) (.slice s4 n4 k4) (.slice s5 n5 k5)) 99 (0, 0)) := by rw [← hX0, ← hr]; exact heap_alloc_new _ _
 have hdr0 : X0.heap[db]? = some (.cells #[.pointer (some ⟨d.v, 0, none⟩), .pointer (some ⟨d.y, 0, none⟩)] 147 (0, 0)) := (hb0.block _ (Array.getElem?_eq_some_iff.1 hdoor).1).trans hdoor
 have x1 : X0.cell? ⟨db, 1, none⟩ = some (.pointer (some ⟨d.y, 0, none⟩)) := cell_of_row _ _ _ _ 147 _ hdr0
 have HH3 : Hid _ := hH2.low hb0
 have HRV : Hid (Calls Tryz.prog 162 #[.pointer (some ⟨d.y, 0, none⟩)] X0 fun e w' => RVf kt (tT d.t0) (blH (d.hp.map Prod.fst)) d.rd d.ul X0 e w') := rverify kt d.C d.y d.vH d.vU d.hp d.ul d.t0 X0 ((HH3.out.here d hd).rb HF.out) HF.out.set HH3.out.glb.gr HF.out.hl HF.out.ul d.rd HF.out.rd
 have HB3 : Hid (Below base w X0) := ((HBW.out.mono HH.out.bw).trans hbel).trans (hb0.mono hH2.bw)
 have HRR : Hid _ := hrr
 have HO1 : Hid _ := own_kept o1 (fun q hq => hb0.block q (own_lt o1 q hq))
 have HO2 : Hid _ := own_kept o2 (fun q hq => hb0.block q (own_lt o2 q hq))
 have HO3 : Hid _ := own_kept o3 (fun q hq => hb0.block q (own_lt o3 q hq))
 have HO4 : Hid _ := own_kept o4 (fun q hq => hb0.block q (own_lt o4 q hq))
 have HO5 : Hid _ := own_kept o5 (fun q hq => hb0.block q (own_lt o5 q hq))
 have HZ : Hid _ := hZ
 have HZG : Hid _ := hZge
 unfold repC at hX0
 unfold repC
 rw [← hX0] at x1 HRV
 have HX0 : Hid _ := hX0
 have HRE : Hid (W1.heap.size = r) := hr
 clear hX0 hr
 clear hvl1 hS1 hF1 o1 o2 o3 o4 o5 hRA hbel hdoor hH2 hb0 hrr hdr0 hZ hZge
 go_wp2_with fail
 refine Calls.mono HRV.out ?_
 rw [HX0.out]
 rintro e W2 ⟨a', b', c', d'', u', rfl, hb2, p1, p2, p3, p4, p5⟩
 rw [HRE.out]
 obtain ⟨t1, j1, e1⟩ := own_shape p1
 obtain ⟨t2, j2, e2⟩ := own_shape p2
 obtain ⟨t3, j3, e3⟩ := own_shape p3
 obtain ⟨t4, j4, e4⟩ := own_shape p4
 obtain ⟨t5, j5, e5⟩ := own_shape p5
 generalize d.ul.length = m1 at e1
 generalize (abF d.rd (tT d.t0).L.V).length = m2 at e2
 generalize (baF kt (tT d.t0) (blH (d.hp.map Prod.fst)) (tT d.t0).L.ns).length = m3 at e3
 generalize (fsF kt (tT d.t0) (blH (d.hp.map Prod.fst)) 1 (tT d.t0).L.ns).length = m4 at e4
 generalize (fsF kt (tT d.t0) (blH (d.hp.map Prod.fst)) 2 (tT d.t0).L.ns).length = m5 at e5
 subst e1 e2 e3 e4 e5
 obtain ⟨X1, hX1⟩ : ∃ X, W2.alloc (.cells (repC (.slice t1 m1 j1) (.slice t2 m2 j2) (.slice t3 m3 j3) (.slice t4 m4 j4) (.slice t5 m5 j5)) 99) = X := ⟨_, rfl⟩
 obtain ⟨q, hq⟩ : ∃ x, W2.heap.size = x := ⟨_, rfl⟩
 have hb1 : Below W2.heap.size W2 X1 := by rw [← hX1]; exact (Below.refl _ _).alloc (Nat.le_refl _) _
 have hqr : X1.heap[q]? = some (.cells (repC (.slice t1 m1 j1) (.slice t2 m2 j2) (.slice t3 m3 j3) (.slice t4 m4 j4) (.slice t5 m5 j5)) 99 (0, 0)) := by rw [← hX1, ← hq]; exact heap_alloc_new _ _
 have hb02 : Below X0.heap.size X0 X1 := hb2.trans (hb1.mono hb2.size)
 have hns : (tT d.t0).L.ns ≤ 512 ∧ (baF kt (tT d.t0) d.bl (tT d.t0).L.ns).length ≤ 100000000 := by
  have hT := HT.out
  have h1 : (tT d.t0).L.ns * 1 ≤ (tT d.t0).L.ns * (tT d.t0).n := Nat.mul_le_mul_left _ (by have := hT.k1; unfold TT.n; omega)
  have h2 : (tT d.t0).L.ns * (tT d.t0).n = (tT d.t0).L.cnt := rfl
  have h3 := hT.cnt
  have h4 := baF_len kt (tT d.t0) d.bl (tT d.t0).L.ns
  exact ⟨by omega, by omega⟩
 have HRI : Hid (RpI kt base h lost ds m Z X0.heap.size r q (repC (.slice s1 n1 k1) (.slice s2 n2 k2) (.slice s3 n3 k3) (.slice s4 n4 k4) (.slice s5 n5 k5)) (repC (.slice t1 m1 j1) (.slice t2 m2 j2) (.slice t3 m3 j3) (.slice t4 m4 j4) (.slice t5 m5 j5)) [(.slice s1 n1 k1, .slice t1 m1 j1, d.ul), (.slice s2 n2 k2, .slice t2 m2 j2, abF d.rd (tT d.t0).L.V), (.slice s3 n3 k3, .slice t3 m3 j3, baF kt (tT d.t0) d.bl (tT d.t0).L.ns), (.slice s4 n4 k4, .slice t4 m4 j4, fsF kt (tT d.t0) d.bl 1 (tT d.t0).L.ns), (.slice s5 n5 k5, .slice t5 m5 j5, fsF kt (tT d.t0) d.bl 2 (tT d.t0).L.ns)] w X1) := by
  have hbase : base ≤ W.heap.size := HH1.out.bw
  refine ⟨⟨bk, HH3.out.low hb02, hm, fun x hx j hj hh => ?_⟩, (hb02.block _ (Array.getElem?_eq_some_iff.1 HRR.out).1).trans HRR.out, hqr, fun x hx => ?_, HRA.out, fun x hx j hj => ?_, hb02.size, fun x hx => ?_, HB3.out.trans (hb02.mono HH3.out.bw)⟩
  ·obtain ⟨l1, hk1, _⟩ := HH1.out.book
   have h1 := (hk1.lt hh).2
   have h2 : W.heap.size ≤ j := HZG.out j (by
    rw [HZ.out]
    simp only [List.mem_cons, List.not_mem_nil, or_false] at hx
    rcases hx with rfl | rfl | rfl | rfl | rfl <;> exact ⟨_, by simp, hj⟩)
   omega
  ·have hlo : ∀ (x : Value) (l : List Nat), X0.ownsRow W.heap.size 3 1 x l.length (unV l) → X1.ownsRow base 3 1 x l.length (unV l) := fun x l ho => own_le (own_kept ho (fun q hq => hb02.block q (own_lt ho q hq))) hbase
   have hlo2 : ∀ (x : Value) (l : List Nat), W2.ownsRow X0.heap.size 3 1 x l.length (unV l) → X1.ownsRow X0.heap.size 3 1 x l.length (unV l) := fun x l ho => own_kept ho (fun q hq => hb1.block q (own_lt ho q hq))
   simp only [List.mem_cons, List.not_mem_nil, or_false] at hx
   rcases hx with rfl | rfl | rfl | rfl | rfl
   ·exact ⟨hlo _ _ HO1.out, hlo2 _ _ p1⟩
   ·exact ⟨hlo _ _ HO2.out, hlo2 _ _ p2⟩
   ·exact ⟨hlo _ _ HO3.out, hlo2 _ _ p3⟩
   ·exact ⟨hlo _ _ HO4.out, hlo2 _ _ p4⟩
   ·exact ⟨hlo _ _ HO5.out, hlo2 _ _ p5⟩
  ·refine ⟨?_, ?_⟩
   ·rw [HZ.out]
    simp only [List.mem_cons, List.not_mem_nil, or_false] at hx
    rcases hx with rfl | rfl | rfl | rfl | rfl <;> exact ⟨_, by simp, hj⟩
   ·simp only [List.mem_cons, List.not_mem_nil, or_false] at hx
    rcases hx with rfl | rfl | rfl | rfl | rfl
    ·exact own_lt HO1.out j hj
    ·exact own_lt HO2.out j hj
    ·exact own_lt HO3.out j hj
    ·exact own_lt HO4.out j hj
    ·exact own_lt HO5.out j hj
  ·have h5 := HF.out.ul
   have h6 := abF_len d.rd (tT d.t0).L.V
   have h7 := fsF_len kt (tT d.t0) d.bl 1 (tT d.t0).L.ns
   have h8 := fsF_len kt (tT d.t0) d.bl 2 (tT d.t0).L.ns
   have h9 := HT.out.v16
   simp only [List.mem_cons, List.not_mem_nil, or_false] at hx
   rcases hx with rfl | rfl | rfl | rfl | rfl
   ·exact h5
   ·show (abF d.rd (tT d.t0).L.V).length ≤ _; omega
   ·exact hns.2
   ·show (fsF kt (tT d.t0) d.bl 1 (tT d.t0).L.ns).length ≤ _; omega
   ·show (fsF kt (tT d.t0) d.bl 2 (tT d.t0).L.ns).length ≤ _; omega
 obtain ⟨l1, hl1⟩ : ∃ x, d.ul = x := ⟨_, rfl⟩
 obtain ⟨l2, hl2⟩ : ∃ x, abF d.rd (tT d.t0).L.V = x := ⟨_, rfl⟩
 obtain ⟨l3, hl3⟩ : ∃ x, baF kt (tT d.t0) d.bl (tT d.t0).L.ns = x := ⟨_, rfl⟩
 obtain ⟨l4, hl4⟩ : ∃ x, fsF kt (tT d.t0) d.bl 1 (tT d.t0).L.ns = x := ⟨_, rfl⟩
 obtain ⟨l5, hl5⟩ : ∃ x, fsF kt (tT d.t0) d.bl 2 (tT d.t0).L.ns = x := ⟨_, rfl⟩
 rw [hl1, hl2, hl3, hl4, hl5] at HRI
 have HCE : Hid (∀ (m : Nat) (L : List (Value × Value × List Nat)) (X : World), RpI kt base h lost ds m Z X0.heap.size r q (repC (.slice s1 n1 k1) (.slice s2 n2 k2) (.slice s3 n3 k3) (.slice s4 n4 k4) (.slice s5 n5 k5)) (repC (.slice t1 m1 j1) (.slice t2 m2 j2) (.slice t3 m3 j3) (.slice t4 m4 j4) (.slice t5 m5 j5)) L w X → X.cell? ⟨r, 0, none⟩ = some (.slice s1 n1 k1) ∧ X.cell? ⟨r, 1, none⟩ = some (.slice s2 n2 k2) ∧ X.cell? ⟨r, 2, none⟩ = some (.slice s3 n3 k3) ∧ X.cell? ⟨r, 3, none⟩ = some (.slice s4 n4 k4) ∧ X.cell? ⟨r, 4, none⟩ = some (.slice s5 n5 k5) ∧ X.cell? ⟨q, 0, none⟩ = some (.slice t1 m1 j1) ∧ X.cell? ⟨q, 1, none⟩ = some (.slice t2 m2 j2) ∧ X.cell? ⟨q, 2, none⟩ = some (.slice t3 m3 j3) ∧ X.cell? ⟨q, 3, none⟩ = some (.slice t4 m4 j4) ∧ X.cell? ⟨q, 4, none⟩ = some (.slice t5 m5 j5)) := fun m L X hX => ⟨cell_of_row _ _ _ _ 99 _ hX.r, cell_of_row _ _ _ _ 99 _ hX.r, cell_of_row _ _ _ _ 99 _ hX.r, cell_of_row _ _ _ _ 99 _ hX.r, cell_of_row _ _ _ _ 99 _ hX.r, cell_of_row _ _ _ _ 99 _ hX.q, cell_of_row _ _ _ _ 99 _ hX.q, cell_of_row _ _ _ _ 99 _ hX.q, cell_of_row _ _ _ _ 99 _ hX.q, cell_of_row _ _ _ _ 99 _ hX.q⟩
 unfold repC at hX1
 unfold repC
 have HS1 : Hid _ := HRI.out.same
 rw [← hX1] at HRI HS1
 have HQE : Hid (W2.heap.size = q) := hq
 have HX1 : Hid _ := hX1
 obtain ⟨y0, y1, y2, y3, y4, z0, z1, z2, z3, z4⟩ := HCE.out _ _ _ HRI.out
 clear hb2 p1 p2 p3 p4 p5 hb1 hqr hb02 hns x1 c0 hl1 hl2 hl3 hl4 hl5 hdbe hq hX1
 go_wp2_with fail
 refine Calls.mono HS1.out ?_
 rintro e Y0 ⟨rfl, hR0⟩
 rw [HQE.out]
 obtain ⟨y0_0, y1_0, y2_0, y3_0, y4_0, z0_0, z1_0, z2_0, z3_0, z4_0⟩ := HCE.out _ _ Y0 hR0
 have HR0 : Hid _ := hR0
 have HK0 : Hid (∀ X : World, RpI kt base h lost ds m Z X0.heap.size r q (repC (.slice s1 n1 k1) (.slice s2 n2 k2) (.slice s3 n3 k3) (.slice s4 n4 k4) (.slice s5 n5 k5)) (repC (.slice t1 m1 j1) (.slice t2 m2 j2) (.slice t3 m3 j3) (.slice t4 m4 j4) (.slice t5 m5 j5)) [(.slice s1 n1 k1, .slice t1 m1 j1, l1), (.slice s2 n2 k2, .slice t2 m2 j2, l2), (.slice s3 n3 k3, .slice t3 m3 j3, l3), (.slice s4 n4 k4, .slice t4 m4 j4, l4), (.slice s5 n5 k5, .slice t5 m5 j5, l5)] w X → Calls Tryz.prog 164 #[.pointer (some ⟨h, 1, none⟩), (.slice s1 n1 k1)] X fun e w' => e = .returned (.tuple #[]) ∧ RpI kt base h lost ds (m + 1) Z X0.heap.size r q (repC (.slice s1 n1 k1) (.slice s2 n2 k2) (.slice s3 n3 k3) (.slice s4 n4 k4) (.slice s5 n5 k5)) (repC (.slice t1 m1 j1) (.slice t2 m2 j2) (.slice t3 m3 j3) (.slice t4 m4 j4) (.slice t5 m5 j5)) [(.slice s2 n2 k2, .slice t2 m2 j2, l2), (.slice s3 n3 k3, .slice t3 m3 j3, l3), (.slice s4 n4 k4, .slice t4 m4 j4, l4), (.slice s5 n5 k5, .slice t5 m5 j5, l5)] w w') := fun X hX => hX.keep (by omega)
 clear hR0 y0 y1 y2 y3 y4 z0 z1 z2 z3 z4
 go_wp2_with fail
 go_region_held3 (fun w2 => w2.cell? ⟨r, 0, none⟩ = some (.slice s1 n1 k1)) (go_keep) ((go_at_call 164; refine Calls.mono (HK0.out _ (by first | exact HR0.out | exact HR0.out.drew)) ?_; rintro e V0 ⟨rfl, hV0⟩; obtain ⟨y0_0v, y1_0v, y2_0v, y3_0v, y4_0v, z0_0v, z1_0v, z2_0v, z3_0v, z4_0v⟩ := HCE.out _ _ V0 hV0))
 clear y0_0 y1_0 y2_0 y3_0 y4_0 z0_0 z1_0 z2_0 z3_0 z4_0
 have HS2 : Hid _ := hV0.same
 clear hV0
 go_wp2_with fail
 refine Calls.mono HS2.out ?_
 rintro e Y1 ⟨rfl, hR1⟩
 obtain ⟨y0_1, y1_1, y2_1, y3_1, y4_1, z0_1, z1_1, z2_1, z3_1, z4_1⟩ := HCE.out _ _ Y1 hR1
 have HR1 : Hid _ := hR1
 have HK1 : Hid (∀ X : World, RpI kt base h lost ds (m + 1) Z X0.heap.size r q (repC (.slice s1 n1 k1) (.slice s2 n2 k2) (.slice s3 n3 k3) (.slice s4 n4 k4) (.slice s5 n5 k5)) (repC (.slice t1 m1 j1) (.slice t2 m2 j2) (.slice t3 m3 j3) (.slice t4 m4 j4) (.slice t5 m5 j5)) [(.slice s2 n2 k2, .slice t2 m2 j2, l2), (.slice s3 n3 k3, .slice t3 m3 j3, l3), (.slice s4 n4 k4, .slice t4 m4 j4, l4), (.slice s5 n5 k5, .slice t5 m5 j5, l5)] w X → Calls Tryz.prog 164 #[.pointer (some ⟨h, 1, none⟩), (.slice s2 n2 k2)] X fun e w' => e = .returned (.tuple #[]) ∧ RpI kt base h lost ds (m + 2) Z X0.heap.size r q (repC (.slice s1 n1 k1) (.slice s2 n2 k2) (.slice s3 n3 k3) (.slice s4 n4 k4) (.slice s5 n5 k5)) (repC (.slice t1 m1 j1) (.slice t2 m2 j2) (.slice t3 m3 j3) (.slice t4 m4 j4) (.slice t5 m5 j5)) [(.slice s3 n3 k3, .slice t3 m3 j3, l3), (.slice s4 n4 k4, .slice t4 m4 j4, l4), (.slice s5 n5 k5, .slice t5 m5 j5, l5)] w w') := fun X hX => hX.keep (by omega)
 clear hR1
 go_wp2_with fail
 go_region_held3 (fun w2 => w2.cell? ⟨r, 1, none⟩ = some (.slice s2 n2 k2)) (go_keep) ((go_at_call 164; refine Calls.mono (HK1.out _ (by first | exact HR1.out | exact HR1.out.drew)) ?_; rintro e V1 ⟨rfl, hV1⟩; obtain ⟨y0_1v, y1_1v, y2_1v, y3_1v, y4_1v, z0_1v, z1_1v, z2_1v, z3_1v, z4_1v⟩ := HCE.out _ _ V1 hV1))
 clear y0_1 y1_1 y2_1 y3_1 y4_1 z0_1 z1_1 z2_1 z3_1 z4_1
 have HS3 : Hid _ := hV1.same
 clear hV1
 go_wp2_with fail
 refine Calls.mono HS3.out ?_
 rintro e Y2 ⟨rfl, hR2⟩
 obtain ⟨y0_2, y1_2, y2_2, y3_2, y4_2, z0_2, z1_2, z2_2, z3_2, z4_2⟩ := HCE.out _ _ Y2 hR2
 have HR2 : Hid _ := hR2
 have HK2 : Hid (∀ X : World, RpI kt base h lost ds (m + 2) Z X0.heap.size r q (repC (.slice s1 n1 k1) (.slice s2 n2 k2) (.slice s3 n3 k3) (.slice s4 n4 k4) (.slice s5 n5 k5)) (repC (.slice t1 m1 j1) (.slice t2 m2 j2) (.slice t3 m3 j3) (.slice t4 m4 j4) (.slice t5 m5 j5)) [(.slice s3 n3 k3, .slice t3 m3 j3, l3), (.slice s4 n4 k4, .slice t4 m4 j4, l4), (.slice s5 n5 k5, .slice t5 m5 j5, l5)] w X → Calls Tryz.prog 164 #[.pointer (some ⟨h, 1, none⟩), (.slice s3 n3 k3)] X fun e w' => e = .returned (.tuple #[]) ∧ RpI kt base h lost ds (m + 3) Z X0.heap.size r q (repC (.slice s1 n1 k1) (.slice s2 n2 k2) (.slice s3 n3 k3) (.slice s4 n4 k4) (.slice s5 n5 k5)) (repC (.slice t1 m1 j1) (.slice t2 m2 j2) (.slice t3 m3 j3) (.slice t4 m4 j4) (.slice t5 m5 j5)) [(.slice s4 n4 k4, .slice t4 m4 j4, l4), (.slice s5 n5 k5, .slice t5 m5 j5, l5)] w w') := fun X hX => hX.keep (by omega)
 clear hR2
 go_wp2_with fail
 go_region_held3 (fun w2 => w2.cell? ⟨r, 2, none⟩ = some (.slice s3 n3 k3)) (go_keep) ((go_at_call 164; refine Calls.mono (HK2.out _ (by first | exact HR2.out | exact HR2.out.drew)) ?_; rintro e V2 ⟨rfl, hV2⟩; obtain ⟨y0_2v, y1_2v, y2_2v, y3_2v, y4_2v, z0_2v, z1_2v, z2_2v, z3_2v, z4_2v⟩ := HCE.out _ _ V2 hV2))
 clear y0_2 y1_2 y2_2 y3_2 y4_2 z0_2 z1_2 z2_2 z3_2 z4_2
 have HS4 : Hid _ := hV2.same
 clear hV2
 go_wp2_with fail
 refine Calls.mono HS4.out ?_
 rintro e Y3 ⟨rfl, hR3⟩
 obtain ⟨y0_3, y1_3, y2_3, y3_3, y4_3, z0_3, z1_3, z2_3, z3_3, z4_3⟩ := HCE.out _ _ Y3 hR3
 have HR3 : Hid _ := hR3
 have HK3 : Hid (∀ X : World, RpI kt base h lost ds (m + 3) Z X0.heap.size r q (repC (.slice s1 n1 k1) (.slice s2 n2 k2) (.slice s3 n3 k3) (.slice s4 n4 k4) (.slice s5 n5 k5)) (repC (.slice t1 m1 j1) (.slice t2 m2 j2) (.slice t3 m3 j3) (.slice t4 m4 j4) (.slice t5 m5 j5)) [(.slice s4 n4 k4, .slice t4 m4 j4, l4), (.slice s5 n5 k5, .slice t5 m5 j5, l5)] w X → Calls Tryz.prog 164 #[.pointer (some ⟨h, 1, none⟩), (.slice s4 n4 k4)] X fun e w' => e = .returned (.tuple #[]) ∧ RpI kt base h lost ds (m + 4) Z X0.heap.size r q (repC (.slice s1 n1 k1) (.slice s2 n2 k2) (.slice s3 n3 k3) (.slice s4 n4 k4) (.slice s5 n5 k5)) (repC (.slice t1 m1 j1) (.slice t2 m2 j2) (.slice t3 m3 j3) (.slice t4 m4 j4) (.slice t5 m5 j5)) [(.slice s5 n5 k5, .slice t5 m5 j5, l5)] w w') := fun X hX => hX.keep (by omega)
 clear hR3
 go_wp2_with fail
 go_region_held3 (fun w2 => w2.cell? ⟨r, 3, none⟩ = some (.slice s4 n4 k4)) (go_keep) ((go_at_call 164; refine Calls.mono (HK3.out _ (by first | exact HR3.out | exact HR3.out.drew)) ?_; rintro e V3 ⟨rfl, hV3⟩; obtain ⟨y0_3v, y1_3v, y2_3v, y3_3v, y4_3v, z0_3v, z1_3v, z2_3v, z3_3v, z4_3v⟩ := HCE.out _ _ V3 hV3))
 clear y0_3 y1_3 y2_3 y3_3 y4_3 z0_3 z1_3 z2_3 z3_3 z4_3
 have HS5 : Hid _ := hV3.same
 clear hV3
 go_wp2_with fail
 refine Calls.mono HS5.out ?_
 rintro e Y4 ⟨rfl, hR4⟩
 obtain ⟨y0_4, y1_4, y2_4, y3_4, y4_4, z0_4, z1_4, z2_4, z3_4, z4_4⟩ := HCE.out _ _ Y4 hR4
 have HR4 : Hid _ := hR4
 have HK4 : Hid (∀ X : World, RpI kt base h lost ds (m + 4) Z X0.heap.size r q (repC (.slice s1 n1 k1) (.slice s2 n2 k2) (.slice s3 n3 k3) (.slice s4 n4 k4) (.slice s5 n5 k5)) (repC (.slice t1 m1 j1) (.slice t2 m2 j2) (.slice t3 m3 j3) (.slice t4 m4 j4) (.slice t5 m5 j5)) [(.slice s5 n5 k5, .slice t5 m5 j5, l5)] w X → Calls Tryz.prog 164 #[.pointer (some ⟨h, 1, none⟩), (.slice s5 n5 k5)] X fun e w' => e = .returned (.tuple #[]) ∧ RpI kt base h lost ds (m + 5) Z X0.heap.size r q (repC (.slice s1 n1 k1) (.slice s2 n2 k2) (.slice s3 n3 k3) (.slice s4 n4 k4) (.slice s5 n5 k5)) (repC (.slice t1 m1 j1) (.slice t2 m2 j2) (.slice t3 m3 j3) (.slice t4 m4 j4) (.slice t5 m5 j5)) [] w w') := fun X hX => hX.keep (by omega)
 clear hR4
 go_wp2_with fail
 go_region_held3 (fun w2 => w2.cell? ⟨r, 4, none⟩ = some (.slice s5 n5 k5)) (go_keep) ((go_at_call 164; refine Calls.mono (HK4.out _ (by first | exact HR4.out | exact HR4.out.drew)) ?_; rintro e V4 ⟨rfl, hV4⟩; obtain ⟨y0_4v, y1_4v, y2_4v, y3_4v, y4_4v, z0_4v, z1_4v, z2_4v, z3_4v, z4_4v⟩ := HCE.out _ _ V4 hV4))
 clear y0_4 y1_4 y2_4 y3_4 y4_4 z0_4 z1_4 z2_4 z3_4 z4_4
 have HFIN : Hid _ := hV4.fin
 clear hV4
 go_wp2_with fail
 go_ret
 exact ⟨rfl, HFIN.out⟩
end Go.Proofs.YtadinjaocnlglaaGreatDoor
