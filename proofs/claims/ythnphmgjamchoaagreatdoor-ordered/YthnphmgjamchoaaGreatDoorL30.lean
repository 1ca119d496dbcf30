/-
  The walk of vaultkeep's Ordered.
-/
import Derived.Test.YthnphmgjamchoaaGreatDoorL29
import Derived.Test.YthnphmgjamchoaaGreatDoorL15
namespace Go.Proofs.YthnphmgjamchoaaGreatDoor
open Go.RowKit
set_option maxRecDepth 100000
set_option maxHeartbeats 2000000
theorem Ints.below {w w' : World} {a : Option Addr} {n : Nat} (h : Ints w a n) (hb : Below w.heap.size w w') : Ints w' a n := fun i hi => by
  obtain ⟨b, off, x, h1, h2, h3, h4⟩ := h i hi
  exact ⟨b, off, x, h1, Nat.lt_of_lt_of_le h2 hb.size, (hb.cell (p := ⟨b, off + i, none⟩) h2).trans h3, h4⟩
theorem ordered_any (kt : Nat → Int) (k m c v : Int) (xa aa ba : Option Addr) (nx xc na ac nb bc : Nat) (w : World) (k0 : -9223372036854775808 ≤ k) (k1 : k ≤ 9223372036854775807) (m0 : -9223372036854775808 ≤ m) (m1 : m ≤ 9223372036854775807) (c0 : -9223372036854775808 ≤ c) (c1 : c ≤ 9223372036854775807) (v0 : -9223372036854775808 ≤ v) (v1 : v ≤ 9223372036854775807)
    (hnx : nx ≤ 140737488355328) (hX : Raw w xa nx) (hA : Ints w aa na) (hB : Ints w ba nb) (hG : Gd kt w) :
    Calls Tryz.prog 3 #[.agg #[.int .i64 k, .int .i64 m, .int .i64 c, .int .i64 v], .slice xa nx xc, .slice aa na ac, .slice ba nb bc] w fun e w' => e = .returned (.bool true) ∧ Below w.heap.size w w' := by
  have H4 : Hid (∀ W, _) := fun W => params_any k m c v W k0 k1 m0 m1 c0 c1 v0 v1
  have hK := pk_lt k 5 (by omega)
  have hM := pk_lt m 4 (by omega)
  have hC := pk_lt c 8 (by omega)
  have hV := pk_lt v 5 (by omega)
  obtain ⟨K, eK⟩ : ∃ K, 1 + pk k 5 = K := ⟨_, rfl⟩
  obtain ⟨M, eM⟩ : ∃ M, pk m 4 = M := ⟨_, rfl⟩
  obtain ⟨C, eC⟩ : ∃ C, 1 + pk c 8 = C := ⟨_, rfl⟩
  obtain ⟨V, eV⟩ : ∃ V, 1 + pk v 5 = V := ⟨_, rfl⟩
  rw [eK, eM, eC, eV] at H4
  have hK1 : 1 ≤ K := by omega
  have hK2 : K ≤ 5 := by omega
  have hM1 : M ≤ 3 := by omega
  have hC1 : 1 ≤ C := by omega
  have hC2 : C ≤ 8 := by omega
  have hV1 : 1 ≤ V := by omega
  have hV2 : V ≤ 5 := by omega
  have HX : Hid (Raw w xa nx) := hX
  have HA : Hid (Ints w aa na) := hA
  have HB : Hid (Ints w ba nb) := hB
  have HG : Hid (Gd kt w) := hG
  clear eK eM eC eV hK hM hC hV k0 k1 m0 m1 c0 c1 v0 v1 hX hA hB hG
  unfold pV at H4
  go_enter Tryz.func3, Tryz.ntmps3
  go_wp2_with fail
  refine Calls.mono (H4.out _) ?_
  rintro e s1 ⟨rfl, hb1⟩
  have HB1 : Hid (Below w.heap.size w s1) := by
    have h0 : Below w.heap.size w (w.alloc (Obj.cells #[Value.int IntKind.i64 k, Value.int IntKind.i64 m, Value.int IntKind.i64 c, Value.int IntKind.i64 v] 23)) := (Below.refl _ _).alloc (Nat.le_refl _) _
    exact h0.trans (hb1.mono h0.size)
  clear hb1 H4
  go_wp2_with fail
  obtain ⟨s2, hs2⟩ : ∃ s2, s1.alloc (Obj.cells #[Value.int IntKind.i64 K, Value.int IntKind.i64 M, Value.int IntKind.i64 C, Value.int IntKind.i64 V] 23) = s2 := ⟨_, rfl⟩
  have HP2 : Hid (s2.heap[s1.heap.size]? = some (.cells #[.int .i64 K, .int .i64 M, .int .i64 C, .int .i64 V] 23 (0, 0))) := by show _ = _; rw [← hs2]; exact heap_alloc_new _ _
  have HB2 : Hid (Below w.heap.size w s2) := by show Below _ _ _; rw [← hs2]; exact HB1.out.alloc HB1.out.size _
  have hpl : s1.heap.size < s2.heap.size := by rw [← hs2]; simp
  rw [hs2]
  obtain ⟨pb, hpb⟩ : ∃ pb, s1.heap.size = pb := ⟨_, rfl⟩
  rw [hpb] at HP2 hpl ⊢
  clear hs2 hpb HB1
  refine (objects_any xa nx xc s2 hnx (HX.out.below HB2.out)).mono ?_
  rintro e s3 ⟨vl, q, F, rfl, hO3, hq, hS, hb3⟩
  obtain ⟨la, lc, hvl⟩ := own_shape hO3
  subst hvl
  have HO3 : Hid (OwnF s3 s2.heap.size (.slice la q lc) q F) := hO3
  have HS : Hid (Srt q F) := hS
  have HB3 : Hid (Below w.heap.size w s3) := HB2.out.trans (hb3.mono HB2.out.size)
  have HP3 : Hid (s3.heap[pb]? = some (.cells #[.int .i64 K, .int .i64 M, .int .i64 C, .int .i64 V] 23 (0, 0))) := by show _ = _; rw [hb3.block pb hpl]; exact HP2.out
  clear hO3 hS hb3 HP2 HB2
  have p0 : s3.cell? ⟨pb, 0, none⟩ = some (.int .i64 K) := cell_of_row _ _ _ _ 23 _ HP3.out
  have p1 : s3.cell? ⟨pb, 1, none⟩ = some (.int .i64 M) := cell_of_row _ _ _ _ 23 _ HP3.out
  have p2 : s3.cell? ⟨pb, 2, none⟩ = some (.int .i64 C) := cell_of_row _ _ _ _ 23 _ HP3.out
  have p3 : s3.cell? ⟨pb, 3, none⟩ = some (.int .i64 V) := cell_of_row _ _ _ _ 23 _ HP3.out
  have H6 : Hid (∀ (W : World) (a : Option Addr) (n cap : Nat), Below s3.heap.size s3 W → Ints W a n → Calls Tryz.prog 6 #[.agg #[.int .i64 K, .int .i64 M, .int .i64 C, .int .i64 V], .slice la q lc, .slice a n cap] W fun e w' => ∃ gv, e = .returned (.tuple #[.slice (some ⟨gv, 0, none⟩) V V, .string (rtT kt K M C V (datOf F q) (nmF F q)), .bool true]) ∧ W.heap.size ≤ gv ∧ Rw w' gv V 9 (tX (voT kt K M C V (datOf F q) (nmF F q))) ∧ Below W.heap.size W w') := fun W a n cap hW hI =>
    packed_any kt K M C V q lc n cap s2.heap.size la a F W hK1 hK2 hM1 hC1 hC2 hV1 hV2 hq (own_low HO3.out (fun r hr => own_lt HO3.out r hr) hW) HS.out hI (HG.out.below (HB3.out.trans (hW.mono HB3.out.size)))
  obtain ⟨R, hR⟩ : ∃ R, rtT kt K M C V (datOf F q) (nmF F q) = R := ⟨_, rfl⟩
  obtain ⟨VO, hVO⟩ : ∃ VO, voT kt K M C V (datOf F q) (nmF F q) = VO := ⟨_, rfl⟩
  rw [hR, hVO] at H6
  clear hR hVO
  go_wp2_with fail
  refine Calls.mono (H6.out s3 aa na ac (Below.refl _ _) (HA.out.below HB3.out)) ?_
  rintro e s4 ⟨g4, rfl, h41, h42, h43⟩
  have HB4 : Hid (Below s3.heap.size s3 s4) := h43
  have HR4 : Hid (Rw s4 g4 V 9 (tX VO)) := h42
  have hpl3 : pb < s3.heap.size := (Array.getElem?_eq_some_iff.1 HP3.out).1
  have HP4 : Hid (s4.heap[pb]? = some (.cells #[.int .i64 K, .int .i64 M, .int .i64 C, .int .i64 V] 23 (0, 0))) := by show _ = _; rw [h43.block pb hpl3]; exact HP3.out
  clear h42 h43 p0 p1 p2 p3 HP3
  have p0 : s4.cell? ⟨pb, 0, none⟩ = some (.int .i64 K) := cell_of_row _ _ _ _ 23 _ HP4.out
  have p1 : s4.cell? ⟨pb, 1, none⟩ = some (.int .i64 M) := cell_of_row _ _ _ _ 23 _ HP4.out
  have p2 : s4.cell? ⟨pb, 2, none⟩ = some (.int .i64 C) := cell_of_row _ _ _ _ 23 _ HP4.out
  have p3 : s4.cell? ⟨pb, 3, none⟩ = some (.int .i64 V) := cell_of_row _ _ _ _ 23 _ HP4.out
  go_wp2_with fail
  refine Calls.mono (H6.out s4 ba nb bc HB4.out (HB.out.below (HB3.out.trans (HB4.out.mono HB3.out.size)))) ?_
  rintro e s5 ⟨g5, rfl, h51, h52, h53⟩
  have hg4 : g4 < s4.heap.size := (Array.getElem?_eq_some_iff.1 HR4.out).1
  have HR45 : Hid (Rw s5 g4 V 9 (tX VO)) := by show _ = _; rw [h53.block g4 hg4]; exact HR4.out
  have HR5 : Hid (Rw s5 g5 V 9 (tX VO)) := h52
  have HB5 : Hid (Below w.heap.size w s5) := HB3.out.trans ((HB4.out.mono HB3.out.size).trans (h53.mono (Nat.le_trans HB3.out.size HB4.out.size)))
  clear h52 h53 p0 p1 p2 p3 HP4 H6
  go_wp2_with fail
  refine (same_any VO VO V g4 V g5 V s5 (by omega) HR45.out.cl HR5.out.cl (fun i _ => rfl)).mono ?_
  rintro e s6 ⟨rfl, h6⟩
  have HB6 : Hid (Below w.heap.size w s6) := HB5.out.trans (h6.mono HB5.out.size)
  clear h6
  go_wp2
  go_ret
  refine ⟨?_, HB6.out⟩
  simp
end Go.Proofs.YthnphmgjamchoaaGreatDoor
