/-
  The refusals of the program's Restore.
-/
import Derived.Test.YtbjgchlckmecaaaDoorQ6
namespace Go.Proofs.YtbjgchlckmecaaaDoor
open Go.RowKit
set_option maxRecDepth 100000
set_option maxHeartbeats 400000
/-- the program's Restore answers o -/
def RGo (o : Out) (K M : Int) (v vb : Value) (w : World) : Prop := Calls Tryd.prog 15 #[.int .i64 K, .int .i64 M, v, vb] w fun e w' => ∃ x y, e = .returned (.tuple #[x, y]) ∧ GoOut w o x y w'
theorem vres_wrap (o : Out) (K M : Int) (v vb : Value) (w : World) (H : Calls Tryd.prog 28 #[.int .i64 K, .int .i64 M, v, vb] w fun e w' => ∃ x y, e = .returned (.tuple #[x, y]) ∧ GoOut w o x y w') : RGo o K M v vb w := by
  have H' : Hid _ := H
  clear H
  unfold RGo
  go_enter Tryd.func15, Tryd.ntmps15
  go_wp2_with fail
  refine Calls.mono H'.out ?_
  rintro e w1 ⟨x, y, rfl, hO⟩
  go_wp2
  go_ret2
  exact ⟨x, y, rfl, hO⟩
theorem res_params (K M i : Int) (v vb : Value) (w : World) (h : NoPar K M i) : RGo (.bad 1 i) K M v vb w := by
  refine vres_wrap _ K M v vb w ?_
  have H : Hid _ := cp_bad K M i w h
  clear h
  go_enter Tryd.func28, Tryd.ntmps28
  go_wp2_with fail
  refine Calls.mono H.out ?_
  rintro e w1 ⟨rfl, rfl⟩
  go_wp2
  go_ret2
  exact ⟨_, _, rfl, goBad w w 1 i (Below.refl _ _)⟩
theorem res_range (k m n cap : Nat) (a : Option Addr) (vb : Value) (w : World) (hk1 : 1 ≤ k) (hkm : k + m ≤ 255) (hn : n ≠ k + m) : RGo (.bad 15 n) k m (.slice a n cap) vb w := by
  refine vres_wrap _ k m _ _ w ?_
  have hne : ((n : Int) != (k : Int) + (m : Int)) = true := by rw [bne_iff_ne]; omega
  go_enter Tryd.func28, Tryd.ntmps28
  go_wp2_with fail
  refine (checkParams_ok k m w hk1 hkm).mono ?_
  rintro e w1 ⟨rfl, rfl⟩
  go_wp2_with fail
  refine (At_any 15 n w1).mono ?_
  rintro e w2 ⟨rfl, rfl⟩
  go_wp2
  go_ret2
  exact ⟨_, _, rfl, goBad w1 w1 15 n (Below.refl _ _)⟩
theorem res_range2 (k m n cap nh cap2 : Nat) (a a2 : Option Addr) (w : World) (hk1 : 1 ≤ k) (hkm : k + m ≤ 255) (hn : n = k + m) (hh : nh ≠ k + m) : RGo (.bad 15 nh) k m (.slice a n cap) (.slice a2 nh cap2) w := by
  refine vres_wrap _ k m _ _ w ?_
  have hne : ((n : Int) != (k : Int) + (m : Int)) = false := by rw [bne_eq_false_iff_eq]; omega
  have hne2 : ((nh : Int) != (k : Int) + (m : Int)) = true := by rw [bne_iff_ne]; omega
  go_enter Tryd.func28, Tryd.ntmps28
  go_wp2_with fail
  refine (checkParams_ok k m w hk1 hkm).mono ?_
  rintro e w1 ⟨rfl, rfl⟩
  go_wp2_with fail
  refine (At_any 15 nh w1).mono ?_
  rintro e w2 ⟨rfl, rfl⟩
  go_wp2
  go_ret2
  exact ⟨_, _, rfl, goBad w1 w1 15 nh (Below.refl _ _)⟩
theorem res_big (S : Nat → ByteArray) (h : Nat → Bool) (k m n b cap b2 cap2 i0 i1 : Nat) (w : World) (hk1 : 1 ≤ k) (hkm : k + m ≤ 255) (hn : n = k + m) (hi0 : i0 < n) (h1 : h i0 = true) (h2 : ∀ j, j < i0 → h j = false) (hi1 : i1 < n) (h3 : h i1 = true) (hb1 : (S i1).size ≠ (S i0).size) (hS : ∀ i, i < i1 → h i = true → (S i).size = (S i0).size) (hC : Cl w b n (tI S)) (hc : Cl w b2 n (bI h)) :
    RGo (.bad 4 i1) k m (.slice (some ⟨b, 0, none⟩) n cap) (.slice (some ⟨b2, 0, none⟩) n cap2) w := by
  refine vres_wrap _ k m _ _ w ?_
  have HL : Hid _ := checkLengths_bad S h b n cap b2 cap2 i0 i1 w (by omega) hi0 h1 h2 hi1 h3 hb1 hS hC hc
  have hne : ((n : Int) != (k : Int) + (m : Int)) = false := by rw [bne_eq_false_iff_eq]; omega
  have hn255 : n ≤ 255 := by omega
  clear h1 h2 h3 hb1 hS hC hc hi0 hi1 hn
  go_enter Tryd.func28, Tryd.ntmps28
  go_wp2_with fail
  refine (checkParams_ok k m w hk1 hkm).mono ?_
  rintro e w1 ⟨rfl, rfl⟩
  go_wp2_with fail
  refine Calls.mono HL.out ?_
  rintro e w2 ⟨q, rfl, rfl⟩
  go_wp2
  go_ret2
  exact ⟨_, _, rfl, goBad w1 (w1.drewN q) 4 i1 (below_drewN (Below.refl _ _) q)⟩
theorem res_lost (h : Nat → Bool) (k m n b cap b2 cap2 L : Nat) (w : World) (hk1 : 1 ≤ k) (hkm : k + m ≤ 255) (hn : n = k + m)
    (hL : Calls Tryd.prog 35 #[.slice (some ⟨b, 0, none⟩) n cap, .slice (some ⟨b2, 0, none⟩) n cap2] w fun e w' => e = .returned .nilIface ∧ ∃ q, w' = w.drewN q)
    (hLe : (knL h k n).length = L) (hK : L < k) (hb2 : b2 < w.heap.size) (hc : Cl w b2 n (bI h)) :
    RGo (.bad 14 L) k m (.slice (some ⟨b, 0, none⟩) n cap) (.slice (some ⟨b2, 0, none⟩) n cap2) w := by
  refine vres_wrap _ k m _ _ w ?_
  have HL : Hid _ := hL
  have HC : Hid _ := hc
  have HLE : Hid _ := hLe
  have hne : ((n : Int) != (k : Int) + (m : Int)) = false := by rw [bne_eq_false_iff_eq]; omega
  have hn255 : n ≤ 255 := by omega
  clear hL hc hn hLe
  go_enter Tryd.func28, Tryd.ntmps28
  go_wp2_with fail
  refine (checkParams_ok k m w hk1 hkm).mono ?_
  rintro e w1 ⟨rfl, rfl⟩
  go_wp2_with fail
  refine Calls.mono HL.out ?_
  rintro e w2 ⟨rfl, q, hq⟩
  have HB : Hid (Below w1.heap.size w1 w2) := by show Below _ _ _; rw [hq]; exact below_drewN (Below.refl _ _) q
  have HC2 : Hid (Cl w2 b2 n (bI h)) := by show Cl _ _ _ _; rw [hq]; exact HC.out
  have HZ : Hid (b2 < w2.heap.size) := by show b2 < w2.heap.size; rw [hq]; exact hb2
  clear hq
  go_wp2_with fail
  refine (split_any h b2 n cap2 k w2 (by omega) (by omega) HZ.out HC2.out).mono ?_
  rintro e w3 ⟨v1, v2, rfl, ho1, _, hB3⟩
  obtain ⟨a1, c1, hs⟩ := own_shape ho1
  subst hs
  clear ho1
  rw [HLE.out]
  have hlt : (L : Int) < (k : Int) := by omega
  go_wp2_with fail
  refine (At_any 14 L w3).mono ?_
  rintro e w4 ⟨rfl, rfl⟩
  go_wp2
  go_ret2
  exact ⟨_, _, rfl, goBad w1 w3 14 L (HB.out.trans (hB3.mono HB.out.size))⟩
end Go.Proofs.YtbjgchlckmecaaaDoor
