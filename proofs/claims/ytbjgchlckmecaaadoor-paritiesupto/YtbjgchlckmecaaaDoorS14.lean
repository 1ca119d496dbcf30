/-
  The walks of stripe.Restore, vault.Restore, where they refuse nothing.
-/
import Derived.Test.YtbjgchlckmecaaaDoorS13
import Derived.WalkKit
import Derived.WalkSpells
import Derived.WalkLawsBesides
import Derived.BigRegion
import Derived.BigQuiet
import Derived.Deep.QuietTactic
import Derived.Deep.RegionWith
import Derived.Deep.RegionHeld3
namespace Go.Proofs.YtbjgchlckmecaaaDoor
open Go.RowKit
set_option maxRecDepth 100000
def gt (l : List Nat) : Nat → Nat := fun i => l.getD i 0
theorem vI_get (l : List Nat) (i : Nat) (h : i < l.length) : (vI l)[i]? = some (.int .i64 ((gt l i : Nat) : Int)) := by
  simp [vI, gt, h]
/-- what was gathered, as a list of points -/
theorem own_cells {w : World} {B : Nat} {v : Value} {l : List Nat} (h : w.ownsRow B 3 1 v l.length (vI l)) (h0 : 0 < l.length) : ∃ g cap, v = .slice (some ⟨g, 0, none⟩) l.length cap ∧ g < w.heap.size ∧ Cl w g l.length (pI (gt l)) := by
  rcases h.2 with ⟨_, h'⟩ | ⟨g, cap, cur, hv, _, hh, _⟩
  · omega
  · subst hv
    refine ⟨g, cap, rfl, (Array.getElem?_eq_some_iff.1 hh).1, fun i hi => ?_⟩
    rw [h.cellAt i (by omega), vI_get l i hi]
    rfl
theorem own_pts {w : World} {B : Nat} {v : Value} {l : List Nat} (h : w.ownsRow B 3 1 v l.length (vI l)) : Pts w v l.length (gt l) := by
  rcases h.2 with ⟨h1, h'⟩ | ⟨g, cap, cur, hv, _, hh, _⟩
  · exact .inl ⟨h1, h'⟩
  · subst hv
    refine .inr ⟨g, cap, rfl, (Array.getElem?_eq_some_iff.1 hh).1, fun i hi => ?_⟩
    rw [h.cellAt i (by omega), vI_get l i hi]
    rfl
theorem knL_mem (h : Nat → Bool) (k : Nat) : ∀ n x, x ∈ knL h k n → x < n ∧ h x = true
  | 0, x, hx => by simp [knL] at hx
  | n + 1, x, hx => by
    rw [knL] at hx
    split at hx
    · rename_i hc
      rcases List.mem_append.1 hx with hx | hx
      · have := knL_mem h k n x hx; exact ⟨by omega, this.2⟩
      · simp at hx; subst hx; exact ⟨by omega, hc.1⟩
    · have := knL_mem h k n x hx; exact ⟨by omega, this.2⟩
theorem wnL_mem (h : Nat → Bool) (k : Nat) : ∀ n x, x ∈ wnL h k n → x < n
  | 0, x, hx => by simp [wnL] at hx
  | n + 1, x, hx => by
    rw [wnL] at hx
    split at hx
    · have := wnL_mem h k n x hx; omega
    · rcases List.mem_append.1 hx with hx | hx
      · have := wnL_mem h k n x hx; omega
      · simp at hx; omega
theorem gt_mem (l : List Nat) (i : Nat) (h : i < l.length) : gt l i ∈ l := by
  unfold gt; rw [List.getD_eq_getElem?_getD, List.getElem?_eq_getElem h]; exact List.getElem_mem h
set_option maxHeartbeats 1000000 in
theorem restore_ok (S : Nat → ByteArray) (h : Nat → Bool) (k m c b cap b2 cap2 i0 : Nat) (w : World) (hk1 : 1 ≤ k) (hkm : k + m ≤ 255) (hc : c ≤ 140737488351232) (hi0 : i0 < k + m) (h1 : h i0 = true) (h2 : ∀ j, j < i0 → h j = false) (hS : ∀ i, i < k + m → h i = true → (S i).size = c) (hK : (knL h k (k + m)).length = k)
    (hb : b < w.heap.size) (hb2 : b2 < w.heap.size) (hC : Cl w b (k + m) (tI S)) (hB : Cl w b2 (k + m) (bI h)) :
    Calls Tryd.prog 28 #[.int .i64 k, .int .i64 m, .slice (some ⟨b, 0, none⟩) (k + m) cap, .slice (some ⟨b2, 0, none⟩) (k + m) cap2] w fun e w' => ∃ g, e = .returned (.tuple #[.slice (some ⟨g, 0, none⟩) (k + m) (k + m), .nilIface]) ∧ w.heap.size ≤ g ∧
      Rw w' g (k + m) 9 (filled S (gt (knL h k (k + m))) (gt (wnL h k (k + m))) k (wnL h k (k + m)).length c) ∧ Below w.heap.size w w' := by
  have HL : Hid _ := checkLengths_ok S h b (k + m) cap b2 cap2 c i0 w (by omega) hi0 h1 h2 hS hC hB
  have hml := wnL_len h k (k + m)
  obtain ⟨n, hn⟩ : ∃ n, n = k + m := ⟨_, rfl⟩
  have hni : ((k : Int) + (m : Int)) = (n : Int) := by omega
  rw [← hn] at hS hK hC hB HL hi0 hml ⊢
  have hn255 : n ≤ 255 := by omega
  have HNI : Hid _ := hni
  have hkn : k ≤ n := by omega
  have HS : Hid _ := hS
  have HK : Hid _ := hK
  have HC : Hid _ := hC
  have HB : Hid _ := hB
  clear hS hC hB hK h1 h2 hn
  go_enter Tryd.func28, Tryd.ntmps28
  go_wp2_with fail
  refine (checkParams_ok k m _ hk1 hkm).mono ?_
  rintro e w' ⟨rfl, rfl⟩
  go_wp2_with fail
  refine (Calls.mono HL.out ?_)
  rintro e w1 ⟨rfl, q, hq⟩
  have HQ : Hid _ := hq
  have hC1 : Cl w1 b n (tI S) := by rw [hq]; exact HC.out
  have hB1 : Cl w1 b2 n (bI h) := by rw [hq]; exact HB.out
  have hBel : Below w'.heap.size w' w1 := by rw [hq]; exact below_drewN (Below.refl _ _) q
  have hs1 : w1.heap.size = w'.heap.size := by rw [hq]; rfl
  have HC1 : Hid _ := hC1
  have HB1 : Hid _ := hB1
  have HS1 : Hid _ := hs1
  clear hC1 hB1 hq hs1 hni
  go_wp2_with fail
  refine (split_any h b2 n cap2 k w1 (by omega) (by omega) (by rw [HS1.out]; exact hb2) HB1.out).mono ?_
  rintro e w2 ⟨v1, v2, rfl, ho1, ho2, hB2⟩
  have hp2 := own_pts ho2
  obtain ⟨g1, cap1, hv1, hg1, hc1⟩ := own_cells ho1 (by rw [HK.out]; omega)
  rw [HK.out] at hv1 hc1
  subst hv1
  have HP2 : Hid _ := hp2
  have HC1' : Hid _ := hc1
  clear hp2 hc1 ho1 ho2
  have hbb : b < w2.heap.size := by have := HS1.out; have := hB2.size; omega
  have hC2 : Cl w2 b n (tI S) := Cl.below HC1.out hB2 (by rw [HS1.out]; exact hb)
  have HC2 : Hid _ := hC2
  clear hC2
  go_wp2_with fail
  refine (fill_any S (gt (knL h k n)) (gt (wnL h k n)) n k (wnL h k n).length c b cap g1 cap1 v2 w2 (by omega) (by omega) hkn hml (by omega) hc (fun i hi => ?_) (fun i hi => ?_) (fun i hi => ?_) hbb hg1 HC2.out HC1'.out HP2.out).mono ?_
  · have := knL_mem h k n _ (gt_mem (knL h k n) i (by rw [HK.out]; exact hi)); exact HS.out _ this.1 this.2
  · exact (knL_mem h k n _ (gt_mem (knL h k n) i (by rw [HK.out]; exact hi))).1
  · exact wnL_mem h k n _ (gt_mem (wnL h k n) i hi)
  rintro e w3 ⟨rfl, hR3, hB3⟩
  go_wp2
  go_ret2
  exact ⟨w2.heap.size, rfl, Nat.le_trans hBel.size hB2.size, hR3, (hBel.trans (hB2.mono hBel.size)).trans (hB3.mono (Nat.le_trans hBel.size hB2.size))⟩
set_option maxHeartbeats 400000 in
theorem vrestore_ok (S : Nat → ByteArray) (h : Nat → Bool) (k m c b cap b2 cap2 i0 : Nat) (w : World) (hk1 : 1 ≤ k) (hkm : k + m ≤ 255) (hc : c ≤ 140737488351232) (hi0 : i0 < k + m) (h1 : h i0 = true) (h2 : ∀ j, j < i0 → h j = false) (hS : ∀ i, i < k + m → h i = true → (S i).size = c) (hK : (knL h k (k + m)).length = k)
    (hb : b < w.heap.size) (hb2 : b2 < w.heap.size) (hC : Cl w b (k + m) (tI S)) (hB : Cl w b2 (k + m) (bI h)) :
    Calls Tryd.prog 15 #[.int .i64 k, .int .i64 m, .slice (some ⟨b, 0, none⟩) (k + m) cap, .slice (some ⟨b2, 0, none⟩) (k + m) cap2] w fun e w' => ∃ g, e = .returned (.tuple #[.slice (some ⟨g, 0, none⟩) (k + m) (k + m), .nilIface]) ∧ w.heap.size ≤ g ∧
      Rw w' g (k + m) 9 (filled S (gt (knL h k (k + m))) (gt (wnL h k (k + m))) k (wnL h k (k + m)).length c) ∧ Below w.heap.size w w' := by
  have H : Hid _ := restore_ok S h k m c b cap b2 cap2 i0 w hk1 hkm hc hi0 h1 h2 hS hK hb hb2 hC hB
  clear hS hC hB hK h1 h2
  obtain ⟨n, hn⟩ : ∃ n, n = k + m := ⟨_, rfl⟩
  rw [← hn] at H ⊢
  clear hn
  go_enter Tryd.func15, Tryd.ntmps15
  go_wp2_with fail
  refine Calls.mono H.out ?_
  rintro e w1 ⟨g, rfl, hg, hR, hB⟩
  go_wp2
  go_ret2
  exact ⟨g, rfl, hg, hR, hB⟩
end Go.Proofs.YtbjgchlckmecaaaDoor
