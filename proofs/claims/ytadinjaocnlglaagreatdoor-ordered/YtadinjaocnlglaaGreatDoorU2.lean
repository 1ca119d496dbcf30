/-
  The walks of label's methods, Tree.halves, Tree.Top.
-/
import Derived.Test.YtadinjaocnlglaaGreatDoorTQ
import Derived.Test.YtadinjaocnlglaaGreatDoorS11
import Derived.Test.YtadinjaocnlglaaGreatDoorU1
import Derived.Maps.AppendAt
import Derived.WalkKit
import Derived.WalkSpells
import Derived.WalkLawsBesides
import Derived.BigRegion
import Derived.BigQuiet
import Derived.Deep.QuietTactic
import Derived.Deep.RegionWith
import Derived.Deep.RegionHeld3
namespace Go.Proofs.YtadinjaocnlglaaGreatDoor
open Go.RowKit
theorem ofT_size (kt : Nat → Int) (s : ByteArray) : (ofT kt s).size = 32 := by
  unfold ofT
  rw [strOfNums_size, tl_len]
theorem m_join (v : Value) (w : World) : (method 587 367 v "Join").run Tryz.prog w = .ok (369, v) w := by kernel_rfl
theorem m_empty (v : Value) (w : World) : (method 587 367 v "Empty").run Tryz.prog w = .ok (368, v) w := by kernel_rfl
set_option maxHeartbeats 400000 in
theorem join_any (kt : Nat → Int) (a b : ByteArray) (w : World) (ha : a.size ≤ 35184372088832) (hb : b.size ≤ 35184372088832) (hG : Gd kt w) :
    Calls Tryz.prog 369 #[.string a, .string b] w fun e w' => e = .returned (.string (jn (ofT kt) a b)) ∧ Below w.heap.size w w' := by
  have hs : ((⟨#[1]⟩ : ByteArray) ++ a ++ b).size ≤ 140737488351232 := by
    simp only [ByteArray.size_append]
    have : (⟨#[1]⟩ : ByteArray).size = 1 := rfl
    omega
  have H : Hid _ := of_any kt _ w hs hG.tab hG.one
  clear hG hs
  go_enter Tryz.func369, Tryz.ntmps369
  go_wp2_with fail
  refine Calls.mono H.out ?_
  rintro e w1 ⟨rfl, hB⟩
  go_wp2
  go_ret
  exact ⟨rfl, hB⟩
set_option maxHeartbeats 400000 in
theorem empty_any (kt : Nat → Int) (a : ByteArray) (w : World) (hG : Gd kt w) :
    Calls Tryz.prog 368 #[.string a] w fun e w' => e = .returned (.string (ofT kt ⟨#[]⟩)) ∧ Below w.heap.size w w' := by
  have H : Hid _ := of_any kt ⟨#[]⟩ w (by decide) hG.tab hG.one
  clear hG
  go_enter Tryz.func368, Tryz.ntmps368
  go_wp2_with fail
  refine Calls.mono H.out ?_
  rintro e w1 ⟨rfl, hB⟩
  go_wp2
  go_ret
  exact ⟨rfl, hB⟩
set_option maxHeartbeats 400000 in
theorem halves_any (b o n cap : Nat) (w : World) (h2 : 2 ≤ n) (hn : n ≤ cap) (hc : cap < 9223372036854775808) :
    Calls Tryz.prog 301 #[.slice (some ⟨b, o, none⟩) n cap] w fun e w' => e = .returned (.tuple #[.slice (some ⟨b, o, none⟩) (hf n) cap, .slice (some ⟨b, o + hf n, none⟩) (n - hf n) (cap - hf n)]) ∧ ∃ q, w' = w.drewN q := by
  have H : Hid _ := fun W => leftSize_any n W h2 (by omega)
  have h1 := hf_lt n h2
  obtain ⟨m, hm⟩ : ∃ m, hf n = m := ⟨_, rfl⟩
  rw [hm] at h1 H ⊢
  clear hm
  go_enter Tryz.func301, Tryz.ntmps301
  go_wp2_with fail
  refine (H.out _).mono ?_
  rintro e w' ⟨rfl, rfl⟩
  go_wp2
  go_quiet (fail)
  go_wp2
  go_ret2
  exact ⟨rfl, _, rfl⟩
/-- n cells from o on -/
def Co (w : World) (b o n : Nat) (v : Nat → Value) : Prop := ∀ i, i < n → w.cell? ⟨b, o + i, none⟩ = some (v i)
theorem Co.below {w w' : World} {b o n : Nat} {v : Nat → Value} (h : Co w b o n v) {B : Nat} (hb : Below B w w') (hB : b < B) : Co w' b o n v := fun i hi => (hb.cell (p := ⟨b, o + i, none⟩) hB).trans (h i hi)
theorem Co.lo {w : World} {b o n m : Nat} {v : Nat → Value} (h : Co w b o n v) (hm : m ≤ n) : Co w b o m v := fun i hi => h i (by omega)
theorem Co.hi {w : World} {b o n m : Nat} {L : Nat → ByteArray} (h : Co w b o n (tI L)) (hm : m ≤ n) : Co w b (o + m) (n - m) (tI fun j => L (m + j)) := fun i hi => by
  have := h (m + i) (by omega)
  rw [← Nat.add_assoc] at this
  exact this
theorem Cl.co {w : World} {b n : Nat} {v : Nat → Value} (h : Cl w b n v) : Co w b 0 n v := fun i hi => by rw [Nat.zero_add]; exact h i hi
theorem ofT_le (kt : Nat → Int) (s : ByteArray) : (ofT kt s).size ≤ 35184372088832 := by rw [ofT_size]; omega
set_option maxHeartbeats 1000000 in
theorem ttop_any (kt : Nat → Int) : ∀ (n : Nat) (L : Nat → ByteArray) (b o cap : Nat) (w : World), n ≤ cap → cap < 9223372036854775808 → Gd kt w → b < w.heap.size → (∀ i, i < n → (L i).size ≤ 35184372088832) → Co w b o n (tI L) →
    Calls Tryz.prog 263 #[.slice (some ⟨b, o, none⟩) n cap] w fun e w' => e = .returned (.string (topT (ofT kt) n L)) ∧ Below w.heap.size w w' := by
  intro n
  induction n using Nat.strongRecOn with
  | ind n ih =>
  intro L b o cap w hn hc hG hb hL hC
  by_cases h0 : n = 0
  · subst h0
    have H : Hid _ := fun a => empty_any kt a w hG
    have hm := m_empty
    rw [topT_0]
    clear ih hC hL hG
    go_enter Tryz.func263, Tryz.ntmps263
    go_wp2_with fail
    refine Calls.mono (H.out _) ?_
    rintro e w1 ⟨rfl, hB⟩
    go_wp2
    go_ret
    exact ⟨rfl, hB⟩
  · by_cases h1 : n = 1
    · subst h1
      rw [topT_1]
      have c0 : w.cell? ⟨b, o, none⟩ = some (.string (L 0)) := hC 0 (by omega)
      clear ih hC hL hG
      go_enter Tryz.func263, Tryz.ntmps263
      go_wp2
      go_ret
      exact ⟨rfl, Below.refl _ _⟩
    · have h2 : 2 ≤ n := by omega
      rw [topT_n _ n L h2]
      have e1 := hf_lt n h2
      have e2 := hf_pos n
      have HH : Hid _ := halves_any b o n cap w h2 hn hc
      have H1 : Hid _ := fun W => ih (hf n) e1 L b o cap W (by omega) hc
      have H2 : Hid _ := fun W => ih (n - hf n) (by omega) (fun j => L (hf n + j)) b (o + hf n) (cap - hf n) W (by omega) (by omega)
      have hT1 := topT_le (ofT kt) 35184372088832 (ofT_le kt) (hf n) L (fun i hi => hL i (by omega))
      have hT2 := topT_le (ofT kt) 35184372088832 (ofT_le kt) (n - hf n) (fun j => L (hf n + j)) (fun i hi => hL _ (by omega))
      have HL : Hid _ := hL
      have HC : Hid (Co w b o n (tI L)) := hC
      have HG : Hid _ := hG
      have hm := m_join
      obtain ⟨A, hA⟩ : ∃ A, topT (ofT kt) (hf n) L = A := ⟨_, rfl⟩
      obtain ⟨B, hBB⟩ : ∃ B, topT (ofT kt) (n - hf n) (fun j => L (hf n + j)) = B := ⟨_, rfl⟩
      rw [hA] at hT1 H1 ⊢
      rw [hBB] at hT2 H2 ⊢
      obtain ⟨m, hm2⟩ : ∃ m, hf n = m := ⟨_, rfl⟩
      rw [hm2] at e1 e2 HH H1 H2
      clear ih hC hL hG hA hBB hm2
      go_enter Tryz.func263, Tryz.ntmps263
      go_wp2_with fail
      refine Calls.mono HH.out ?_
      rintro e w1 ⟨rfl, q, hq⟩
      have hz1 : w1.heap.size = w.heap.size := by rw [hq]; rfl
      have hB1 : Below w.heap.size w w1 := by rw [hq]; exact below_drewN (Below.refl _ _) q
      clear hq
      have HB1 : Hid _ := hB1
      have HZ1 : Hid _ := hz1
      clear hB1 hz1
      go_wp2_with fail
      refine Calls.mono (H1.out _ (HG.out.below HB1.out) (by rw [HZ1.out]; exact hb) (fun i hi => HL.out i (by omega)) ((Co.lo HC.out (by omega)).below HB1.out hb)) ?_
      rintro e w2 ⟨rfl, hB2⟩
      have hz2 : w1.heap.size ≤ w2.heap.size := hB2.size
      have hB12 : Below w.heap.size w w2 := HB1.out.trans (by rw [← HZ1.out]; exact hB2)
      have HB2 : Hid _ := hB12
      have hb2 : b < w2.heap.size := by have := HZ1.out; omega
      clear hB2 hz2 hB12
      go_wp2_with fail
      refine Calls.mono (H2.out _ (HG.out.below HB2.out) hb2 (fun i hi => HL.out _ (by omega)) ((Co.hi HC.out (by omega)).below HB2.out hb)) ?_
      rintro e w3 ⟨rfl, hB3⟩
      have hB13 : Below w.heap.size w w3 := HB2.out.trans (hB3.mono HB2.out.size)
      have HB3 : Hid _ := hB13
      clear hB3 hB13
      go_wp2_with fail
      refine (join_any kt A B _ hT1 hT2 (HG.out.below HB3.out)).mono ?_
      rintro e w4 ⟨rfl, hB4⟩
      have hB14 : Below w.heap.size w w4 := HB3.out.trans (hB4.mono HB3.out.size)
      clear hB4
      go_wp2
      go_ret
      exact ⟨rfl, hB14⟩
end Go.Proofs.YtadinjaocnlglaaGreatDoor
