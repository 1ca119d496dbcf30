/-
  The walks of matrix.width, weighted.
-/
import Derived.Test.YtadinjaocnlglaaGreatDoorS5
import Derived.WalkKit
import Derived.WalkSpells
import Derived.WalkLawsBesides
import Derived.BigRegion
import Derived.BigQuiet
import Derived.Deep.QuietTactic
import Derived.Deep.RegionWith
import Derived.Deep.RegionHeld3
namespace Go.Proofs.YtadinjaocnlglaaGreatDoor
open Go.RowKit
set_option maxHeartbeats 400000 in
theorem width_some (b m n cap : Nat) (v : Nat → Value) (w : World) (hm : 0 < m) (hc : Cl w b m v) (hv : v 0 = .slice (some ⟨n, 0, none⟩) cap cap) :
    Calls Tryz.prog 326 #[.slice (some ⟨b, 0, none⟩) m m] w fun e w' => e = .returned (.int .i64 cap) ∧ w' = w := by
  have c0 : w.cell? ⟨b, 0, none⟩ = some (.slice (some ⟨n, 0, none⟩) cap cap) := by rw [hc 0 hm, hv]
  have hne : ((m : Int) == 0) = false := by rw [beq_eq_false_iff_ne]; omega
  have hmm : (0 : Int) < (m : Int) := by omega
  clear hc hv
  go_enter Tryz.func326, Tryz.ntmps326
  go_wp2
  go_ret
  exact ⟨rfl, rfl⟩
/-- the sum over the first k rows, at the place j -/
def sm (u : Nat → Nat) (V : Nat → Nat → Nat) (j : Nat) : Nat → Nat
  | 0 => 0
  | k + 1 => sm u V j k ^^^ gm (u k) (V k j)
theorem sm_lt (u : Nat → Nat) (V : Nat → Nat → Nat) (j : Nat) (hu : ∀ i, u i < 256) : ∀ k, sm u V j k < 256
  | 0 => by show 0 < 256; omega
  | k + 1 => Nat.xor_lt_two_pow (n := 8) (sm_lt u V j hu k) (gm_lt _ _ (hu k))
/-- a matrix of r rows, c wide -/
structure Mat (w : World) (b r c : Nat) (V : Nat → Nat → Nat) (G : Nat → Nat) : Prop where
  top : Cl w b r (fun i => .slice (some ⟨G i, 0, none⟩) c c)
  lt : b < w.heap.size
  rows : ∀ i, i < r → Cl w (G i) c (nb (V i)) ∧ G i < w.heap.size
theorem Mat.below {w w' : World} {b r c : Nat} {V : Nat → Nat → Nat} {G : Nat → Nat} (h : Mat w b r c V G) (hb : Below w.heap.size w w') : Mat w' b r c V G :=
  ⟨h.top.below hb h.lt, Nat.lt_of_lt_of_le h.lt hb.size, fun i hi => ⟨(h.rows i hi).1.below hb (h.rows i hi).2, Nat.lt_of_lt_of_le (h.rows i hi).2 hb.size⟩⟩
/-- the row of sums: those ahead of j over one row more -/
def smr (u : Nat → Nat) (V : Nat → Nat → Nat) (k j : Nat) : Nat → Value := fun l => .int .u8 (((if l < j then sm u V l (k + 1) else sm u V l k) : Nat) : Int)
theorem smr_step (u : Nat → Nat) (V : Nat → Nat → Nat) (k j l : Nat) : updV (smr u V k j) j (.int .u8 ((sm u V j k ^^^ gm (u k) (V k j) : Nat) : Int)) l = smr u V k (j + 1) l := by
  simp only [updV, smr]
  by_cases h : l = j
  · rw [if_pos h, if_pos (by omega), h]; rfl
  · rw [if_neg h]
    by_cases h2 : l < j
    · rw [if_pos h2, if_pos (by omega)]
    · rw [if_neg h2, if_neg (by omega)]
set_option maxHeartbeats 1000000 in
set_option maxRecDepth 100000 in
theorem weighted_any (u : Nat → Nat) (V : Nat → Nat → Nat) (G : Nat → Nat) (b r c b2 cap2 : Nat) (w : World) (hr0 : 0 < r) (hr : r ≤ 1000) (hcc : c ≤ 140737488351232) (hu : ∀ i, u i < 256) (hV : ∀ i j, V i j < 256) (hM : Mat w b r c V G) (hb2 : b2 < w.heap.size) (hc : Cl w b2 r (nb u)) :
    Calls Tryz.prog 306 #[.slice (some ⟨b, 0, none⟩) r r, .slice (some ⟨b2, 0, none⟩) r cap2] w fun e w' => e = .returned (.slice (some ⟨w.heap.size, 0, none⟩) c c) ∧ Rw w' w.heap.size c 393 (nb fun j => sm u V j r) ∧ Below w.heap.size w w' := by
  have HM : Hid _ := hM
  have HC : Hid _ := hc
  have HU : Hid _ := hu
  have HV : Hid _ := hV
  clear hM hc hu hV
  have hmk := run_make_row' (P := Tryz.prog) 390 393 (.int .u8 0) 1 Tryz.underlying390 info56 rfl .i64 .i64 c (by omega) (by omega)
  have hm1 := m_plus
  have hm2 := m_times
  go_enter Tryz.func306, Tryz.ntmps306
  go_wp2_with (go_at_call 326; refine (width_some b r (G 0) c _ _ hr0 (Mat.top HM.out) rfl).mono ?_; rintro e w' ⟨rfl, rfl⟩)
  go_loopw [15] (fun iv wr => ∃ i : Nat, i ≤ r ∧ iv = .int .i64 i ∧ Below w'.heap.size w' wr ∧ Rw wr w'.heap.size c 393 (smr u V i 0)) (fun iv _ => r - (intOf iv).toNat)
  case atStart => exact ⟨0, by omega, rfl, (Below.refl _ _).alloc (Nat.le_refl _) _, (Rw.made w' c 393 (.int .u8 0)).to (fun j _ => by simp only [smr]; rw [if_neg (by omega)]; rfl)⟩
  case round =>
    obtain ⟨i, hi, rfl, hb, hR⟩ := hrel
    by_cases hlt : i < r
    · have hMr := Mat.below HM.out hb
      have c1 := hMr.top i hlt
      have c2 : wr.cell? ⟨b2, i, none⟩ = some (.int .u8 ((u i : Nat) : Int)) := Cl.below HC.out hb hb2 i hlt
      have hGi := (Mat.rows HM.out i hlt).2
      have hrow := (Mat.rows HM.out i hlt).1
      have HR : Hid _ := hrow
      clear hrow hMr
      go_wp2
      go_loopw [22] (fun jv wr => ∃ j : Nat, j ≤ c ∧ jv = .int .i64 j ∧ Below w'.heap.size w' wr ∧ Rw wr w'.heap.size c 393 (smr u V i j)) (fun jv _ => c - (intOf jv).toNat)
      case atStart => exact ⟨0, by omega, rfl, hb, hR⟩
      case round =>
        clear hb hR c1 c2
        obtain ⟨j, hj, rfl, hb, hR⟩ := hrel
        by_cases hlj : j < c
        · have c1 : wr.cell? ⟨G i, j, none⟩ = some (.int .u8 ((V i j : Nat) : Int)) := Cl.below HR.out hb hGi j hlj
          have c2 : wr.cell? ⟨b2, i, none⟩ = some (.int .u8 ((u i : Nat) : Int)) := Cl.below HC.out hb hb2 i hlt
          have c3 : wr.cell? ⟨w'.heap.size, j, none⟩ = some (.int .u8 ((sm u V j i : Nat) : Int)) := by
            rw [hR.cell j hlj]; simp only [smr]; rw [if_neg (by omega)]
          have c4 := hR.free j
          have h1 := HU.out i
          have h2 := HV.out i j
          have h3 := sm_lt u V j HU.out i
          have h4 := gm_lt (u i) (V i j) h1
          have hj0 : (0 : Int) ≤ (j : Int) := by omega
          have hj8 : (j : Int) < (c : Int) := by omega
          have hi0 : (0 : Int) ≤ (i : Int) := by omega
          have hi8 : (i : Int) < (r : Int) := by omega
          go_wp2
          go_region_with (first | (go_at_call 385; refine (times_any (u i) (V i j) _ h1 h2).mono ?_; rintro e w' ⟨rfl, rfl⟩) | (go_at_call 384; refine (plus_any (sm u V j i) (gm (u i) (V i j)) _ h3 h4).mono ?_; rintro e w' ⟨rfl, rfl⟩))
          all_goals
            go_wp2
            go_roundw
            case rel => exact ⟨j + 1, by omega, by go_num, (hb.setCell (Nat.le_refl _) _).drew, ((hR.put j _).drew).to (fun l _ => smr_step u V i j l)⟩
            case measure => simp [intOf]; omega
        · have e : j = c := by omega
          subst e
          go_wp2
          go_roundw
          case rel => exact ⟨i + 1, by omega, by go_num, hb, hR.to (fun l hl => by simp only [smr]; rw [if_pos hl, if_neg (by omega)])⟩
          case measure => simp [intOf]; omega
    · have e : i = r := by omega
      subst e
      go_wp2
      go_ret
      exact ⟨rfl, hR.to (fun l hl => by simp only [smr, nb]; rw [if_neg (by omega)]), hb⟩
end Go.Proofs.YtadinjaocnlglaaGreatDoor
