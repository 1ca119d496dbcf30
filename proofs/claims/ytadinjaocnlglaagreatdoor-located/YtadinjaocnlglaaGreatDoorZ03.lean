/-
  The walk of matrix.lagrangeScales.
  The walks of matrix.width, weighted.
  The walk of matrix.Interpolation.
  The walk of Matrix.Times.
  The walk of stripe.values.
  The walks of stripe.CheckParams and parity, where nothing is refused.
  The walk of strings.Clone.
  The walks of pick, sameTexts.
-/
import Derived.Test.YtadinjaocnlglaaGreatDoorZ02
import Derived.WalkKit
import Derived.WalkSpells
import Derived.WalkLawsBesides
import Derived.BigRegion
import Derived.BigQuiet
import Derived.Deep.QuietTactic
import Derived.Deep.RegionWith
import Derived.Deep.RegionHeld3
import Derived.Lib.UnsafeStr
import Derived.Lib.BufferWrite
import Derived.Lib.Strings
namespace Go.Proofs.YtadinjaocnlglaaGreatDoor
open Go.RowKit
/-- the height of the i-th point's polynomial at it, over the first k points -/
def hgt (p : Nat → Nat) (i : Nat) : Nat → Nat
  | 0 => 1
  | k + 1 => if k = i then hgt p i k else gm (hgt p i k) (p i ^^^ p k)
theorem hgt_lt (p : Nat → Nat) (i : Nat) : ∀ k, hgt p i k < 256
  | 0 => by show 1 < 256; omega
  | k + 1 => by
    rw [hgt]
    split
    · exact hgt_lt p i k
    · exact gm_lt _ _ (hgt_lt p i k)
def scl (p : Nat → Nat) (n i : Nat) : Nat := gm 1 (gi (hgt p i n))
set_option maxHeartbeats 1000000 in
theorem scales_any (p : Nat → Nat) (b n cap : Nat) (w : World) (hn : n ≤ 1000) (hp : ∀ i, i < n → p i < 256) (hb0 : b < w.heap.size) (hc : Cl w b n (nb p)) :
    Calls Tryz.prog 303 #[.slice (some ⟨b, 0, none⟩) n cap] w fun e w' => e = .returned (.slice (some ⟨w.heap.size, 0, none⟩) n n) ∧ Rw w' w.heap.size n 393 (nb (scl p n)) ∧ Below w.heap.size w w' := by
  have HC : Hid _ := hc
  have HP : Hid _ := hp
  clear hc hp
  have hmk := run_make_row' (P := Tryz.prog) 390 393 (.int .u8 0) 1 Tryz.underlying390 info56 rfl .i64 .i64 n (by omega) (by omega)
  have hm1 := m_one
  have hm2 := m_times
  have hm3 := m_minus
  have hm4 := m_over
  go_enter Tryz.func303, Tryz.ntmps303
  go_wp2
  go_loopw [14] (fun i wr => ∃ k : Nat, k ≤ n ∧ i = .int .i64 k ∧ Below w.heap.size w wr ∧ Rw wr w.heap.size n 393 (part' k (nb (scl p n)) (.int .u8 0))) (fun i _ => n - (intOf i).toNat)
  case atStart => exact ⟨0, by omega, rfl, (Below.refl _ _).alloc (Nat.le_refl _) _, (Rw.made w n 393 (.int .u8 0)).to (fun j _ => (part_0 _ _ j).symm)⟩
  case round =>
    obtain ⟨i, hi, rfl, hb, hR⟩ := hrel
    by_cases hlt : i < n
    · have c1 := hR.cell i hlt
      have c2 := hR.free i
      have c3 : wr.cell? ⟨b, i, none⟩ = some (.int .u8 ((p i : Nat) : Int)) := Cl.below HC.out hb hb0 i hlt
      have hpi := HP.out i hlt
      go_wp2_with (go_at_call 382; refine (one_any _ _).mono ?_; rintro e w' ⟨rfl, rfl⟩)
      go_loop [24, 6] (fun j v => ∃ k : Nat, k ≤ n ∧ j = .int .i64 k ∧ v = .int .u8 ((hgt p i k : Nat) : Int)) (fun j _ => n - (intOf j).toNat)
      case atStart => exact ⟨0, by omega, rfl, rfl⟩
      case round =>
        obtain ⟨k, hk, rfl, rfl⟩ := hrel
        by_cases hlk : k < n
        · have c4 : w'.cell? ⟨b, k, none⟩ = some (.int .u8 ((p k : Nat) : Int)) := Cl.below HC.out hb hb0 k hlk
          have hpk := HP.out k hlk
          have hhk := hgt_lt p i k
          have hxx : p i ^^^ p k < 256 := Nat.xor_lt_two_pow (n := 8) hpi hpk
          by_cases hki : k = i
          · have hne : ((k : Int) != (i : Int)) = false := by rw [bne_eq_false_iff_eq]; omega
            go_wp2
            go_round
            case rel => exact ⟨k + 1, by omega, by go_num, by rw [hgt, if_pos hki]⟩
            case measure => simp [intOf]; omega
          · have hne : ((k : Int) != (i : Int)) = true := by rw [bne_iff_ne]; omega
            go_wp2_with (first | (go_at_call 381; refine (minus_any (p i) (p k) _ hpi hpk).mono ?_; rintro e w' ⟨rfl, rfl⟩) | (go_at_call 385; refine (times_any (hgt p i k) (p i ^^^ p k) _ hhk hxx).mono ?_; rintro e w' ⟨rfl, rfl⟩))
            go_round
            case rel => exact ⟨k + 1, by omega, by go_num, by rw [hgt, if_neg hki]⟩
            case measure => simp [intOf]; omega
        · have e : k = n := by omega
          subst e
          have hhk := hgt_lt p i k
          go_wp2_with (first | (go_at_call 382; refine (one_any _ _).mono ?_; rintro e w' ⟨rfl, rfl⟩) | (go_at_call 383; refine (over_any 1 (hgt p i k) _ (by omega) hhk).mono ?_; rintro e w' ⟨rfl, rfl⟩))
          go_roundw
          case rel => exact ⟨i + 1, by omega, by go_num, hb.setCell (Nat.le_refl _) _, (hR.put i _).to (fun j _ => by rw [← part_step]; rfl)⟩
          case measure => simp [intOf]; omega
    · have e : i = n := by omega
      subst e
      go_wp2
      go_ret
      exact ⟨rfl, hR.to (fun j hj => by simp [part', hj]), hb⟩
end Go.Proofs.YtadinjaocnlglaaGreatDoor
namespace Go.Proofs.YtadinjaocnlglaaGreatDoor
open Go.RowKit
set_option maxHeartbeats 400000 in
theorem width_some (b m n cap : Nat) (v : Nat → Value) (w : World) (hm : 0 < m) (hc : Cl w b m v) (hv : v 0 = .slice (some ⟨n, 0, none⟩) cap cap) :
    Calls Tryz.prog 326 #[.slice (some ⟨b, 0, none⟩) m m] w fun e w' => e = .returned (.int .i64 cap) ∧ w' = w := by
  have c0 : w.cell? ⟨b, 0, none⟩ = some (.slice (some ⟨n, 0, none⟩) cap cap) := by rw [hc 0 hm, hv]
  have hne : ((m : Int) == 0) = false := by rw [beq_eq_false_iff_ne]; omega
  have hmm : (0 : Int) < (m : Int) := by omega
  clear hc hv
  go_enter Tryz.func326, Tryz.ntmps326
  go_wp2
  go_ret
  exact ⟨rfl, rfl⟩
/-- the sum over the first k rows, at the place j -/
def sm (u : Nat → Nat) (V : Nat → Nat → Nat) (j : Nat) : Nat → Nat
  | 0 => 0
  | k + 1 => sm u V j k ^^^ gm (u k) (V k j)
theorem sm_lt (u : Nat → Nat) (V : Nat → Nat → Nat) (j : Nat) (hu : ∀ i, u i < 256) : ∀ k, sm u V j k < 256
  | 0 => by show 0 < 256; omega
  | k + 1 => Nat.xor_lt_two_pow (n := 8) (sm_lt u V j hu k) (gm_lt _ _ (hu k))
/-- a matrix of r rows, c wide -/
structure Mat (w : World) (b r c : Nat) (V : Nat → Nat → Nat) (G : Nat → Nat) : Prop where
  top : Cl w b r (fun i => .slice (some ⟨G i, 0, none⟩) c c)
  lt : b < w.heap.size
  rows : ∀ i, i < r → Cl w (G i) c (nb (V i)) ∧ G i < w.heap.size
theorem Mat.below {w w' : World} {b r c : Nat} {V : Nat → Nat → Nat} {G : Nat → Nat} (h : Mat w b r c V G) (hb : Below w.heap.size w w') : Mat w' b r c V G :=
  ⟨h.top.below hb h.lt, Nat.lt_of_lt_of_le h.lt hb.size, fun i hi => ⟨(h.rows i hi).1.below hb (h.rows i hi).2, Nat.lt_of_lt_of_le (h.rows i hi).2 hb.size⟩⟩
/-- the row of sums: those ahead of j over one row more -/
def smr (u : Nat → Nat) (V : Nat → Nat → Nat) (k j : Nat) : Nat → Value := fun l => .int .u8 (((if l < j then sm u V l (k + 1) else sm u V l k) : Nat) : Int)
theorem smr_step (u : Nat → Nat) (V : Nat → Nat → Nat) (k j l : Nat) : updV (smr u V k j) j (.int .u8 ((sm u V j k ^^^ gm (u k) (V k j) : Nat) : Int)) l = smr u V k (j + 1) l := by
  simp only [updV, smr]
  by_cases h : l = j
  · rw [if_pos h, if_pos (by omega), h]; rfl
  · rw [if_neg h]
    by_cases h2 : l < j
    · rw [if_pos h2, if_pos (by omega)]
    · rw [if_neg h2, if_neg (by omega)]
set_option maxHeartbeats 1000000 in
set_option maxRecDepth 100000 in
theorem weighted_any (u : Nat → Nat) (V : Nat → Nat → Nat) (G : Nat → Nat) (b r c b2 cap2 : Nat) (w : World) (hr0 : 0 < r) (hr : r ≤ 1000) (hcc : c ≤ 140737488351232) (hu : ∀ i, u i < 256) (hV : ∀ i j, V i j < 256) (hM : Mat w b r c V G) (hb2 : b2 < w.heap.size) (hc : Cl w b2 r (nb u)) :
    Calls Tryz.prog 306 #[.slice (some ⟨b, 0, none⟩) r r, .slice (some ⟨b2, 0, none⟩) r cap2] w fun e w' => e = .returned (.slice (some ⟨w.heap.size, 0, none⟩) c c) ∧ Rw w' w.heap.size c 393 (nb fun j => sm u V j r) ∧ Below w.heap.size w w' := by
  have HM : Hid _ := hM
  have HC : Hid _ := hc
  have HU : Hid _ := hu
  have HV : Hid _ := hV
  clear hM hc hu hV
  have hmk := run_make_row' (P := Tryz.prog) 390 393 (.int .u8 0) 1 Tryz.underlying390 info56 rfl .i64 .i64 c (by omega) (by omega)
  have hm1 := m_plus
  have hm2 := m_times
  go_enter Tryz.func306, Tryz.ntmps306
  go_wp2_with (go_at_call 326; refine (width_some b r (G 0) c _ _ hr0 (Mat.top HM.out) rfl).mono ?_; rintro e w' ⟨rfl, rfl⟩)
  go_loopw [15] (fun iv wr => ∃ i : Nat, i ≤ r ∧ iv = .int .i64 i ∧ Below w'.heap.size w' wr ∧ Rw wr w'.heap.size c 393 (smr u V i 0)) (fun iv _ => r - (intOf iv).toNat)
  case atStart => exact ⟨0, by omega, rfl, (Below.refl _ _).alloc (Nat.le_refl _) _, (Rw.made w' c 393 (.int .u8 0)).to (fun j _ => by simp only [smr]; rw [if_neg (by omega)]; rfl)⟩
  case round =>
    obtain ⟨i, hi, rfl, hb, hR⟩ := hrel
    by_cases hlt : i < r
    · have hMr := Mat.below HM.out hb
      have c1 := hMr.top i hlt
      have c2 : wr.cell? ⟨b2, i, none⟩ = some (.int .u8 ((u i : Nat) : Int)) := Cl.below HC.out hb hb2 i hlt
      have hGi := (Mat.rows HM.out i hlt).2
      have hrow := (Mat.rows HM.out i hlt).1
      have HR : Hid _ := hrow
      clear hrow hMr
      go_wp2
      go_loopw [22] (fun jv wr => ∃ j : Nat, j ≤ c ∧ jv = .int .i64 j ∧ Below w'.heap.size w' wr ∧ Rw wr w'.heap.size c 393 (smr u V i j)) (fun jv _ => c - (intOf jv).toNat)
      case atStart => exact ⟨0, by omega, rfl, hb, hR⟩
      case round =>
        clear hb hR c1 c2
        obtain ⟨j, hj, rfl, hb, hR⟩ := hrel
        by_cases hlj : j < c
        · have c1 : wr.cell? ⟨G i, j, none⟩ = some (.int .u8 ((V i j : Nat) : Int)) := Cl.below HR.out hb hGi j hlj
          have c2 : wr.cell? ⟨b2, i, none⟩ = some (.int .u8 ((u i : Nat) : Int)) := Cl.below HC.out hb hb2 i hlt
          have c3 : wr.cell? ⟨w'.heap.size, j, none⟩ = some (.int .u8 ((sm u V j i : Nat) : Int)) := by
            rw [hR.cell j hlj]; simp only [smr]; rw [if_neg (by omega)]
          have c4 := hR.free j
          have h1 := HU.out i
          have h2 := HV.out i j
          have h3 := sm_lt u V j HU.out i
          have h4 := gm_lt (u i) (V i j) h1
          have hj0 : (0 : Int) ≤ (j : Int) := by omega
          have hj8 : (j : Int) < (c : Int) := by omega
          have hi0 : (0 : Int) ≤ (i : Int) := by omega
          have hi8 : (i : Int) < (r : Int) := by omega
          go_wp2
          go_region_with (first | (go_at_call 385; refine (times_any (u i) (V i j) _ h1 h2).mono ?_; rintro e w' ⟨rfl, rfl⟩) | (go_at_call 384; refine (plus_any (sm u V j i) (gm (u i) (V i j)) _ h3 h4).mono ?_; rintro e w' ⟨rfl, rfl⟩))
          all_goals
            go_wp2
            go_roundw
            case rel => exact ⟨j + 1, by omega, by go_num, (hb.setCell (Nat.le_refl _) _).drew, ((hR.put j _).drew).to (fun l _ => smr_step u V i j l)⟩
            case measure => simp [intOf]; omega
        · have e : j = c := by omega
          subst e
          go_wp2
          go_roundw
          case rel => exact ⟨i + 1, by omega, by go_num, hb, hR.to (fun l hl => by simp only [smr]; rw [if_pos hl, if_neg (by omega)])⟩
          case measure => simp [intOf]; omega
    · have e : i = r := by omega
      subst e
      go_wp2
      go_ret
      exact ⟨rfl, hR.to (fun l hl => by simp only [smr, nb]; rw [if_neg (by omega)]), hb⟩
end Go.Proofs.YtadinjaocnlglaaGreatDoor
namespace Go.Proofs.YtadinjaocnlglaaGreatDoor
open Go.RowKit
/-- the weight of the j-th of n points at x -/
def wt (p : Nat → Nat) (n x j : Nat) : Nat := gm (oth (fun l => x ^^^ p l) n j) (scl p n j)
theorem oth_lt (f : Nat → Nat) (n j : Nat) : oth f n j < 256 := gm_lt _ _ (ahd_lt f j)
theorem scl_lt (p : Nat → Nat) (n j : Nat) : scl p n j < 256 := gm_lt _ _ (by omega)
theorem wt_lt (p : Nat → Nat) (n x j : Nat) : wt p n x j < 256 := gm_lt _ _ (oth_lt _ n j)
/-- k rows of a matrix of m rows, n wide, are in place; its rows lie from B on -/
structure MatP (w : World) (B g m k n : Nat) (V : Nat → Nat → Nat) (G : Nat → Nat) : Prop where
  top : Rw w g m 390 (part' k (fun i => .slice (some ⟨G i, 0, none⟩) n n) (.slice none 0 0))
  rows : ∀ i, i < k → B ≤ G i ∧ G i ≠ g ∧ Rw w (G i) n 393 (nb (V i))
theorem MatP.below {w w' : World} {B g m k n : Nat} {V : Nat → Nat → Nat} {G : Nat → Nat} (h : MatP w B g m k n V G) (hb : Below w.heap.size w w') : MatP w' B g m k n V G :=
  ⟨h.top.below hb h.top.lt, fun i hi => ⟨(h.rows i hi).1, (h.rows i hi).2.1, (h.rows i hi).2.2.below hb (h.rows i hi).2.2.lt⟩⟩
/-- the row whose first j weights are whole -/
def half (p : Nat → Nat) (n x j : Nat) : Nat → Value := fun l => .int .u8 (((if l < j then wt p n x l else oth (fun l => x ^^^ p l) n l) : Nat) : Int)
theorem half_step (p : Nat → Nat) (n x j l : Nat) : updV (half p n x j) j (.int .u8 ((gm (oth (fun l => x ^^^ p l) n j) (scl p n j) : Nat) : Int)) l = half p n x (j + 1) l := by
  simp only [updV, half]
  by_cases h : l = j
  · rw [if_pos h, if_pos (by omega), h]; rfl
  · rw [if_neg h]
    by_cases h2 : l < j
    · rw [if_pos h2, if_pos (by omega)]
    · rw [if_neg h2, if_neg (by omega)]
set_option maxHeartbeats 1000000 in
set_option maxRecDepth 100000 in
theorem interp_any (p q : Nat → Nat) (b n cap b2 m cap2 : Nat) (w : World) (hn : n ≤ 1000) (hm : m ≤ 1000) (hp : ∀ i, i < n → p i < 256) (hq : ∀ i, i < m → q i < 256) (hb0 : b < w.heap.size) (hb2 : b2 < w.heap.size) (hc : Cl w b n (nb p)) (hd : Cl w b2 m (nb q)) :
    Calls Tryz.prog 271 #[.slice (some ⟨b, 0, none⟩) n cap, .slice (some ⟨b2, 0, none⟩) m cap2] w fun e w' => ∃ g G, e = .returned (.slice (some ⟨g, 0, none⟩) m m) ∧ w.heap.size ≤ g ∧ MatP w' w.heap.size g m m n (fun i => wt p n (q i)) G ∧ Below w.heap.size w w' := by
  have HC : Hid _ := hc
  have HD : Hid _ := hd
  have HP : Hid _ := hp
  have HQ : Hid _ := hq
  clear hc hp hd hq
  have hmk := run_make_row' (P := Tryz.prog) 389 390 (.slice none 0 0) 24 Tryz.underlying389 info53 rfl .i64 .i64 m (by omega) (by omega)
  have hm2 := m_times
  go_enter Tryz.func271, Tryz.ntmps271
  go_wp2_with (go_at_call 303; refine (scales_any p b n cap _ hn HP.out hb0 HC.out).mono ?_; rintro e w1 ⟨rfl, hS1, hB1⟩)
  have hg0 : w.heap.size < w1.heap.size := hS1.lt
  obtain ⟨g, hg⟩ : ∃ g, g = w1.heap.size := ⟨_, rfl⟩
  rw [← hg]
  have hM0 : MatP (w1.alloc (.cells (madeCells #[.slice none 0 0] m) 390)) w.heap.size g m 0 n (fun i => wt p n (q i)) (fun _ => 0) := by
    rw [hg]; exact ⟨(Rw.made w1 m 390 (.slice none 0 0)).to (fun j _ => (part_0 _ _ j).symm), fun i hi => by omega⟩
  have hS0 : Rw (w1.alloc (.cells (madeCells #[.slice none 0 0] m) 390)) w.heap.size n 393 (nb (scl p n)) := hS1.alloc _
  have hB0 : Below w.heap.size w (w1.alloc (.cells (madeCells #[.slice none 0 0] m) 390)) := hB1.alloc (by omega) _
  have hgw : w.heap.size < g := by omega
  clear hS1 hB1 hg hg0
  go_loopw [17] (fun iv wr => ∃ i G, i ≤ m ∧ iv = .int .i64 (i : Nat) ∧ MatP wr w.heap.size g m i n (fun i => wt p n (q i)) G ∧ Rw wr w.heap.size n 393 (nb (scl p n)) ∧ Below w.heap.size w wr) (fun iv _ => m - (intOf iv).toNat)
  case atStart => exact ⟨0, _, by omega, rfl, hM0, hS0, hB0⟩
  case round =>
    clear hM0 hS0 hB0
    obtain ⟨i, G, hi, rfl, hM, hS, hb⟩ := hrel
    by_cases hlt : i < m
    · have c1 : wr.cell? ⟨b2, i, none⟩ = some (.int .u8 ((q i : Nat) : Int)) := Cl.below HD.out hb hb2 i hlt
      have hqi := HQ.out i hlt
      have hCr : Cl wr b n (nb p) := Cl.below HC.out hb hb0
      have hbr : b < wr.heap.size := Nat.lt_of_lt_of_le hb0 hb.size
      have HCr : Hid _ := hCr
      clear hCr
      go_wp2_with fail
      refine (differences_any (q i) p b n cap wr hqi hn HP.out hbr HCr.out).mono ?_
      rintro e w3 ⟨rfl, hD3, hB3⟩
      go_wp2_with fail
      refine (others_any (fun l => q i ^^^ p l) wr.heap.size n n w3 hn (fun l hl => Nat.xor_lt_two_pow (n := 8) hqi (HP.out l hl)) hD3.lt hD3.cl).mono ?_
      rintro e w4 ⟨rfl, hO4, hB4⟩
      have hM4 := (hM.below hB3).below hB4
      have hS4 := (hS.below hB3 hS.lt).below hB4 (Nat.lt_of_lt_of_le hS.lt hB3.size)
      have hbb4 := (hb.trans (hB3.mono hb.size)).trans (hB4.mono (Nat.le_trans hb.size hB3.size))
      have hgo : g < w3.heap.size := Nat.lt_of_lt_of_le hM.top.lt hB3.size
      have hSo : w.heap.size < w3.heap.size := Nat.lt_of_lt_of_le hS.lt hB3.size
      have hGo : ∀ i', i' < i → G i' < w3.heap.size := fun i' h' => Nat.lt_of_lt_of_le (hM.rows i' h').2.2.lt hB3.size
      have c2 := hM4.top.cell i hlt
      have c3 := hM4.top.free i
      obtain ⟨o, ho⟩ : ∃ o, o = w3.heap.size := ⟨_, rfl⟩
      rw [← ho] at hO4 hgo hSo hGo ⊢
      clear ho hD3 hB3 hB4 hM hS hb
      go_wp2
      obtain ⟨w5, hw5⟩ : ∃ w5, w5 = w4.setCell ⟨g, i, none⟩ (Value.slice (some ⟨o, 0, none⟩) n n) := ⟨_, rfl⟩
      rw [← hw5]
      have hO5 : Rw w5 o n 393 (half p n (q i) 0) := by rw [hw5]; exact (hO4.other _ _ (by simp; omega)).to (fun j _ => by simp only [half, nb]; rw [if_neg (by omega)])
      have hS5 : Rw w5 w.heap.size n 393 (nb (scl p n)) := by rw [hw5]; exact hS4.other _ _ (by simp; omega)
      have hB5 : Below w.heap.size w w5 := by rw [hw5]; exact hbb4.setCell (by simp; omega) _
      have hT5 : Rw w5 g m 390 (part' (i + 1) (fun i' => .slice (some ⟨(if i' = i then o else G i'), 0, none⟩) n n) (.slice none 0 0)) := by
        rw [hw5]
        refine (hM4.top.put i _).to (fun j _ => ?_)
        rw [← part_step]
        simp only [updV, part']
        by_cases h : j = i
        · simp [h]
        · by_cases h2 : j < i
          · simp [h, h2]
          · simp [h, h2]
      have hG5 : ∀ i', i' < i → w.heap.size ≤ G i' ∧ G i' ≠ g ∧ Rw w5 (G i') n 393 (nb (wt p n (q i'))) := fun i' h' => ⟨(hM4.rows i' h').1, (hM4.rows i' h').2.1, by rw [hw5]; exact (hM4.rows i' h').2.2.other _ _ (by simpa using (hM4.rows i' h').2.1)⟩
      have HG5 : Hid _ := hG5
      have HGo : Hid _ := hGo
      clear hw5 hO4 hS4 hbb4 hM4 c1 c2 c3 hG5 hGo
      go_loopw [34] (fun jv wr => ∃ j : Nat, j ≤ n ∧ jv = .int .i64 j ∧ Below o w5 wr ∧ Rw wr o n 393 (half p n (q i) j)) (fun jv _ => n - (intOf jv).toNat)
      case atStart => exact ⟨0, by omega, rfl, Below.refl _ _, hO5⟩
      case round =>
        clear hO5
        obtain ⟨j, hj, rfl, hbo, hO⟩ := hrel
        by_cases hlj : j < n
        · have c1 : wr.cell? ⟨g, i, none⟩ = some (.slice (some ⟨o, 0, none⟩) n n) := by
            rw [(hT5.below hbo hgo).cell i hlt]; simp [part']
          have c2 : wr.cell? ⟨o, j, none⟩ = some (.int .u8 ((oth (fun l => q i ^^^ p l) n j : Nat) : Int)) := by
            rw [hO.cell j hlj]; simp only [half]; rw [if_neg (by omega)]
          have c3 : wr.cell? ⟨w.heap.size, j, none⟩ = some (.int .u8 ((scl p n j : Nat) : Int)) := (hS5.below hbo hSo).cell j hlj
          have c4 := hO.free j
          have h1 := oth_lt (fun l => q i ^^^ p l) n j
          have h2 := scl_lt p n j
          have hj0 : (0 : Int) ≤ (j : Int) := by omega
          have hj8 : (j : Int) < (n : Int) := by omega
          have hi0 : (0 : Int) ≤ (i : Int) := by omega
          have hi8 : (i : Int) < (m : Int) := by omega
          obtain ⟨u, hu⟩ : ∃ u, u = oth (fun l => q i ^^^ p l) n j := ⟨_, rfl⟩
          obtain ⟨v, hv⟩ : ∃ v, v = scl p n j := ⟨_, rfl⟩
          rw [← hu] at c2 h1
          rw [← hv] at c3 h2
          have HU : Hid _ := hu
          have HV : Hid _ := hv
          clear hu hv
          go_wp2
          go_region_with (go_at_call 385; refine (times_any u v _ h1 h2).mono ?_; rintro e w' ⟨rfl, rfl⟩)
          all_goals
            go_wp2
            go_roundw
            case rel => exact ⟨j + 1, by omega, by go_num, (hbo.setCell (Nat.le_refl _) _).drew, ((hO.put j _).drew).to (fun l _ => by rw [← half_step, ← HU.out, ← HV.out])⟩
            case measure => simp [intOf]; omega
        · have e : j = n := by omega
          subst e
          go_wp2
          go_roundw
          case rel =>
            refine ⟨i + 1, fun i' => if i' = i then o else G i', by omega, by go_num, ⟨hT5.below hbo hgo, fun i' h' => ?_⟩, hS5.below hbo hSo, hB5.trans (hbo.mono (by omega))⟩
            by_cases h : i' = i
            · subst h
              simp only [if_true]
              exact ⟨by omega, by omega, hO.to (fun l hl => by simp only [half, nb]; rw [if_pos hl])⟩
            · have hl : i' < i := by omega
              simp only [if_neg h]
              exact ⟨(HG5.out i' hl).1, (HG5.out i' hl).2.1, (HG5.out i' hl).2.2.below hbo (HGo.out i' hl)⟩
          case measure => simp [intOf]; omega
    · have e : i = m := by omega
      subst e
      go_wp2
      go_ret
      exact ⟨g, G, rfl, by omega, hM, hb⟩
end Go.Proofs.YtadinjaocnlglaaGreatDoor
namespace Go.Proofs.YtadinjaocnlglaaGreatDoor
open Go.RowKit
theorem MatP.mat {w : World} {B g m n : Nat} {V : Nat → Nat → Nat} {G : Nat → Nat} (h : MatP w B g m m n V G) : Mat w g m n V G :=
  ⟨fun i hi => by rw [h.top.cell i hi]; simp [part', hi], h.top.lt, fun i hi => ⟨(h.rows i hi).2.2.cl, (h.rows i hi).2.2.lt⟩⟩
/-- one row more -/
theorem MatP.step {w w2 : World} {B g m k n : Nat} {V : Nat → Nat → Nat} {G : Nat → Nat} (h : MatP w B g m k n V G) (hb : Below w.heap.size w w2) (o : Nat) (ho : w.heap.size ≤ o) (hB : B ≤ w.heap.size) (hr : Rw w2 o n 393 (nb (V k))) :
    MatP (w2.setCell ⟨g, k, none⟩ (.slice (some ⟨o, 0, none⟩) n n)) B g m (k + 1) n V (fun i => if i = k then o else G i) := by
  have hgl := h.top.lt
  refine ⟨?_, fun i hi => ?_⟩
  · refine ((h.top.below hb hgl).put k _).to (fun j _ => ?_)
    rw [← part_step]
    simp only [updV, part']
    by_cases e : j = k
    · simp [e]
    · by_cases e2 : j < k
      · simp [e, e2]
      · simp [e, e2]
  · by_cases e : i = k
    · subst e
      simp only [if_true]
      exact ⟨by omega, by omega, hr.other _ _ (by simp; omega)⟩
    · have hl : i < k := by omega
      simp only [if_neg e]
      exact ⟨(h.rows i hl).1, (h.rows i hl).2.1, ((h.rows i hl).2.2.below hb (h.rows i hl).2.2.lt).other _ _ (by simpa using (h.rows i hl).2.1)⟩
set_option maxHeartbeats 1000000 in
theorem mtimes_any (U V : Nat → Nat → Nat) (G1 G2 : Nat → Nat) (b1 m r b2 c : Nat) (w : World) (hm : m ≤ 1000) (hr0 : 0 < r) (hr : r ≤ 1000) (hcc : c ≤ 140737488351232) (hU : ∀ i j, U i j < 256) (hV : ∀ i j, V i j < 256) (h1 : Mat w b1 m r U G1) (h2 : Mat w b2 r c V G2) :
    Calls Tryz.prog 273 #[.slice (some ⟨b1, 0, none⟩) m m, .slice (some ⟨b2, 0, none⟩) r r] w fun e w' => ∃ G, e = .returned (.slice (some ⟨w.heap.size, 0, none⟩) m m) ∧ MatP w' w.heap.size w.heap.size m m c (fun i j => sm (U i) V j r) G ∧ Below w.heap.size w w' := by
  have H1 : Hid _ := h1
  have H2 : Hid _ := h2
  have HU : Hid _ := hU
  have HV : Hid _ := hV
  clear h1 h2 hU hV
  have hmk := run_make_row' (P := Tryz.prog) 389 390 (.slice none 0 0) 24 Tryz.underlying389 info53 rfl .i64 .i64 m (by omega) (by omega)
  go_enter Tryz.func273, Tryz.ntmps273
  go_wp2
  go_loopw [13] (fun iv wr => ∃ i G, i ≤ m ∧ iv = .int .i64 (i : Nat) ∧ MatP wr w.heap.size w.heap.size m i c (fun i j => sm (U i) V j r) G ∧ Below w.heap.size w wr) (fun iv _ => m - (intOf iv).toNat)
  case atStart => exact ⟨0, fun _ => 0, by omega, rfl, ⟨(Rw.made w m 390 (.slice none 0 0)).to (fun j _ => (part_0 _ _ j).symm), fun i hi => by omega⟩, (Below.refl _ _).alloc (Nat.le_refl _) _⟩
  case round =>
    obtain ⟨i, G, hi, rfl, hM, hb⟩ := hrel
    by_cases hlt : i < m
    · have hA := Mat.below H1.out hb
      have hBm := Mat.below H2.out hb
      have c1 := hA.top i hlt
      have hrow := hA.rows i hlt
      have HRow : Hid _ := hrow
      have HBm : Hid _ := hBm
      clear hA hBm hrow
      go_wp2_with fail
      refine (weighted_any (U i) V G2 b2 r c (G1 i) r wr hr0 hr hcc (HU.out i) HV.out HBm.out HRow.out.2 HRow.out.1).mono ?_
      rintro e w2 ⟨rfl, hR2, hB2⟩
      have hM2 := hM.step hB2 wr.heap.size (Nat.le_refl _) hb.size hR2
      have c2 := (hM.top.below hB2 hM.top.lt).cell i hlt
      have c3 := (hM.top.below hB2 hM.top.lt).free i
      have hbb := (hb.trans (hB2.mono hb.size)).setCell (p := ⟨w.heap.size, i, none⟩) (Nat.le_refl _) (.slice (some ⟨wr.heap.size, 0, none⟩) c c)
      have HM2 : Hid _ := hM2
      clear hM2 hR2
      go_wp2
      go_roundw
      case rel => exact ⟨i + 1, _, by omega, by go_num, HM2.out, hbb⟩
      case measure => simp [intOf]; omega
    · have e : i = m := by omega
      subst e
      go_wp2
      go_ret
      exact ⟨G, rfl, hM, hb⟩
end Go.Proofs.YtadinjaocnlglaaGreatDoor
namespace Go.Proofs.YtadinjaocnlglaaGreatDoor
open Go.RowKit
set_option maxRecDepth 100000
/-- a list of points that may be nil -/
def Pts (w : World) (v : Value) (n : Nat) (q : Nat → Nat) : Prop := (v = .slice none 0 0 ∧ n = 0) ∨ ∃ b cap, v = .slice (some ⟨b, 0, none⟩) n cap ∧ b < w.heap.size ∧ Cl w b n (pI q)
theorem Pts.below {w w' : World} {v : Value} {n : Nat} {q : Nat → Nat} (h : Pts w v n q) (hb : Below w.heap.size w w') : Pts w' v n q := by
  rcases h with h | ⟨b, cap, h1, h2, h3⟩
  · exact .inl h
  · exact .inr ⟨b, cap, h1, Nat.lt_of_lt_of_le h2 hb.size, h3.below hb h2⟩
theorem numbers_at (p : Nat → Nat) (n : Nat) (v : Value) (w : World) (hn : n ≤ 1000) (hp : ∀ i, i < n → p i < 256) (h : Pts w v n p) :
    Calls Tryz.prog 272 #[v] w fun e w' => e = .returned (.slice (some ⟨w.heap.size, 0, none⟩) n n) ∧ Rw w' w.heap.size n 393 (nb p) ∧ Below w.heap.size w w' := by
  rcases h with ⟨rfl, rfl⟩ | ⟨b, cap, rfl, hb, hc⟩
  · exact (numbers_nil w).mono fun e w' h => ⟨h.1, h.2.1.to (fun j hj => by omega), h.2.2⟩
  · exact numbers_any p b n cap w hn hp hb hc
/-- the texts of a list -/
def tI (S : Nat → ByteArray) : Nat → Value := fun i => .string (S i)
/-- the i-th text that comes of the texts S at the points p, at the points q -/
def vl (p q : Nat → Nat) (r c : Nat) (S : Nat → ByteArray) (i : Nat) : ByteArray := txtN c (fun j => sm (wt p r (q i)) (fun k j => bN (S k) j) j r)
set_option maxHeartbeats 1000000 in
theorem values_any (p q : Nat → Nat) (S : Nat → ByteArray) (r m c b cap : Nat) (vf vt : Value) (w : World) (hr0 : 0 < r) (hr : r ≤ 1000) (hm : m ≤ 1000) (hc : c ≤ 140737488351232) (hS : ∀ i, i < r → (S i).size = c) (hp : ∀ i, i < r → p i < 256) (hq : ∀ i, i < m → q i < 256)
    (hb : b < w.heap.size) (hC : Cl w b r (tI S)) (hf : Pts w vf r p) (ht : Pts w vt m q) :
    Calls Tryz.prog 231 #[.slice (some ⟨b, 0, none⟩) r cap, vf, vt] w fun e w' => ∃ g, e = .returned (.slice (some ⟨g, 0, none⟩) m m) ∧ w.heap.size ≤ g ∧ Rw w' g m 9 (tI (vl p q r c S)) ∧ Below w.heap.size w w' := by
  have HS : Hid _ := hS
  have HP : Hid _ := hp
  have HQ : Hid _ := hq
  have HC : Hid _ := hC
  have HF : Hid _ := hf
  have HT : Hid _ := ht
  clear hS hp hq hC hf ht
  have hmk := run_make_row' (P := Tryz.prog) 389 390 (.slice none 0 0) 24 Tryz.underlying389 info53 rfl .i64 .i64 r (by omega) (by omega)
  have hmk2 := run_make_row' (P := Tryz.prog) 42 9 (.string ⟨#[]⟩) 16 Tryz.underlying42 info9 rfl .i64 .i64 m (by omega) (by omega)
  go_enter Tryz.func231, Tryz.ntmps231
  go_wp2
  go_loopw [19] (fun iv wr => ∃ i G, i ≤ r ∧ iv = .int .i64 (i : Nat) ∧ MatP wr w.heap.size w.heap.size r i c (fun k j => bN (S k) j) G ∧ Below w.heap.size w wr) (fun iv _ => r - (intOf iv).toNat)
  case atStart => exact ⟨0, fun _ => 0, by omega, rfl, ⟨(Rw.made w r 390 (.slice none 0 0)).to (fun j _ => (part_0 _ _ j).symm), fun i hi => by omega⟩, (Below.refl _ _).alloc (Nat.le_refl _) _⟩
  case round =>
    obtain ⟨i, G, hi, rfl, hM, hbl⟩ := hrel
    by_cases hlt : i < r
    · have c1 : wr.cell? ⟨b, i, none⟩ = some (.string (S i)) := Cl.below HC.out hbl hb i hlt
      have hSi := HS.out i hlt
      have hSl : (S i).size ≤ 140737488351232 := by omega
      have HSi : Hid _ := hSi
      clear hSi
      go_wp2_with fail
      refine (row_any (S i) wr hSl).mono ?_
      rintro e w2 ⟨rfl, hR2, hB2⟩
      rw [HSi.out] at hR2 ⊢
      have hM2 := hM.step hB2 wr.heap.size (Nat.le_refl _) hbl.size hR2
      have c2 := (hM.top.below hB2 hM.top.lt).cell i hlt
      have c3 := (hM.top.below hB2 hM.top.lt).free i
      have hbb := (hbl.trans (hB2.mono hbl.size)).setCell (p := ⟨w.heap.size, i, none⟩) (Nat.le_refl _) (.slice (some ⟨wr.heap.size, 0, none⟩) c c)
      have HM2 : Hid _ := hM2
      clear hM2 hR2
      go_wp2
      go_roundw
      case rel => exact ⟨i + 1, _, by omega, by go_num, HM2.out, hbb⟩
      case measure => simp [intOf]; omega
    · have e : i = r := by omega
      subst e
      have hMat := hM.mat
      have HMat : Hid _ := hMat
      clear hMat
      have hF1 := Pts.below HF.out hbl
      go_wp2_with fail
      refine (numbers_at p i vf wr (by omega) HP.out hF1).mono ?_
      rintro e w2 ⟨rfl, hN2, hB2⟩
      have hT2 := (Pts.below HT.out hbl).below hB2
      go_wp2_with fail
      refine (numbers_at q m vt w2 hm HQ.out hT2).mono ?_
      rintro e w3 ⟨rfl, hN3, hB3⟩
      have hN2' := hN2.below hB3 hN2.lt
      go_wp2_with fail
      refine (interp_any p q wr.heap.size i i w2.heap.size m m w3 (by omega) hm HP.out HQ.out hN2'.lt hN3.lt hN2'.cl hN3.cl).mono ?_
      rintro e w4 ⟨g4, G4, rfl, hg4, hM4, hB4⟩
      have hMV := ((HMat.out.below hB2).below hB3).below hB4
      go_wp2_with fail
      refine (mtimes_any (fun k => wt p i (q k)) (fun k j => bN (S k) j) G4 G g4 m i w.heap.size c w4 hm hr0 (by omega) hc (fun k j => wt_lt p i (q k) j) (fun k j => bN_lt (S k) j) hM4.mat hMV).mono ?_
      rintro e w5 ⟨G5, rfl, hM5, hB5⟩
      have hb5 : Below w.heap.size w w5 := (((hbl.trans (hB2.mono hbl.size)).trans (hB3.mono (Nat.le_trans hbl.size hB2.size))).trans (hB4.mono (Nat.le_trans hbl.size (Nat.le_trans hB2.size hB3.size)))).trans (hB5.mono (Nat.le_trans hbl.size (Nat.le_trans hB2.size (Nat.le_trans hB3.size hB4.size))))
      obtain ⟨g, hg⟩ : ∃ g, g = w4.heap.size := ⟨_, rfl⟩
      rw [← hg] at hM5 ⊢
      have hM5m := hM5.mat
      have HM5 : Hid _ := hM5m
      clear hM5m hg hN2 hB2 hN3 hB3 hN2' hM4 hB4 hMV hB5 hM5 hT2 hF1 hM HMat hbl
      go_wp2
      go_loopw [42] (fun kv wr => ∃ k : Nat, k ≤ m ∧ kv = .int .i64 k ∧ Below w5.heap.size w5 wr ∧ Rw wr w5.heap.size m 9 (part' k (tI (vl p q i c S)) (.string ⟨#[]⟩))) (fun kv _ => m - (intOf kv).toNat)
      case atStart => exact ⟨0, by omega, rfl, (Below.refl _ _).alloc (Nat.le_refl _) _, (Rw.made w5 m 9 (.string ⟨#[]⟩)).to (fun j _ => (part_0 _ _ j).symm)⟩
      case round =>
        obtain ⟨k, hk, rfl, hbk, hRk⟩ := hrel
        by_cases hlk : k < m
        · have hMk := HM5.out.below hbk
          have c1 := hMk.top k hlk
          have hrow := hMk.rows k hlk
          have HRow : Hid _ := hrow
          clear hMk hrow
          go_wp2_with fail
          refine (text_any _ (G5 k) c c wr hc HRow.out.2 HRow.out.1).mono ?_
          rintro e w6 ⟨rfl, hB6⟩
          have hR6 := hRk.below hB6 hRk.lt
          have c2 := hR6.cell k hlk
          have c3 := hR6.free k
          have hbb := (hbk.trans (hB6.mono hbk.size)).setCell (p := ⟨w5.heap.size, k, none⟩) (Nat.le_refl _) (.string (vl p q i c S k))
          have hRR := (hR6.put k (.string (vl p q i c S k))).to (fun j _ => part_step k (tI (vl p q i c S)) (.string ⟨#[]⟩) j)
          have HRR : Hid _ := hRR
          clear hRR
          go_wp2
          go_roundw
          case rel => exact ⟨k + 1, by omega, by go_num, hbb, HRR.out⟩
          case measure => simp [intOf]; omega
        · have e : k = m := by omega
          subst e
          go_wp2
          go_ret
          exact ⟨w5.heap.size, rfl, hb5.size, hRk.to (fun j hj => by simp [part', hj]), hb5.trans (hbk.mono hb5.size)⟩
end Go.Proofs.YtadinjaocnlglaaGreatDoor
namespace Go.Proofs.YtadinjaocnlglaaGreatDoor
open Go.RowKit
set_option maxRecDepth 100000
set_option maxHeartbeats 400000 in
theorem checkParams_ok (k m : Nat) (w : World) (hk1 : 1 ≤ k) (hkm : k + m ≤ 255) :
    Calls Tryz.prog 190 #[.int .i64 k, .int .i64 m] w fun e w' => e = .returned .nilIface ∧ w' = w := by
  have h1 : (1 : Int) ≤ (k : Int) := by omega
  have h2 : (k : Int) ≤ 255 := by omega
  have h3 : (0 : Int) ≤ (m : Int) := by omega
  have h4 : (m : Int) ≤ 255 - (k : Int) := by omega
  go_enter Tryz.func190, Tryz.ntmps190
  go_wp2
  go_ret
  exact ⟨rfl, rfl⟩
set_option maxHeartbeats 1000000 in
theorem inner_ok (S : Nat → ByteArray) (k m c b cap : Nat) (w : World) (hk1 : 1 ≤ k) (hkm : k + m ≤ 255) (hc : c ≤ 140737488351232) (hS : ∀ i, i < k → (S i).size = c) (hb : b < w.heap.size) (hC : Cl w b k (tI S)) :
    Calls Tryz.prog 191 #[.int .i64 k, .int .i64 m, .slice (some ⟨b, 0, none⟩) k cap] w fun e w' => ∃ g, e = .returned (.slice (some ⟨g, 0, none⟩) m m) ∧ w.heap.size ≤ g ∧ Rw w' g m 9 (tI (vl (fun i => i) (fun i => k + i) k c S)) ∧ Below w.heap.size w w' := by
  have HS : Hid _ := hS
  have HC : Hid _ := hC
  clear hS hC
  have hk255 : k ≤ 255 := by omega
  go_enter Tryz.func191, Tryz.ntmps191
  go_wp2_with fail
  refine (points_any 0 k w (by omega) (by omega)).mono ?_
  rintro e w2 ⟨rfl, hP2, hB2⟩
  rw [Nat.sub_zero] at hP2 ⊢
  go_wp2_with fail
  have hkm2 : ((k : Int) + (m : Int)) = ((k + m : Nat) : Int) := by omega
  rw [hkm2]
  clear hkm2
  refine (points_any k (k + m) w2 (by omega) (by omega)).mono ?_
  rintro e w3 ⟨rfl, hP3, hB3⟩
  rw [Nat.add_sub_cancel_left] at hP3 ⊢
  have hf : Pts w3 (.slice (some ⟨w.heap.size, 0, none⟩) k k) k (fun j => j) := .inr ⟨_, _, rfl, Nat.lt_of_lt_of_le hP2.lt hB3.size, fun j hj => by rw [(hP2.below hB3 hP2.lt).cell j hj]; simp [from', pI]⟩
  have ht : Pts w3 (.slice (some ⟨w2.heap.size, 0, none⟩) m m) m (fun j => k + j) := .inr ⟨_, _, rfl, hP3.lt, fun j hj => by rw [hP3.cell j hj]; rfl⟩
  have hC3 : Cl w3 b k (tI S) := (Cl.below HC.out hB2 hb).below hB3 (Nat.lt_of_lt_of_le hb hB2.size)
  have HP2 : Hid _ := hf
  have HP3 : Hid _ := ht
  have HC3 : Hid _ := hC3
  clear hf ht hC3
  go_wp2_with fail
  refine (values_any (fun j => j) (fun j => k + j) S k m c b cap _ _ w3 (by omega) (by omega) (by omega) hc HS.out (fun j hj => by omega) (fun j hj => by omega) (Nat.lt_of_lt_of_le hb (Nat.le_trans hB2.size hB3.size)) HC3.out HP2.out HP3.out).mono ?_
  rintro e w4 ⟨g, rfl, hg, hR4, hB4⟩
  go_wp2
  go_ret
  exact ⟨g, rfl, Nat.le_trans hB2.size (Nat.le_trans hB3.size hg), hR4, (hB2.trans (hB3.mono hB2.size)).trans (hB4.mono (Nat.le_trans hB2.size hB3.size))⟩
end Go.Proofs.YtadinjaocnlglaaGreatDoor
namespace Go.Proofs.YtadinjaocnlglaaGreatDoor
open Go.RowKit
set_option maxRecDepth 100000
theorem cells5 : Tryz.prog.cellsOf 5 = 1 := by kernel_rfl
theorem size5 : (Tryz.prog.info? 5).map (·.size) = some 1 := by kernel_rfl
set_option maxHeartbeats 1000000 in
set_option maxRecDepth 100000 in
theorem clone_any (s : ByteArray) (w : World) (hs : s.size ≤ 140737488351232) :
    Calls Tryz.prog 196 #[.string s] w fun e w' => e = .returned (.string s) ∧ Below w.heap.size w w' := by
  by_cases h0 : s.size = 0
  · obtain rfl : s = ⟨#[]⟩ := ByteArray.ext (Array.eq_empty_of_size_eq_zero h0)
    go_enter Tryz.func196, Tryz.ntmps196
    go_wp2
    go_ret
    exact ⟨rfl, Below.refl _ _⟩
  · have hmk := run_make_row' (P := Tryz.prog) 165 5 (.int .u8 0) 1 Tryz.underlying165 info5 rfl .i64 .i64 s.size (by omega) (by omega)
    obtain ⟨M, hM⟩ : ∃ M, M = madeCells #[Value.int .u8 0] s.size := ⟨_, rfl⟩
    have hMs : M.size = s.size := by rw [hM, size_madeCells]
    rw [← hM] at hmk
    clear hM
    have hcp := Lib.run_copy_row_string (P := Tryz.prog) (w.alloc (.cells M 5)) 165 9 3 5 w.heap.size 0 s.size s.size s M 5 Tryz.underlying165 size5 (heap_alloc_new w _) (Nat.le_refl _) (by omega)
    obtain ⟨Y, hY⟩ : ∃ Y, Y = (M.toList.take 0 ++ Lib.byteCells s.data.toList ++ M.toList.drop (0 + s.size)).toArray := ⟨_, rfl⟩
    rw [← hY] at hcp
    have hYl : Y.toList = Lib.byteCells s.data.toList := by
      rw [hY, List.toList_toArray, List.take_zero, List.nil_append, List.drop_of_length_le (by rw [Array.length_toList]; omega), List.append_nil]
    have hYs : Y.size = s.size := by rw [← Array.length_toList, hYl, Lib.byteCells_length]; simp
    have hgY : ((w.alloc (.cells M 5)).setRow w.heap.size Y).heap[w.heap.size]? = some (.cells Y 5 (0, 0)) := setRow_heap _ _ M _ 5 (0, 0) (heap_alloc_new w _)
    have hsl : s.data.toList.length = s.size := by simp
    have hus := Lib.run_unsafeString_row (P := Tryz.prog) ((w.alloc (.cells M 5)).setRow w.heap.size Y) 352 3 9 5 Tryz.underlying352 cells5 w.heap.size Y.size (by unfold World.shape?; rw [hgY]) s.data.toList (fun e => h0 (by rw [← hsl, e]; rfl)) (by omega) (by omega)
      (fun j x hx => by
        have hadd : (⟨w.heap.size, 0, none⟩ : Addr).add j = ⟨w.heap.size, j, none⟩ := by unfold Addr.add; split <;> simp_all
        rw [hadd, cell_of_row _ _ _ _ 5 (0, 0) hgY, ← Array.getElem?_toList, hYl]
        simp [Lib.byteCells, hx])
    rw [hsl] at hus
    clear hY hYl hYs hsl
    have hB : Below w.heap.size w ((w.alloc (.cells M 5)).setRow w.heap.size Y) := ((Below.refl _ w).alloc (Nat.le_refl _) _).trans ⟨rfl, rfl, rfl, by simp, fun k hk => setRow_other _ _ _ _ (by omega)⟩
    go_enter Tryz.func196, Tryz.ntmps196
    go_wp2
    go_ret
    exact ⟨rfl, Lib.below_freeze hB (p := ⟨w.heap.size, 0, none⟩) (Nat.le_refl _) _⟩
set_option maxHeartbeats 400000 in
theorem sclone_any (s : ByteArray) (w : World) (hs : s.size ≤ 140737488351232) :
    Calls Tryz.prog 150 #[.string s] w fun e w' => e = .returned (.string s) ∧ Below w.heap.size w w' := by
  have H : Hid _ := clone_any s w hs
  go_enter Tryz.func150, Tryz.ntmps150
  go_wp2_with fail
  refine Calls.mono H.out ?_
  rintro e w1 ⟨rfl, hB⟩
  go_wp2
  go_ret
  exact ⟨rfl, hB⟩
end Go.Proofs.YtadinjaocnlglaaGreatDoor
namespace Go.Proofs.YtadinjaocnlglaaGreatDoor
open Go.RowKit
def absN (c : Int) : Nat := if c < 0 then (-(c + 1)).toNat else c.toNat
def pk (c : Int) (n : Nat) : Nat := absN c % n
theorem pk_lt (c : Int) (n : Nat) (hn : 0 < n) : pk c n < n := Nat.mod_lt _ hn
set_option maxHeartbeats 400000 in
theorem pick_any (c : Int) (n : Nat) (w : World) (hn : 0 < n) (hn2 : n ≤ 1000) (h0 : -9223372036854775808 ≤ c) (h1 : c ≤ 9223372036854775807) :
    Calls Tryz.prog 54 #[.int .i64 c, .int .i64 n] w fun e w' => e = .returned (.int .i64 (pk c n)) ∧ w' = w := by
  by_cases hc : c < 0
  · have E : Hid (-((c + 1).tmod (n : Int)) = ((pk c n : Nat) : Int)) := by
      show -((c + 1).tmod (n : Int)) = ((pk c n : Nat) : Int)
      unfold pk absN
      rw [if_pos hc, ← Int.neg_tmod]
      obtain ⟨a, ha⟩ : ∃ a : Nat, -(c + 1) = (a : Int) := ⟨(-(c + 1)).toNat, by omega⟩
      rw [ha, Int.toNat_natCast]
      exact Int.ofNat_tmod a n
    go_enter Tryz.func54, Tryz.ntmps54
    go_wp2
    go_ret
    rw [E.out]
    exact ⟨rfl, rfl⟩
  · have E : Hid (c % (n : Int) = ((pk c n : Nat) : Int)) := by
      show c % (n : Int) = ((pk c n : Nat) : Int)
      unfold pk absN
      rw [if_neg hc]
      obtain ⟨a, ha⟩ : ∃ a : Nat, c = (a : Int) := ⟨c.toNat, by omega⟩
      rw [ha, Int.toNat_natCast]
      exact (Int.natCast_emod a n).symm
    go_enter Tryz.func54, Tryz.ntmps54
    go_wp2
    go_ret
    rw [E.out]
    exact ⟨rfl, rfl⟩
set_option maxHeartbeats 400000 in
theorem same_any (A B : Nat → ByteArray) (n b cap b2 cap2 : Nat) (w : World) (hn : n ≤ 1000) (hA : Cl w b n (tI A)) (hB : Cl w b2 n (tI B)) (h : ∀ i, i < n → A i = B i) :
    Calls Tryz.prog 18 #[.slice (some ⟨b, 0, none⟩) n cap, .slice (some ⟨b2, 0, none⟩) n cap2] w fun e w' => e = .returned (.bool true) ∧ Below w.heap.size w w' := by
  have HA : Hid _ := hA
  have HB : Hid _ := hB
  have H : Hid _ := h
  clear hA hB h
  go_enter Tryz.func18, Tryz.ntmps18
  go_wp2
  go_loopw [5] (fun iv wr => ∃ i q : Nat, i ≤ n ∧ iv = .int .i64 i ∧ wr = w.drewN q) (fun iv _ => n - (intOf iv).toNat)
  case atStart => exact ⟨0, 0, by omega, rfl, rfl⟩
  case round =>
    obtain ⟨i, q, hi, rfl, hq⟩ := hrel
    by_cases hlt : i < n
    · have c1 : wr.cell? ⟨b, i, none⟩ = some (.string (A i)) := by rw [hq]; exact HA.out i hlt
      have c2 : wr.cell? ⟨b2, i, none⟩ = some (.string (A i)) := by rw [hq, H.out i hlt]; exact HB.out i hlt
      have HQ : Hid _ := hq
      clear hq
      have hi0' : (0 : Int) ≤ (i : Int) := by omega
      have hin' : (i : Int) < (n : Int) := by omega
      go_wp2
      go_quiet (fail)
      go_wp2
      go_roundw
      case rel => exact ⟨i + 1, _, by omega, by go_num, by rw [HQ.out, World.drewN_drewN]⟩
      case measure => simp [intOf]; omega
    · go_wp2
      go_ret
      exact ⟨rfl, below_drewN (Below.refl _ _) q⟩
end Go.Proofs.YtadinjaocnlglaaGreatDoor
