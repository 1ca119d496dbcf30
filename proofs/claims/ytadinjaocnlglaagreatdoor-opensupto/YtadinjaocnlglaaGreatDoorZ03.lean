/-
  The walk of matrix.lagrangeScales.
  The walks of matrix.width, weighted.
  The walk of matrix.Interpolation.
-/
import Derived.Test.YtadinjaocnlglaaGreatDoorZ02
import Derived.WalkKit
import Derived.WalkSpells
import Derived.WalkLawsBesides
import Derived.BigRegion
import Derived.BigQuiet
import Derived.Deep.QuietTactic
import Derived.Deep.RegionWith
import Derived.Deep.RegionHeld3
namespace Go.Proofs.YtadinjaocnlglaaGreatDoor
open Go.RowKit
def hgt (p : Nat → Nat) (i : Nat) : Nat → Nat
 | 0 => 1
 | k + 1 => if k = i then hgt p i k else gm (hgt p i k) (p i ^^^ p k)
theorem hgt_lt (p : Nat → Nat) (i : Nat) : ∀ k, hgt p i k < 256
 | 0 => by show 1 < 256; omega
 | k + 1 => by
  rw [hgt]
  split
  ·exact hgt_lt p i k
  ·exact gm_lt _ _ (hgt_lt p i k)
def scl (p : Nat → Nat) (n i : Nat) : Nat := gm 1 (gi (hgt p i n))
set_option maxHeartbeats 1000000 in
theorem scales_any (p : Nat → Nat) (b n cap : Nat) (w : World) (hn : n ≤ 1000) (hp : ∀ i, i < n → p i < 256) (hb0 : b < w.heap.size) (hc : Cl w b n (nb p)) :
  Calls Tryz.prog 303 #[.slice (some ⟨b, 0, none⟩) n cap] w fun e w' => e = .returned (.slice (some ⟨w.heap.size, 0, none⟩) n n) ∧ Rw w' w.heap.size n 393 (nb (scl p n)) ∧ Below w.heap.size w w' := by
 have HC : Hid _ := hc
 have HP : Hid _ := hp
 clear hc hp
 have hmk := run_make_row' (P := Tryz.prog) 390 393 (.int .u8 0) 1 Tryz.underlying390 info56 rfl .i64 .i64 n (by omega) (by omega)
 have hm1 := m_one
 have hm2 := m_times
 have hm3 := m_minus
 have hm4 := m_over
 go_enter Tryz.func303, Tryz.ntmps303
 go_wp2
 go_loopw [14] (fun i wr => ∃ k : Nat, k ≤ n ∧ i = .int .i64 k ∧ Below w.heap.size w wr ∧ Rw wr w.heap.size n 393 (part' k (nb (scl p n)) (.int .u8 0))) (fun i _ => n - (intOf i).toNat)
 case atStart => exact ⟨0, by omega, rfl, (Below.refl _ _).alloc (Nat.le_refl _) _, (Rw.made w n 393 (.int .u8 0)).to (fun j _ => (part_0 _ _ j).symm)⟩
 case round =>
  obtain ⟨i, hi, rfl, hb, hR⟩ := hrel
  by_cases hlt : i < n
  ·have c1 := hR.cell i hlt
   have c2 := hR.free i
   have c3 : wr.cell? ⟨b, i, none⟩ = some (.int .u8 ((p i : Nat) : Int)) := Cl.below HC.out hb hb0 i hlt
   have hpi := HP.out i hlt
   go_wp2_with (go_at_call 382; refine (one_any _ _).mono ?_; rintro e w' ⟨rfl, rfl⟩)
   go_loop [24, 6] (fun j v => ∃ k : Nat, k ≤ n ∧ j = .int .i64 k ∧ v = .int .u8 ((hgt p i k : Nat) : Int)) (fun j _ => n - (intOf j).toNat)
   case atStart => exact ⟨0, by omega, rfl, rfl⟩
   case round =>
    obtain ⟨k, hk, rfl, rfl⟩ := hrel
    by_cases hlk : k < n
    ·have c4 : w'.cell? ⟨b, k, none⟩ = some (.int .u8 ((p k : Nat) : Int)) := Cl.below HC.out hb hb0 k hlk
     have hpk := HP.out k hlk
     have hhk := hgt_lt p i k
     have hxx : p i ^^^ p k < 256 := Nat.xor_lt_two_pow (n := 8) hpi hpk
     by_cases hki : k = i
     ·have hne : ((k : Int) != (i : Int)) = false := by rw [bne_eq_false_iff_eq]; omega
      go_wp2
      go_round
      case rel => exact ⟨k + 1, by omega, by go_num, by rw [hgt, if_pos hki]⟩
      case measure => simp [intOf]; omega
     ·have hne : ((k : Int) != (i : Int)) = true := by rw [bne_iff_ne]; omega
      go_wp2_with (first | (go_at_call 381; refine (minus_any (p i) (p k) _ hpi hpk).mono ?_; rintro e w' ⟨rfl, rfl⟩) | (go_at_call 385; refine (times_any (hgt p i k) (p i ^^^ p k) _ hhk hxx).mono ?_; rintro e w' ⟨rfl, rfl⟩))
      go_round
      case rel => exact ⟨k + 1, by omega, by go_num, by rw [hgt, if_neg hki]⟩
      case measure => simp [intOf]; omega
    ·have e : k = n := by omega
     subst e
     have hhk := hgt_lt p i k
     go_wp2_with (first | (go_at_call 382; refine (one_any _ _).mono ?_; rintro e w' ⟨rfl, rfl⟩) | (go_at_call 383; refine (over_any 1 (hgt p i k) _ (by omega) hhk).mono ?_; rintro e w' ⟨rfl, rfl⟩))
     go_roundw
     case rel => exact ⟨i + 1, by omega, by go_num, hb.setCell (Nat.le_refl _) _, (hR.put i _).to (fun j _ => by rw [← part_step]; rfl)⟩
     case measure => simp [intOf]; omega
  ·have e : i = n := by omega
   subst e
   go_wp2
   go_ret
   exact ⟨rfl, hR.to (fun j hj => by simp [part', hj]), hb⟩
set_option maxHeartbeats 400000 in
theorem width_some (b m n cap : Nat) (v : Nat → Value) (w : World) (hm : 0 < m) (hc : Cl w b m v) (hv : v 0 = .slice (some ⟨n, 0, none⟩) cap cap) :
  Calls Tryz.prog 326 #[.slice (some ⟨b, 0, none⟩) m m] w fun e w' => e = .returned (.int .i64 cap) ∧ w' = w := by
 have c0 : w.cell? ⟨b, 0, none⟩ = some (.slice (some ⟨n, 0, none⟩) cap cap) := by rw [hc 0 hm, hv]
 have hne : ((m : Int) == 0) = false := by rw [beq_eq_false_iff_ne]; omega
 have hmm : (0 : Int) < (m : Int) := by omega
 clear hc hv
 go_enter Tryz.func326, Tryz.ntmps326
 go_wp2
 go_ret
 exact ⟨rfl, rfl⟩
def sm (u : Nat → Nat) (V : Nat → Nat → Nat) (j : Nat) : Nat → Nat
 | 0 => 0
 | k + 1 => sm u V j k ^^^ gm (u k) (V k j)
theorem sm_lt (u : Nat → Nat) (V : Nat → Nat → Nat) (j : Nat) (hu : ∀ i, u i < 256) : ∀ k, sm u V j k < 256
 | 0 => by show 0 < 256; omega
 | k + 1 => Nat.xor_lt_two_pow (n := 8) (sm_lt u V j hu k) (gm_lt _ _ (hu k))
structure Mat (w : World) (b r c : Nat) (V : Nat → Nat → Nat) (G : Nat → Nat) : Prop where
 top : Cl w b r (fun i => .slice (some ⟨G i, 0, none⟩) c c)
 lt : b < w.heap.size
 rows : ∀ i, i < r → Cl w (G i) c (nb (V i)) ∧ G i < w.heap.size
theorem Mat.below {w w' : World} {b r c : Nat} {V : Nat → Nat → Nat} {G : Nat → Nat} (h : Mat w b r c V G) (hb : Below w.heap.size w w') : Mat w' b r c V G :=
 ⟨h.top.below hb h.lt, Nat.lt_of_lt_of_le h.lt hb.size, fun i hi => ⟨(h.rows i hi).1.below hb (h.rows i hi).2, Nat.lt_of_lt_of_le (h.rows i hi).2 hb.size⟩⟩
def smr (u : Nat → Nat) (V : Nat → Nat → Nat) (k j : Nat) : Nat → Value := fun l => .int .u8 (((if l < j then sm u V l (k + 1) else sm u V l k) : Nat) : Int)
theorem smr_step (u : Nat → Nat) (V : Nat → Nat → Nat) (k j l : Nat) : updV (smr u V k j) j (.int .u8 ((sm u V j k ^^^ gm (u k) (V k j) : Nat) : Int)) l = smr u V k (j + 1) l := by
 simp only [updV, smr]
 by_cases h : l = j
 ·rw [if_pos h, if_pos (by omega), h]; rfl
 ·rw [if_neg h]
  by_cases h2 : l < j
  ·rw [if_pos h2, if_pos (by omega)]
  ·rw [if_neg h2, if_neg (by omega)]
set_option maxHeartbeats 1000000 in
set_option maxRecDepth 100000 in
theorem weighted_any (u : Nat → Nat) (V : Nat → Nat → Nat) (G : Nat → Nat) (b r c b2 cap2 : Nat) (w : World) (hr0 : 0 < r) (hr : r ≤ 1000) (hcc : c ≤ 140737488351232) (hu : ∀ i, u i < 256) (hV : ∀ i j, V i j < 256) (hM : Mat w b r c V G) (hb2 : b2 < w.heap.size) (hc : Cl w b2 r (nb u)) :
  Calls Tryz.prog 306 #[.slice (some ⟨b, 0, none⟩) r r, .slice (some ⟨b2, 0, none⟩) r cap2] w fun e w' => e = .returned (.slice (some ⟨w.heap.size, 0, none⟩) c c) ∧ Rw w' w.heap.size c 393 (nb fun j => sm u V j r) ∧ Below w.heap.size w w' := by
 have HM : Hid _ := hM
 have HC : Hid _ := hc
 have HU : Hid _ := hu
 have HV : Hid _ := hV
 clear hM hc hu hV
 have hmk := run_make_row' (P := Tryz.prog) 390 393 (.int .u8 0) 1 Tryz.underlying390 info56 rfl .i64 .i64 c (by omega) (by omega)
 have hm1 := m_plus
 have hm2 := m_times
 go_enter Tryz.func306, Tryz.ntmps306
 go_wp2_with (go_at_call 326; refine (width_some b r (G 0) c _ _ hr0 (Mat.top HM.out) rfl).mono ?_; rintro e w' ⟨rfl, rfl⟩)
 go_loopw [15] (fun iv wr => ∃ i : Nat, i ≤ r ∧ iv = .int .i64 i ∧ Below w'.heap.size w' wr ∧ Rw wr w'.heap.size c 393 (smr u V i 0)) (fun iv _ => r - (intOf iv).toNat)
 case atStart => exact ⟨0, by omega, rfl, (Below.refl _ _).alloc (Nat.le_refl _) _, (Rw.made w' c 393 (.int .u8 0)).to (fun j _ => by simp only [smr]; rw [if_neg (by omega)]; rfl)⟩
 case round =>
  obtain ⟨i, hi, rfl, hb, hR⟩ := hrel
  by_cases hlt : i < r
  ·have hMr := Mat.below HM.out hb
   have c1 := hMr.top i hlt
   have c2 : wr.cell? ⟨b2, i, none⟩ = some (.int .u8 ((u i : Nat) : Int)) := Cl.below HC.out hb hb2 i hlt
   have hGi := (Mat.rows HM.out i hlt).2
   have hrow := (Mat.rows HM.out i hlt).1
   have HR : Hid _ := hrow
   clear hrow hMr
   go_wp2
   go_loopw [22] (fun jv wr => ∃ j : Nat, j ≤ c ∧ jv = .int .i64 j ∧ Below w'.heap.size w' wr ∧ Rw wr w'.heap.size c 393 (smr u V i j)) (fun jv _ => c - (intOf jv).toNat)
   case atStart => exact ⟨0, by omega, rfl, hb, hR⟩
   case round =>
    clear hb hR c1 c2
    obtain ⟨j, hj, rfl, hb, hR⟩ := hrel
    by_cases hlj : j < c
    ·have c1 : wr.cell? ⟨G i, j, none⟩ = some (.int .u8 ((V i j : Nat) : Int)) := Cl.below HR.out hb hGi j hlj
     have c2 : wr.cell? ⟨b2, i, none⟩ = some (.int .u8 ((u i : Nat) : Int)) := Cl.below HC.out hb hb2 i hlt
     have c3 : wr.cell? ⟨w'.heap.size, j, none⟩ = some (.int .u8 ((sm u V j i : Nat) : Int)) := by
      rw [hR.cell j hlj]; simp only [smr]; rw [if_neg (by omega)]
     have c4 := hR.free j
     have h1 := HU.out i
     have h2 := HV.out i j
     have h3 := sm_lt u V j HU.out i
     have h4 := gm_lt (u i) (V i j) h1
     have hj0 : (0 : Int) ≤ (j : Int) := by omega
     have hj8 : (j : Int) < (c : Int) := by omega
     have hi0 : (0 : Int) ≤ (i : Int) := by omega
     have hi8 : (i : Int) < (r : Int) := by omega
     go_wp2
     go_region_with (first | (go_at_call 385; refine (times_any (u i) (V i j) _ h1 h2).mono ?_; rintro e w' ⟨rfl, rfl⟩) | (go_at_call 384; refine (plus_any (sm u V j i) (gm (u i) (V i j)) _ h3 h4).mono ?_; rintro e w' ⟨rfl, rfl⟩))
     all_goals
      go_wp2
      go_roundw
      case rel => exact ⟨j + 1, by omega, by go_num, (hb.setCell (Nat.le_refl _) _).drew, ((hR.put j _).drew).to (fun l _ => smr_step u V i j l)⟩
      case measure => simp [intOf]; omega
    ·have e : j = c := by omega
     subst e
     go_wp2
     go_roundw
     case rel => exact ⟨i + 1, by omega, by go_num, hb, hR.to (fun l hl => by simp only [smr]; rw [if_pos hl, if_neg (by omega)])⟩
     case measure => simp [intOf]; omega
  ·have e : i = r := by omega
   subst e
   go_wp2
   go_ret
   exact ⟨rfl, hR.to (fun l hl => by simp only [smr, nb]; rw [if_neg (by omega)]), hb⟩
def wt (p : Nat → Nat) (n x j : Nat) : Nat := gm (oth (fun l => x ^^^ p l) n j) (scl p n j)
theorem oth_lt (f : Nat → Nat) (n j : Nat) : oth f n j < 256 := gm_lt _ _ (ahd_lt f j)
theorem scl_lt (p : Nat → Nat) (n j : Nat) : scl p n j < 256 := gm_lt _ _ (by omega)
theorem wt_lt (p : Nat → Nat) (n x j : Nat) : wt p n x j < 256 := gm_lt _ _ (oth_lt _ n j)
structure MatP (w : World) (B g m k n : Nat) (V : Nat → Nat → Nat) (G : Nat → Nat) : Prop where
 top : Rw w g m 390 (part' k (fun i => .slice (some ⟨G i, 0, none⟩) n n) (.slice none 0 0))
 rows : ∀ i, i < k → B ≤ G i ∧ G i ≠ g ∧ Rw w (G i) n 393 (nb (V i))
theorem MatP.below {w w' : World} {B g m k n : Nat} {V : Nat → Nat → Nat} {G : Nat → Nat} (h : MatP w B g m k n V G) (hb : Below w.heap.size w w') : MatP w' B g m k n V G :=
 ⟨h.top.below hb h.top.lt, fun i hi => ⟨(h.rows i hi).1, (h.rows i hi).2.1, (h.rows i hi).2.2.below hb (h.rows i hi).2.2.lt⟩⟩
def half (p : Nat → Nat) (n x j : Nat) : Nat → Value := fun l => .int .u8 (((if l < j then wt p n x l else oth (fun l => x ^^^ p l) n l) : Nat) : Int)
theorem half_step (p : Nat → Nat) (n x j l : Nat) : updV (half p n x j) j (.int .u8 ((gm (oth (fun l => x ^^^ p l) n j) (scl p n j) : Nat) : Int)) l = half p n x (j + 1) l := by
 simp only [updV, half]
 by_cases h : l = j
 ·rw [if_pos h, if_pos (by omega), h]; rfl
 ·rw [if_neg h]
  by_cases h2 : l < j
  ·rw [if_pos h2, if_pos (by omega)]
  ·rw [if_neg h2, if_neg (by omega)]
set_option maxHeartbeats 1000000 in
set_option maxRecDepth 100000 in
theorem interp_any (p q : Nat → Nat) (b n cap b2 m cap2 : Nat) (w : World) (hn : n ≤ 1000) (hm : m ≤ 1000) (hp : ∀ i, i < n → p i < 256) (hq : ∀ i, i < m → q i < 256) (hb0 : b < w.heap.size) (hb2 : b2 < w.heap.size) (hc : Cl w b n (nb p)) (hd : Cl w b2 m (nb q)) :
  Calls Tryz.prog 271 #[.slice (some ⟨b, 0, none⟩) n cap, .slice (some ⟨b2, 0, none⟩) m cap2] w fun e w' => ∃ g G, e = .returned (.slice (some ⟨g, 0, none⟩) m m) ∧ w.heap.size ≤ g ∧ MatP w' w.heap.size g m m n (fun i => wt p n (q i)) G ∧ Below w.heap.size w w' := by
 have HC : Hid _ := hc
 have HD : Hid _ := hd
 have HP : Hid _ := hp
 have HQ : Hid _ := hq
 clear hc hp hd hq
 have hmk := run_make_row' (P := Tryz.prog) 389 390 (.slice none 0 0) 24 Tryz.underlying389 info53 rfl .i64 .i64 m (by omega) (by omega)
 have hm2 := m_times
 go_enter Tryz.func271, Tryz.ntmps271
 go_wp2_with (go_at_call 303; refine (scales_any p b n cap _ hn HP.out hb0 HC.out).mono ?_; rintro e w1 ⟨rfl, hS1, hB1⟩)
 have hg0 : w.heap.size < w1.heap.size := hS1.lt
 obtain ⟨g, hg⟩ : ∃ g, g = w1.heap.size := ⟨_, rfl⟩
 rw [← hg]
 have hM0 : MatP (w1.alloc (.cells (madeCells #[.slice none 0 0] m) 390)) w.heap.size g m 0 n (fun i => wt p n (q i)) (fun _ => 0) := by
  rw [hg]; exact ⟨(Rw.made w1 m 390 (.slice none 0 0)).to (fun j _ => (part_0 _ _ j).symm), fun i hi => by omega⟩
 have hS0 : Rw (w1.alloc (.cells (madeCells #[.slice none 0 0] m) 390)) w.heap.size n 393 (nb (scl p n)) := hS1.alloc _
 have hB0 : Below w.heap.size w (w1.alloc (.cells (madeCells #[.slice none 0 0] m) 390)) := hB1.alloc (by omega) _
 have hgw : w.heap.size < g := by omega
 clear hS1 hB1 hg hg0
 go_loopw [17] (fun iv wr => ∃ i G, i ≤ m ∧ iv = .int .i64 (i : Nat) ∧ MatP wr w.heap.size g m i n (fun i => wt p n (q i)) G ∧ Rw wr w.heap.size n 393 (nb (scl p n)) ∧ Below w.heap.size w wr) (fun iv _ => m - (intOf iv).toNat)
 case atStart => exact ⟨0, _, by omega, rfl, hM0, hS0, hB0⟩
 case round =>
  clear hM0 hS0 hB0
  obtain ⟨i, G, hi, rfl, hM, hS, hb⟩ := hrel
  by_cases hlt : i < m
  ·have c1 : wr.cell? ⟨b2, i, none⟩ = some (.int .u8 ((q i : Nat) : Int)) := Cl.below HD.out hb hb2 i hlt
   have hqi := HQ.out i hlt
   have hCr : Cl wr b n (nb p) := Cl.below HC.out hb hb0
   have hbr : b < wr.heap.size := Nat.lt_of_lt_of_le hb0 hb.size
   have HCr : Hid _ := hCr
   clear hCr
   go_wp2_with fail
   refine (differences_any (q i) p b n cap wr hqi hn HP.out hbr HCr.out).mono ?_
   rintro e w3 ⟨rfl, hD3, hB3⟩
   go_wp2_with fail
   refine (others_any (fun l => q i ^^^ p l) wr.heap.size n n w3 hn (fun l hl => Nat.xor_lt_two_pow (n := 8) hqi (HP.out l hl)) hD3.lt hD3.cl).mono ?_
   rintro e w4 ⟨rfl, hO4, hB4⟩
   have hM4 := (hM.below hB3).below hB4
   have hS4 := (hS.below hB3 hS.lt).below hB4 (Nat.lt_of_lt_of_le hS.lt hB3.size)
   have hbb4 := (hb.trans (hB3.mono hb.size)).trans (hB4.mono (Nat.le_trans hb.size hB3.size))
   have hgo : g < w3.heap.size := Nat.lt_of_lt_of_le hM.top.lt hB3.size
   have hSo : w.heap.size < w3.heap.size := Nat.lt_of_lt_of_le hS.lt hB3.size
   have hGo : ∀ i', i' < i → G i' < w3.heap.size := fun i' h' => Nat.lt_of_lt_of_le (hM.rows i' h').2.2.lt hB3.size
   have c2 := hM4.top.cell i hlt
   have c3 := hM4.top.free i
   obtain ⟨o, ho⟩ : ∃ o, o = w3.heap.size := ⟨_, rfl⟩
   rw [← ho] at hO4 hgo hSo hGo ⊢
   clear ho hD3 hB3 hB4 hM hS hb
   go_wp2
   obtain ⟨w5, hw5⟩ : ∃ w5, w5 = w4.setCell ⟨g, i, none⟩ (Value.slice (some ⟨o, 0, none⟩) n n) := ⟨_, rfl⟩
   rw [← hw5]
   have hO5 : Rw w5 o n 393 (half p n (q i) 0) := by rw [hw5]; exact (hO4.other _ _ (by simp; omega)).to (fun j _ => by simp only [half, nb]; rw [if_neg (by omega)])
   have hS5 : Rw w5 w.heap.size n 393 (nb (scl p n)) := by rw [hw5]; exact hS4.other _ _ (by simp; omega)
   have hB5 : Below w.heap.size w w5 := by rw [hw5]; exact hbb4.setCell (by simp; omega) _
   have hT5 : Rw w5 g m 390 (part' (i + 1) (fun i' => .slice (some ⟨(if i' = i then o else G i'), 0, none⟩) n n) (.slice none 0 0)) := by
    rw [hw5]
    refine (hM4.top.put i _).to (fun j _ => ?_)
    rw [← part_step]
    simp only [updV, part']
    by_cases h : j = i
    ·simp [h]
    ·by_cases h2 : j < i
     ·simp [h, h2]
     ·simp [h, h2]
   have hG5 : ∀ i', i' < i → w.heap.size ≤ G i' ∧ G i' ≠ g ∧ Rw w5 (G i') n 393 (nb (wt p n (q i'))) := fun i' h' => ⟨(hM4.rows i' h').1, (hM4.rows i' h').2.1, by rw [hw5]; exact (hM4.rows i' h').2.2.other _ _ (by simpa using (hM4.rows i' h').2.1)⟩
   have HG5 : Hid _ := hG5
   have HGo : Hid _ := hGo
   clear hw5 hO4 hS4 hbb4 hM4 c1 c2 c3 hG5 hGo
   go_loopw [34] (fun jv wr => ∃ j : Nat, j ≤ n ∧ jv = .int .i64 j ∧ Below o w5 wr ∧ Rw wr o n 393 (half p n (q i) j)) (fun jv _ => n - (intOf jv).toNat)
   case atStart => exact ⟨0, by omega, rfl, Below.refl _ _, hO5⟩
   case round =>
    clear hO5
    obtain ⟨j, hj, rfl, hbo, hO⟩ := hrel
    by_cases hlj : j < n
    ·have c1 : wr.cell? ⟨g, i, none⟩ = some (.slice (some ⟨o, 0, none⟩) n n) := by
      rw [(hT5.below hbo hgo).cell i hlt]; simp [part']
     have c2 : wr.cell? ⟨o, j, none⟩ = some (.int .u8 ((oth (fun l => q i ^^^ p l) n j : Nat) : Int)) := by
      rw [hO.cell j hlj]; simp only [half]; rw [if_neg (by omega)]
     have c3 : wr.cell? ⟨w.heap.size, j, none⟩ = some (.int .u8 ((scl p n j : Nat) : Int)) := (hS5.below hbo hSo).cell j hlj
     have c4 := hO.free j
     have h1 := oth_lt (fun l => q i ^^^ p l) n j
     have h2 := scl_lt p n j
     have hj0 : (0 : Int) ≤ (j : Int) := by omega
     have hj8 : (j : Int) < (n : Int) := by omega
     have hi0 : (0 : Int) ≤ (i : Int) := by omega
     have hi8 : (i : Int) < (m : Int) := by omega
     obtain ⟨u, hu⟩ : ∃ u, u = oth (fun l => q i ^^^ p l) n j := ⟨_, rfl⟩
     obtain ⟨v, hv⟩ : ∃ v, v = scl p n j := ⟨_, rfl⟩
     rw [← hu] at c2 h1
     rw [← hv] at c3 h2
     have HU : Hid _ := hu
     have HV : Hid _ := hv
     clear hu hv
     go_wp2
     go_region_with (go_at_call 385; refine (times_any u v _ h1 h2).mono ?_; rintro e w' ⟨rfl, rfl⟩)
     all_goals
      go_wp2
      go_roundw
      case rel => exact ⟨j + 1, by omega, by go_num, (hbo.setCell (Nat.le_refl _) _).drew, ((hO.put j _).drew).to (fun l _ => by rw [← half_step, ← HU.out, ← HV.out])⟩
      case measure => simp [intOf]; omega
    ·have e : j = n := by omega
     subst e
     go_wp2
     go_roundw
     case rel =>
      refine ⟨i + 1, fun i' => if i' = i then o else G i', by omega, by go_num, ⟨hT5.below hbo hgo, fun i' h' => ?_⟩, hS5.below hbo hSo, hB5.trans (hbo.mono (by omega))⟩
      by_cases h : i' = i
      ·subst h
       simp only [if_true]
       exact ⟨by omega, by omega, hO.to (fun l hl => by simp only [half, nb]; rw [if_pos hl])⟩
      ·have hl : i' < i := by omega
       simp only [if_neg h]
       exact ⟨(HG5.out i' hl).1, (HG5.out i' hl).2.1, (HG5.out i' hl).2.2.below hbo (HGo.out i' hl)⟩
     case measure => simp [intOf]; omega
  ·have e : i = m := by omega
   subst e
   go_wp2
   go_ret
   exact ⟨g, G, rfl, by omega, hM, hb⟩
end Go.Proofs.YtadinjaocnlglaaGreatDoor
