/-
  The document's Blocks and List.
  Close of the document's Writer, where it is refused.
  A desk: is an error the document's; Writers newly made.
  A desk's new Writer.
  A desk's new Writer, where nothing is refused.
  The document's sorted: the order, as data.
  The document's sorted.
  The document's volumes.
  The walks of vaultref's mul, inverse.
-/
import Derived.Test.YtadinjaocnlglaaGreatDoorZ31
import Derived.Test.YtadinjaocnlglaaGreatDoorZ14
import Derived.Sort.Walk0
import Derived.BigQuiet
import Derived.BigRegion
import Derived.Deep.RegionLaw
import Derived.Test.YtadinjaocnlglaaGreatDoorZ08
import Derived.Laws.OwnMore
import Derived.Test.YtadinjaocnlglaaGreatDoorZ02
import Derived.WalkKit
import Derived.WalkSpells
import Derived.WalkLawsBesides
namespace Go.Proofs.YtadinjaocnlglaaGreatDoor
open Go.RowKit
set_option maxRecDepth 100000
set_option maxHeartbeats 4000000
theorem rblocks_any (K M C V len z : Nat) (w : World) (hz : K * C = z) (hz0 : 0 < z) (hz1 : z ≤ 100000) (hl : len ≤ 100000) (hK : K ≤ 1000) (hM : M ≤ 1000) :
  Calls Tryz.prog 133 #[.agg #[.int .i64 K, .int .i64 M, .int .i64 C, .int .i64 V], .int .i64 len] w fun e w' => e = .returned (.int .i64 (nst z len * (K + M) : Nat)) ∧ Below w.heap.size w w' := by
 have e1 : (K : Int) * (C : Int) = (z : Int) := by rw [← hz]; simp
 have e2 : (len : Int) + (z : Int) - 1 = ((len + z - 1 : Nat) : Int) := by omega
 have d1 : ((len : Int) + (z : Int) - 1) / (z : Int) = (((len + z - 1) / z : Nat) : Int) := by rw [e2, Int.natCast_ediv]
 have hne : ((z : Int) == 0) = false := by simp; omega
 have hns : nst z len ≤ 200000 := Nat.le_trans (Nat.div_le_self _ _) (by omega)
 have hd : nst z len = (len + z - 1) / z := rfl
 rw [← hd] at d1
 obtain ⟨n, hn⟩ : ∃ n, nst z len = n := ⟨_, rfl⟩
 rw [hn] at d1 hns ⊢
 have h1 : n * (K + M) ≤ 400000000 := Nat.le_trans (Nat.mul_le_mul hns (show K + M ≤ 2000 by omega)) (by omega)
 obtain ⟨r, hr⟩ : ∃ r, n * (K + M) = r := ⟨_, rfl⟩
 have e3 : (n : Int) * ((K : Int) + (M : Int)) = (r : Int) := by rw [← hr]; simp
 have e4 : ((len : Int) + (z : Int) - 1) / (z : Int) * ((K : Int) + (M : Int)) = (r : Int) := by rw [d1, e3]
 have E4 : Hid _ := e4
 rw [hr] at h1 ⊢
 clear hn hr hz e2 d1 hd e3 e4
 have hO : (w.alloc (Obj.cells #[Value.int IntKind.i64 K, Value.int IntKind.i64 M, Value.int IntKind.i64 C, Value.int IntKind.i64 V] 23)).heap[w.heap.size]? = some (.cells #[.int .i64 K, .int .i64 M, .int .i64 C, .int .i64 V] 23 (0, 0)) := heap_alloc_new _ _
 have c0 := cell_of_row _ _ 0 _ 23 _ hO
 have c1 := cell_of_row _ _ 1 _ 23 _ hO
 clear hO
 go_enter Tryz.func133, Tryz.ntmps133
 go_wp2
 go_quiet (fail)
 go_wp2
 go_ret
 refine ⟨?_, below_drewN ((Below.refl _ _).alloc (Nat.le_refl _) _) nq⟩
 show Ending.returned (.int .i64 (wrap64 (((len : Int) + (z : Int) - 1) / (z : Int) * ((K : Int) + (M : Int))))) = _
 have a2 : wrap64 (r : Int) = (r : Int) := by unfold wrap64; omega
 rw [E4.out, a2]
def hdT (K M C V n : Nat) : ByteArray := ⟨#[86, 76, 84, 49]⟩ ++ vint K ++ vint M ++ vint C ++ vint V ++ vint n
def lsR (h : ByteArray) (Nm : Nat → ByteArray) (Ln : Nat → Nat) : Nat → ByteArray
 | 0 => h
 | j + 1 => lsR h Nm Ln j ++ vint (Nm j).size ++ Nm j ++ vint (Ln j)
theorem lsR_eq (h : ByteArray) (l : List UInt8) (hh : h.data.toList = l) (Nm : Nat → ByteArray) (Ln : Nat → Nat) : ∀ j, (lsR h Nm Ln j).data.toList = lst2 l Nm Ln j
 | 0 => hh
 | j + 1 => by
  rw [lsR, lst2, ← lsR_eq h l hh Nm Ln j]; simp
theorem hdT_eq (K M C V n : Nat) : (hdT K M C V n).data.toList = lst1 (num5 K M C V n) 5 := by
 unfold hdT
 simp [lst1, num5, vltT]
theorem lstT_eq (K M C V n : Nat) (Nm : Nat → ByteArray) (Ln : Nat → Nat) : lstT K M C V n Nm Ln = lsR (hdT K M C V n) Nm Ln n := by
 apply by_inj
 rw [lsR_eq (hdT K M C V n) _ (hdT_eq K M C V n)]
 rfl
theorem lsR_size (h : ByteArray) (Nm : Nat → ByteArray) (Ln : Nat → Nat) (hN : ∀ j, (Nm j).size ≤ 1000) : ∀ j, (lsR h Nm Ln j).size ≤ h.size + 1010 * j
 | 0 => by simp [lsR]
 | j + 1 => by
  have h1 := lsR_size h Nm Ln hN j
  have h2 := hN j
  have h3 := vint_size (Nm j).size
  have h4 := vint_size (Ln j)
  rw [lsR, ByteArray.size_append, ByteArray.size_append, ByteArray.size_append]; omega
theorem rlist_any (K M C V n cap : Nat) (a : Option Addr) (Nm : Nat → ByteArray) (Ln : Nat → Nat) (w : World) (hK : K ≤ 100000) (hM : M ≤ 100000) (hC : C ≤ 100000) (hV : V ≤ 100000) (hn : n ≤ 100000) (hN : ∀ j, (Nm j).size ≤ 1000) (hLn : ∀ j, Ln j ≤ 100000)
  (hE : ∀ j, j < n → ∃ b, a = some ⟨b, 0, none⟩ ∧ b < w.heap.size ∧ w.cell? ⟨b, j * 2, none⟩ = some (.string (Nm j)) ∧ w.cell? ⟨b, j * 2 + 1, none⟩ = some (.int .i64 (Ln j))) :
  Calls Tryz.prog 85 #[.agg #[.int .i64 K, .int .i64 M, .int .i64 C, .int .i64 V], .slice a n cap] w fun e w' => e = .returned (.string (lstT K M C V n Nm Ln)) ∧ Below w.heap.size w w' := by
 rw [lstT_eq]
 have HE : Hid _ := hE
 have HN : Hid _ := hN
 have HLN : Hid _ := hLn
 have vK := vint_size K
 have vM := vint_size M
 have vC := vint_size C
 have vV := vint_size V
 have vn := vint_size n
 have hv4 : (⟨#[86, 76, 84, 49]⟩ : ByteArray).size = 4 := rfl
 have k1 : ¬ (9223372036854775807 < 4 + (vint K).size) := by omega
 have k2 : ¬ (9223372036854775807 < 4 + (vint K).size + (vint M).size) := by omega
 have k3 : ¬ (9223372036854775807 < 4 + (vint K).size + (vint M).size + (vint C).size) := by omega
 have k4 : ¬ (9223372036854775807 < 4 + (vint K).size + (vint M).size + (vint C).size + (vint V).size) := by omega
 have k5 : ¬ (9223372036854775807 < 4 + (vint K).size + (vint M).size + (vint C).size + (vint V).size + (vint n).size) := by omega
 have HH : Hid ((hdT K M C V n).size ≤ 29) := by
  show _ ≤ _
  unfold hdT
  rw [ByteArray.size_append, ByteArray.size_append, ByteArray.size_append, ByteArray.size_append, ByteArray.size_append, hv4]; omega
 have HBX : Hid (Below w.heap.size w (w.alloc (.cells #[.int .i64 K, .int .i64 M, .int .i64 C, .int .i64 V] 23))) := (Below.refl _ _).alloc (Nat.le_refl _) _
 have hO : (w.alloc (.cells #[.int .i64 K, .int .i64 M, .int .i64 C, .int .i64 V] 23)).heap[w.heap.size]? = some (.cells #[.int .i64 K, .int .i64 M, .int .i64 C, .int .i64 V] 23 (0, 0)) := heap_alloc_new _ _
 obtain ⟨s0, hs0⟩ : ∃ s0, w.alloc (.cells #[.int .i64 K, .int .i64 M, .int .i64 C, .int .i64 V] 23) = s0 := ⟨_, rfl⟩
 rw [hs0] at HBX hO
 have d0 : s0.cell? ⟨w.heap.size, 0, none⟩ = some (.int .i64 K) := cell_of_row _ _ _ _ 23 _ hO
 have d1 : s0.cell? ⟨w.heap.size, 1, none⟩ = some (.int .i64 M) := cell_of_row _ _ _ _ 23 _ hO
 have d2 : s0.cell? ⟨w.heap.size, 2, none⟩ = some (.int .i64 C) := cell_of_row _ _ _ _ 23 _ hO
 have d3 : s0.cell? ⟨w.heap.size, 3, none⟩ = some (.int .i64 V) := cell_of_row _ _ _ _ 23 _ hO
 have hxl : w.heap.size < s0.heap.size := (Array.getElem?_eq_some_iff.1 hO).1
 obtain ⟨x, hx⟩ : ∃ x, w.heap.size = x := ⟨_, rfl⟩
 have HX : Hid (w.heap.size = x) := hx
 clear hE hN hLn hO
 go_enter Tryz.func85, Tryz.ntmps85
 go_wp2_with fail
 rw [hx] at d0 d1 d2 d3 hxl
 clear hs0 hx
 go_region_held3 (fun w2 => w2.cell? ⟨x, 0, none⟩ = some (.int .i64 K) ∧ w2.cell? ⟨x, 1, none⟩ = some (.int .i64 M) ∧ w2.cell? ⟨x, 2, none⟩ = some (.int .i64 C) ∧ w2.cell? ⟨x, 3, none⟩ = some (.int .i64 V)) (go_keep) ((go_at_call 136; refine (rvint_any _ _ (by omega)).mono ?_; rintro e w2 ⟨rfl, hb2⟩; have hB2 : Below s0.heap.size s0 w2 := (by first | exact hB2.trans (hb2.mono hB2.size) | exact hb2 | exact ((Below.refl _ _).drew).trans hb2); have q0 := (hB2.cell (p := ⟨x, 0, none⟩) hxl).trans d0; have q1 := (hB2.cell (p := ⟨x, 1, none⟩) hxl).trans d1; have q2 := (hB2.cell (p := ⟨x, 2, none⟩) hxl).trans d2; have q3 := (hB2.cell (p := ⟨x, 3, none⟩) hxl).trans d3))
 have HB2 : Hid (Below w.heap.size w w2) := HBX.out.trans (hB2.mono HBX.out.size)
 have he : (⟨#[86, 76, 84, 49]⟩ : ByteArray) ++ vint K ++ vint M ++ vint C ++ vint V ++ vint n = hdT K M C V n := rfl
 rw [he]
 obtain ⟨h, hh⟩ : ∃ h, hdT K M C V n = h := ⟨_, rfl⟩
 have HHH : Hid _ := hh
 rw [hh] at HH ⊢
 clear he hh q0 q1 q2 q3 d0 d1 d2 d3 k1 k2 k3 k4 k5 vK vM vC vV vn hv4 hB2 hb2
 go_wp2
 go_loopw [5, 6] (fun sv jv wr => ∃ j : Nat, j ≤ n ∧ jv = .int .i64 j ∧ sv = .string (lsR h Nm Ln j) ∧ Below w.heap.size w wr) (fun _ jv _ => n - (intOf jv).toNat)
 case atStart => exact ⟨0, by omega, rfl, rfl, HB2.out⟩
 case round =>
  obtain ⟨j, hj, rfl, rfl, hb⟩ := hrel
  by_cases hlt : j < n
  ·obtain ⟨b, ha, hbl, e0, e1⟩ := HE.out j hlt
   subst ha
   have g0 : wr.cell? ⟨b, j * 2, none⟩ = some (.string (Nm j)) := (hb.cell (p := ⟨b, j * 2, none⟩) hbl).trans e0
   have g1 : wr.cell? ⟨b, j * 2 + 1, none⟩ = some (.int .i64 (Ln j)) := (hb.cell (p := ⟨b, j * 2 + 1, none⟩) hbl).trans e1
   have z1 := lsR_size h Nm Ln HN.out j
   have z2 := HN.out j
   have z3 := vint_size (Nm j).size
   have z4 := vint_size (Ln j)
   have z5 := HLN.out j
   have HS : Hid (lsR h Nm Ln (j + 1) = lsR h Nm Ln j ++ vint (Nm j).size ++ Nm j ++ vint (Ln j)) := rfl
   have hh29 := HH.out
   obtain ⟨A, hA⟩ : ∃ A, lsR h Nm Ln j = A := ⟨_, rfl⟩
   obtain ⟨T, hT⟩ : ∃ T, Nm j = T := ⟨_, rfl⟩
   obtain ⟨L, hL⟩ : ∃ L, Ln j = L := ⟨_, rfl⟩
   rw [hA, hT, hL] at HS
   rw [hA] at z1 ⊢
   rw [hT] at g0 z2 z3
   rw [hL] at g1 z4 z5
   have k1 : ¬ (9223372036854775807 < A.size + (vint T.size).size) := by omega
   have k2 : ¬ (9223372036854775807 < A.size + (vint T.size).size + T.size) := by omega
   have k3 : ¬ (9223372036854775807 < A.size + (vint T.size).size + T.size + (vint L).size) := by omega
   have hbl2 : b < wr.heap.size := Nat.lt_of_lt_of_le hbl hb.size
   have HBR : Hid (Below w.heap.size w wr) := hb
   have hj0 : (0 : Int) ≤ (j : Int) := by omega
   have hjn : (j : Int) < (n : Int) := by omega
   clear hA hT hL e0 e1 hb
   go_wp2_with fail
   go_region_held3 (fun w2 => w2.cell? ⟨b, j * 2, none⟩ = some (.string T) ∧ w2.cell? ⟨b, j * 2 + 1, none⟩ = some (.int .i64 L)) (go_keep) ((go_at_call 136; refine (rvint_any _ _ (by omega)).mono ?_; rintro e w3 ⟨rfl, hb3⟩; have hB3 : Below wr.heap.size wr w3 := (by first | exact hB3.trans (hb3.mono hB3.size) | exact hb3 | exact ((Below.refl _ _).drew).trans hb3); have q0 := (hB3.cell (p := ⟨b, j * 2, none⟩) hbl2).trans g0; have q1 := (hB3.cell (p := ⟨b, j * 2 + 1, none⟩) hbl2).trans g1))
   have HB3 : Hid (Below w.heap.size w w3) := HBR.out.trans (hB3.mono HBR.out.size)
   clear q0 q1 g0 g1 hB3 hb3
   go_wp2
   go_roundw
   case rel => exact ⟨j + 1, by omega, by go_num, by rw [HS.out], HB3.out⟩
   case measure => simp [intOf]; omega
  ·have e : j = n := by omega
   subst e
   have HBR : Hid (Below w.heap.size w wr) := hb
   clear hb
   go_wp2
   go_ret
   exact ⟨by rw [HHH.out]; rfl, HBR.out⟩
theorem rooted_own (kt : Nat → Int) (l : ByteArray) (L : Nat → ByteArray) (n B : Nat) (v : Value) (w : World) (hl : l.size ≤ 1000000000) (hG : Gr kt w) (hL : ∀ i, i < n → (L i).size ≤ 32) (ho : w.ownsRow B 9 1 v n (txV L n)) :
  Calls Tryz.prog 86 #[.string l, v] w fun e w' => e = .returned (.string (⟨#[2]⟩ ++ l ++ topT (ofT kt) n L)) ∧ Below w.heap.size w w' := by
 refine rooted_any kt l L n v w hl hG hL ?_
 rcases ho.2 with ⟨h1, h2⟩ | ⟨g, cap, cur, hv, hb, hh, hnc, hcm, _⟩
 ·exact .inl ⟨h1, h2⟩
 ·refine .inr ⟨g, cap, hv, hnc, by unfold maxLen at hcm; omega, (Array.getElem?_eq_some_iff.1 hh).1, fun i hi => ?_⟩
  subst hv
  have h1 := ho.cellAt i (by omega)
  rw [Nat.zero_add]
  refine h1.trans ?_
  simp [txV, tI, hi]
theorem gmS_0 : ∀ n A P, gmS n A 0 P = P
 | 0, _, _ => rfl
 | n + 1, A, P => by rw [gmS]; simp; exact gmS_0 n _ P
theorem i64_xor_nat (a b : Nat) (ha : a < 9223372036854775808) (hb : b < 9223372036854775808) : bits .xor .i64 (a : Int) (b : Int) = ((a ^^^ b : Nat) : Int) := by
 have hx : a ^^^ b < 2 ^ 63 := Nat.xor_lt_two_pow (by omega) (by omega)
 have e : ∀ x : Nat, x < 9223372036854775808 → (BitVec.ofInt 64 (x : Int)).toNat = x := fun x h => by
  rw [BitVec.toNat_ofInt]; omega
 show IntKind.i64.wrap ((BitVec.ofInt 64 (a : Int) ^^^ BitVec.ofInt 64 (b : Int)).toNat : Int) = _
 rw [BitVec.toNat_xor, e a ha, e b hb, IntKind.wrap_i64]
 omega
theorem xt_B : allB 256 (fun A => decide (2 * A < 256) && (xt A == 2 * A) || decide (256 ≤ 2 * A) && (xt A == (2 * A) ^^^ 285)) = true := by decide +kernel
theorem xt_lo (A : Nat) (h : A < 256) (h2 : 2 * A < 256) : xt A = 2 * A := by
 have := allB_at _ 256 xt_B A h
 simp at this
 omega
theorem xt_hi (A : Nat) (h : A < 256) (h2 : 256 ≤ 2 * A) : xt A = (2 * A) ^^^ 285 := by
 have := allB_at _ 256 xt_B A h
 simp at this
 rcases this with h3 | h3
 ·omega
 ·exact h3.2
set_option maxHeartbeats 1000000 in
theorem mul_any (a b : Nat) (w : World) (ha : a < 256) (hb : b < 256) :
  Calls Tryz.prog 278 #[.int .i64 a, .int .i64 b] w fun e w' => e = .returned (.int .i64 (gm a b : Nat)) ∧ w' = w := by
 go_enter Tryz.func278, Tryz.ntmps278
 go_wp2
 go_loop [0, 1, 5] (fun x y p => ∃ k A B P : Nat, k ≤ 8 ∧ B < 2 ^ (8 - k) ∧ x = .int .i64 A ∧ y = .int .i64 B ∧ p = .int .i64 P ∧ A < 256 ∧ P < 256 ∧ gmS (8 - k) A B P = gm a b) (fun _ y _ => (intOf y).toNat)
 case atStart => exact ⟨0, a, b, 0, by omega, hb, rfl, rfl, rfl, ha, by omega, rfl⟩
 case round =>
  obtain ⟨k, A, B, P, hk, hB, rfl, rfl, rfl, hA, hP, hg⟩ := hrel
  have HG : Hid _ := hg
  have HBB : Hid _ := hB
  have hB8 : B < 256 := Nat.lt_of_lt_of_le hB (by exact Nat.pow_le_pow_right (n := 2) (by omega) (show 8 - k ≤ 8 by omega))
  clear hg hB
  by_cases hlt : 0 < B
  ·have hk8 : k < 8 := by
    rcases Nat.lt_or_ge k 8 with h | h
    ·exact h
    ·exfalso
     have := HBB.out
     rw [show 8 - k = 0 by omega] at this
     omega
   have HN : Hid (gmS (8 - (k + 1)) (xt A) (B / 2) (if B % 2 = 1 then P ^^^ A else P) = gm a b) := by
    show gmS (8 - (k + 1)) (xt A) (B / 2) (if B % 2 = 1 then P ^^^ A else P) = gm a b
    rw [← HG.out, show 8 - k = (8 - (k + 1)) + 1 by omega, gmS]
   have HB2 : Hid (B / 2 < 2 ^ (8 - (k + 1))) := by
    show B / 2 < 2 ^ (8 - (k + 1))
    have := HBB.out
    rw [show 8 - k = (8 - (k + 1)) + 1 by omega, Nat.pow_succ] at this
    omega
   have hx1 := i64_xor_nat P A (by omega) (by omega)
   have hx2 := i64_xor_nat (2 * A) 285 (by omega) (by omega)
   have HX1 : Hid _ := hx1
   have HX2 : Hid (bits .xor .i64 (2 * (A : Int)) 285 = ((2 * A ^^^ 285 : Nat) : Int)) := by show bits .xor .i64 (2 * (A : Int)) 285 = _; rw [← hx2]; rfl
   clear hx1 hx2
   have hlt' : (0 : Int) < (B : Int) := by omega
   by_cases hodd : B % 2 = 1
   ·by_cases hov : 256 ≤ 2 * A
    ·have ho' : (((B : Int) % 2) == 1) = true := by simp; omega
     have hv' : decide ((256 : Int) ≤ 2 * (A : Int)) = true := by simp; omega
     go_wp2
     go_round
     case rel =>
      refine ⟨k + 1, xt A, B / 2, (if B % 2 = 1 then P ^^^ A else P), by omega, HB2.out, ?_, by go_num, ?_, xt_lt A hA, ?_, HN.out⟩
      ·rw [xt_hi A hA hov, HX2.out]
      ·rw [if_pos hodd, HX1.out]
      ·rw [if_pos hodd]; exact Nat.xor_lt_two_pow (n := 8) hP hA
     case measure => simp [intOf]; omega
    ·have ho' : (((B : Int) % 2) == 1) = true := by simp; omega
     have hv' : decide ((256 : Int) ≤ 2 * (A : Int)) = false := by simp; omega
     go_wp2
     go_round
     case rel =>
      refine ⟨k + 1, xt A, B / 2, (if B % 2 = 1 then P ^^^ A else P), by omega, HB2.out, ?_, by go_num, ?_, xt_lt A hA, ?_, HN.out⟩
      ·rw [xt_lo A hA (by omega)]; go_num
      ·rw [if_pos hodd, HX1.out]
      ·rw [if_pos hodd]; exact Nat.xor_lt_two_pow (n := 8) hP hA
     case measure => simp [intOf]; omega
   ·by_cases hov : 256 ≤ 2 * A
    ·have ho' : (((B : Int) % 2) == 1) = false := by simp; omega
     have hv' : decide ((256 : Int) ≤ 2 * (A : Int)) = true := by simp; omega
     go_wp2
     go_round
     case rel =>
      refine ⟨k + 1, xt A, B / 2, (if B % 2 = 1 then P ^^^ A else P), by omega, HB2.out, ?_, by go_num, ?_, xt_lt A hA, ?_, HN.out⟩
      ·rw [xt_hi A hA hov, HX2.out]
      ·rw [if_neg hodd]
      ·rw [if_neg hodd]; exact hP
     case measure => simp [intOf]; omega
    ·have ho' : (((B : Int) % 2) == 1) = false := by simp; omega
     have hv' : decide ((256 : Int) ≤ 2 * (A : Int)) = false := by simp; omega
     go_wp2
     go_round
     case rel =>
      refine ⟨k + 1, xt A, B / 2, (if B % 2 = 1 then P ^^^ A else P), by omega, HB2.out, ?_, by go_num, ?_, xt_lt A hA, ?_, HN.out⟩
      ·rw [xt_lo A hA (by omega)]; go_num
      ·rw [if_neg hodd]
      ·rw [if_neg hodd]; exact hP
     case measure => simp [intOf]; omega
  ·have e : B = 0 := by omega
   have HE : Hid (gm a b = P) := by show gm a b = P; rw [← HG.out, e, gmS_0]
   clear HG HBB
   subst e
   rw [show (((0 : Nat)) : Int) = 0 from rfl]
   go_wp2
   go_ret
   exact ⟨by rw [HE.out]; rfl, rfl⟩
def gp (a : Nat) : Nat → Nat
 | 0 => 1
 | n + 1 => gm (gp a n) a
theorem gp_lt (a : Nat) : ∀ n, gp a n < 256
 | 0 => by show 1 < 256; omega
 | n + 1 => gm_lt _ _ (gp_lt a n)
theorem gp_B : allB 256 (fun a => gp a 254 == gi a) = true := by decide +kernel
theorem gp_gi (a : Nat) (h : a < 256) : gp a 254 = gi a := by
 have := allB_at _ 256 gp_B a h
 simpa using this
set_option maxHeartbeats 1000000 in
theorem rinv_any (a : Nat) (w : World) (ha : a < 256) :
  Calls Tryz.prog 307 #[.int .i64 a] w fun e w' => e = .returned (.int .i64 (gi a : Nat)) ∧ w' = w := by
 have HE : Hid (gi a = gp a 254) := (gp_gi a ha).symm
 go_enter Tryz.func307, Tryz.ntmps307
 go_wp2
 go_loop [4, 3] (fun iv p => ∃ k : Nat, k ≤ 254 ∧ iv = .int .i64 k ∧ p = .int .i64 (gp a k : Nat)) (fun iv _ => 254 - (intOf iv).toNat)
 case atStart => exact ⟨0, by omega, rfl, rfl⟩
 case round =>
  obtain ⟨k, hk, rfl, rfl⟩ := hrel
  have hp := gp_lt a k
  have HN : Hid (gp a (k + 1) = gm (gp a k) a) := rfl
  obtain ⟨q, hq⟩ : ∃ q, gp a k = q := ⟨_, rfl⟩
  rw [hq] at hp HN ⊢
  by_cases hlt : k < 254
  ·clear hq
   go_wp2_with fail
   refine (mul_any q a _ hp ha).mono ?_
   rintro e w' ⟨rfl, rfl⟩
   go_wp2
   go_round
   case rel => exact ⟨k + 1, by omega, by go_num, by rw [HN.out]⟩
   case measure => simp [intOf]; omega
  ·have e : k = 254 := by omega
   have HQ : Hid (gi a = q) := by show gi a = q; rw [HE.out, ← hq, e]
   clear hq
   go_wp2
   go_ret
   exact ⟨by rw [HQ.out]; rfl, rfl⟩
end Go.Proofs.YtadinjaocnlglaaGreatDoor
