/-
  What Parity and Restore answer; the refusals of Parity, both.
  The walks of pick, sameTexts.
  The walks of layout's cut, share, countStripes, CountBlocks.
  The walks of layout's countStripes, CountBlocks.
  The walks of layout.CheckParams (nothing refused) and of vaultkeep's params.
  The walks of draft's New, checkState (neither closed nor broken), letGo.
-/
import Derived.Test.YtadinjaocnlglaaGreatDoorZ11
import Derived.Test.YtadinjaocnlglaaGreatDoorZ07
import Derived.Test.YtadinjaocnlglaaGreatDoorZ06
import Derived.WalkKit
import Derived.WalkSpells
import Derived.WalkLawsBesides
import Derived.BigRegion
import Derived.BigQuiet
import Derived.Deep.QuietTactic
import Derived.Deep.RegionWith
import Derived.Deep.RegionHeld3
import Derived.Test.YtadinjaocnlglaaGreatDoorZ03
import Derived.Test.YtadinjaocnlglaaGreatDoorZ04
namespace Go.Proofs.YtadinjaocnlglaaGreatDoor
open Go.RowKit
set_option maxRecDepth 100000
set_option maxHeartbeats 1000000
/-- an answer: an error's kind and place, or so many texts -/
abbrev Out : Type := (Int × Int) ⊕ (Nat × (Nat → ByteArray))
abbrev Out.bad (k i : Int) : Out := .inl (k, i)
abbrev Out.good (n : Nat) (T : Nat → ByteArray) : Out := .inr (n, T)
/-- an answer, as the program gives it -/
def GoOut (w : World) (o : Out) (x y : Value) (w' : World) : Prop := match o with
  | .inl (k, i) => ∃ g, x = .slice none 0 0 ∧ y = .iface 305 (.pointer (some ⟨g, 0, none⟩)) ∧ w.heap.size ≤ g ∧ w'.heap[g]? = some (.cells #[.int .i64 k, .int .i64 i, .nilIface] 307 (0, 0)) ∧ Below w.heap.size w w'
  | .inr (n, T) => ∃ g, x = .slice (some ⟨g, 0, none⟩) n n ∧ y = .nilIface ∧ w.heap.size ≤ g ∧ Rw w' g n 9 (tI T) ∧ Below w.heap.size w w'
/-- an answer, as the document's answer gives it -/
def RefOut (w : World) (o : Out) (x y : Value) (w' : World) : Prop := match o with
  | .inl (k, i) => ∃ g c, x = .slice none 0 0 ∧ y = .slice (some ⟨g, 0, none⟩) 1 c ∧ w'.cell? ⟨g, 0, none⟩ = some (.int .i64 k) ∧ w'.cell? ⟨g, 1, none⟩ = some (.int .i64 i) ∧ Below w.heap.size w w'
  | .inr (n, T) => y = .slice none 0 0 ∧ w'.ownsRow w.heap.size 9 1 x n ((List.range n).map fun i => .string (T i)) ∧ Below w.heap.size w w'
theorem goBad (w w' : World) (k i : Int) (hb : Below w.heap.size w w') : GoOut w (.bad k i) (.slice none 0 0) (.iface 305 (.pointer (some ⟨w'.heap.size, 0, none⟩))) (w'.alloc (.cells #[.int .i64 k, .int .i64 i, .nilIface] 307)) :=
  ⟨w'.heap.size, rfl, rfl, hb.size, heap_alloc_new _ _, hb.alloc hb.size _⟩
theorem refBad (w w' : World) (k i : Int) (hb : Below w.heap.size w w') : RefOut w (.bad k i) (.slice none 0 0) (.slice (some ⟨w'.heap.size, 0, none⟩) 1 1) (w'.alloc (.cells #[.int .i64 k, .int .i64 i] 250)) :=
  ⟨w'.heap.size, 1, rfl, rfl, cell_of_row _ _ 0 _ 250 _ (heap_alloc_new _ _), cell_of_row _ _ 1 _ 250 _ (heap_alloc_new _ _), hb.alloc hb.size _⟩
/-- the params are none, at i -/
def NoPar (K M i : Int) : Prop := (i = 0 ∧ K < 1) ∨ (i = 0 ∧ 255 < K) ∨ (i = 1 ∧ 1 ≤ K ∧ K ≤ 255 ∧ M < 0) ∨ (i = 1 ∧ 1 ≤ K ∧ K ≤ 255 ∧ 0 ≤ M ∧ 255 - K < M)
theorem cp_bad (K M i : Int) (w : World) (h : NoPar K M i) :
    Calls Tryz.prog 190 #[.int .i64 K, .int .i64 M] w fun e w' => e = .returned (.iface 305 (.pointer (some ⟨w.heap.size, 0, none⟩))) ∧ w' = w.alloc (.cells #[.int .i64 1, .int .i64 i, .nilIface] 307) := by
  rcases h with ⟨rfl, h⟩ | ⟨rfl, h⟩ | ⟨rfl, h1, h2, h⟩ | ⟨rfl, h1, h2, h3, h⟩
  · go_enter Tryz.func190, Tryz.ntmps190
    go_wp2_with (go_at_call 151; refine (At_any 1 0 _).mono ?_; rintro e w' ⟨rfl, rfl⟩)
    go_ret
    exact ⟨rfl, rfl⟩
  · have h0 : 1 ≤ K := by omega
    go_enter Tryz.func190, Tryz.ntmps190
    go_wp2_with (go_at_call 151; refine (At_any 1 0 _).mono ?_; rintro e w' ⟨rfl, rfl⟩)
    go_ret
    exact ⟨rfl, rfl⟩
  · go_enter Tryz.func190, Tryz.ntmps190
    go_wp2_with (go_at_call 151; refine (At_any 1 1 _).mono ?_; rintro e w' ⟨rfl, rfl⟩)
    go_ret
    exact ⟨rfl, rfl⟩
  · go_enter Tryz.func190, Tryz.ntmps190
    go_wp2_with (go_at_call 151; refine (At_any 1 1 _).mono ?_; rintro e w' ⟨rfl, rfl⟩)
    go_ret
    exact ⟨rfl, rfl⟩
theorem pt_bad (K M i : Int) (w : World) (h : NoPar K M i) :
    Calls Tryz.prog 235 #[.int .i64 K, .int .i64 M] w fun e w' => e = .returned (.slice (some ⟨w.heap.size, 0, none⟩) 1 1) ∧ w' = w.alloc (.cells #[.int .i64 1, .int .i64 i] 250) := by
  rcases h with ⟨rfl, h⟩ | ⟨rfl, h⟩ | ⟨rfl, h1, h2, h⟩ | ⟨rfl, h1, h2, h3, h⟩
  · go_enter Tryz.func235, Tryz.ntmps235
    go_wp2_with (go_at_call 91; refine (at_any 1 0 _).mono ?_; rintro e w' ⟨rfl, rfl⟩)
    go_ret
    exact ⟨rfl, rfl⟩
  · have h0 : 1 ≤ K := by omega
    go_enter Tryz.func235, Tryz.ntmps235
    go_wp2_with (go_at_call 91; refine (at_any 1 0 _).mono ?_; rintro e w' ⟨rfl, rfl⟩)
    go_ret
    exact ⟨rfl, rfl⟩
  · go_enter Tryz.func235, Tryz.ntmps235
    go_wp2_with (go_at_call 91; refine (at_any 1 1 _).mono ?_; rintro e w' ⟨rfl, rfl⟩)
    go_ret
    exact ⟨rfl, rfl⟩
  · go_enter Tryz.func235, Tryz.ntmps235
    go_wp2_with (go_at_call 91; refine (at_any 1 1 _).mono ?_; rintro e w' ⟨rfl, rfl⟩)
    go_ret
    exact ⟨rfl, rfl⟩
theorem pt_ok (k m : Nat) (w : World) (hk1 : 1 ≤ k) (hkm : k + m ≤ 255) :
    Calls Tryz.prog 235 #[.int .i64 k, .int .i64 m] w fun e w' => e = .returned (.slice none 0 0) ∧ w' = w := by
  have h1 : (1 : Int) ≤ (k : Int) := by omega
  have h2 : (k : Int) ≤ 255 := by omega
  have h3 : (0 : Int) ≤ (m : Int) := by omega
  have h4 : (m : Int) ≤ 255 - (k : Int) := by omega
  go_enter Tryz.func235, Tryz.ntmps235
  go_wp2
  go_ret
  exact ⟨rfl, rfl⟩
/-- every K and M: they are none, or they are -/
theorem par_cases (K M : Int) : (∃ i, NoPar K M i) ∨ ∃ k m : Nat, K = k ∧ M = m ∧ 1 ≤ k ∧ k + m ≤ 255 := by
  by_cases h1 : K < 1
  · exact .inl ⟨0, .inl ⟨rfl, h1⟩⟩
  by_cases h2 : 255 < K
  · exact .inl ⟨0, .inr (.inl ⟨rfl, h2⟩)⟩
  by_cases h3 : M < 0
  · exact .inl ⟨1, .inr (.inr (.inl ⟨rfl, by omega, by omega, h3⟩))⟩
  by_cases h4 : 255 - K < M
  · exact .inl ⟨1, .inr (.inr (.inr ⟨rfl, by omega, by omega, by omega, h4⟩))⟩
  exact .inr ⟨K.toNat, M.toNat, by omega, by omega, by omega, by omega⟩
/-- the program's Parity answers o -/
def PGo (o : Out) (K M : Int) (v : Value) (w : World) : Prop := Calls Tryz.prog 83 #[.int .i64 K, .int .i64 M, v] w fun e w' => ∃ x y, e = .returned (.tuple #[x, y]) ∧ GoOut w o x y w'
theorem vpar_wrap (o : Out) (K M : Int) (v : Value) (w : World) (H : Calls Tryz.prog 128 #[.int .i64 K, .int .i64 M, v] w fun e w' => ∃ x y, e = .returned (.tuple #[x, y]) ∧ GoOut w o x y w') : PGo o K M v w := by
  have H' : Hid _ := H
  clear H
  unfold PGo
  go_enter Tryz.func83, Tryz.ntmps83
  go_wp2_with fail
  refine Calls.mono H'.out ?_
  rintro e w1 ⟨x, y, rfl, hO⟩
  go_wp2
  go_ret2
  exact ⟨x, y, rfl, hO⟩
theorem par_params (K M i : Int) (v : Value) (w : World) (h : NoPar K M i) : PGo (.bad 1 i) K M v w := by
  refine vpar_wrap _ K M v w ?_
  have H : Hid _ := cp_bad K M i w h
  clear h
  go_enter Tryz.func128, Tryz.ntmps128
  go_wp2_with fail
  refine Calls.mono H.out ?_
  rintro e w1 ⟨rfl, rfl⟩
  go_wp2
  go_ret2
  exact ⟨_, _, rfl, goBad w w 1 i (Below.refl _ _)⟩
theorem par_range (k m n cap : Nat) (a : Option Addr) (w : World) (hk1 : 1 ≤ k) (hkm : k + m ≤ 255) (hn : n ≠ k) : PGo (.bad 15 n) k m (.slice a n cap) w := by
  refine vpar_wrap _ k m _ w ?_
  have hne : ((n : Int) != (k : Int)) = true := by rw [bne_iff_ne]; omega
  go_enter Tryz.func128, Tryz.ntmps128
  go_wp2_with fail
  refine (checkParams_ok k m w hk1 hkm).mono ?_
  rintro e w1 ⟨rfl, rfl⟩
  go_wp2_with fail
  refine (At_any 15 n w1).mono ?_
  rintro e w2 ⟨rfl, rfl⟩
  go_wp2
  go_ret2
  exact ⟨_, _, rfl, goBad w1 w1 15 n (Below.refl _ _)⟩
theorem par_big (S : Nat → ByteArray) (k m b cap i0 : Nat) (w : World) (hk1 : 1 ≤ k) (hkm : k + m ≤ 255) (hi0 : i0 < k) (h1 : (S i0).size ≠ (S 0).size) (h2 : ∀ j, j < i0 → (S j).size = (S 0).size) (hC : Cl w b k (tI S)) : PGo (.bad 4 i0) k m (.slice (some ⟨b, 0, none⟩) k cap) w := by
  refine vpar_wrap _ k m _ w ?_
  have HC : Hid _ := hC
  have H1 : Hid _ := h1
  have H2 : Hid _ := h2
  clear hC h1 h2
  go_enter Tryz.func128, Tryz.ntmps128
  go_wp2_with (go_at_call 190; refine (checkParams_ok k m _ hk1 hkm).mono ?_; rintro e w' ⟨rfl, rfl⟩)
  go_loop [26] (fun iv => ∃ i : Nat, i ≤ i0 ∧ iv = .int .i64 i) (fun iv => k - (intOf iv).toNat)
  case atStart => exact ⟨0, by omega, rfl⟩
  case round =>
    obtain ⟨i, hi, rfl⟩ := hrel
    have hlt : i < k := by omega
    have c1 : w'.cell? ⟨b, i, none⟩ = some (.string (S i)) := HC.out i hlt
    have c2 : w'.cell? ⟨b, 0, none⟩ = some (.string (S 0)) := HC.out 0 (by omega)
    have hk0 : (0 : Int) < (k : Int) := by omega
    by_cases he : i < i0
    · have hne : (((S i).size : Int) != ((S 0).size : Int)) = false := by rw [bne_eq_false_iff_eq, H2.out i he]
      go_wp2
      go_round
      case rel => exact ⟨i + 1, by omega, by go_num⟩
      case measure => simp [intOf]; omega
    · have e : i = i0 := by omega
      subst e
      have hne : (((S i).size : Int) != ((S 0).size : Int)) = true := by rw [bne_iff_ne]; exact fun h => H1.out (Int.ofNat.inj h)
      go_wp2_with fail
      refine (At_any 4 i w').mono ?_
      rintro e w2 ⟨rfl, rfl⟩
      go_wp2
      go_ret2
      exact ⟨_, _, rfl, goBad w' w' 4 i (Below.refl _ _)⟩
end Go.Proofs.YtadinjaocnlglaaGreatDoor
namespace Go.Proofs.YtadinjaocnlglaaGreatDoor
open Go.RowKit
def absN (c : Int) : Nat := if c < 0 then (-(c + 1)).toNat else c.toNat
def pk (c : Int) (n : Nat) : Nat := absN c % n
theorem pk_lt (c : Int) (n : Nat) (hn : 0 < n) : pk c n < n := Nat.mod_lt _ hn
set_option maxHeartbeats 400000 in
theorem pick_any (c : Int) (n : Nat) (w : World) (hn : 0 < n) (hn2 : n ≤ 1000) (h0 : -9223372036854775808 ≤ c) (h1 : c ≤ 9223372036854775807) :
    Calls Tryz.prog 54 #[.int .i64 c, .int .i64 n] w fun e w' => e = .returned (.int .i64 (pk c n)) ∧ w' = w := by
  by_cases hc : c < 0
  · have E : Hid (-((c + 1).tmod (n : Int)) = ((pk c n : Nat) : Int)) := by
      show -((c + 1).tmod (n : Int)) = ((pk c n : Nat) : Int)
      unfold pk absN
      rw [if_pos hc, ← Int.neg_tmod]
      obtain ⟨a, ha⟩ : ∃ a : Nat, -(c + 1) = (a : Int) := ⟨(-(c + 1)).toNat, by omega⟩
      rw [ha, Int.toNat_natCast]
      exact Int.ofNat_tmod a n
    go_enter Tryz.func54, Tryz.ntmps54
    go_wp2
    go_ret
    rw [E.out]
    exact ⟨rfl, rfl⟩
  · have E : Hid (c % (n : Int) = ((pk c n : Nat) : Int)) := by
      show c % (n : Int) = ((pk c n : Nat) : Int)
      unfold pk absN
      rw [if_neg hc]
      obtain ⟨a, ha⟩ : ∃ a : Nat, c = (a : Int) := ⟨c.toNat, by omega⟩
      rw [ha, Int.toNat_natCast]
      exact (Int.natCast_emod a n).symm
    go_enter Tryz.func54, Tryz.ntmps54
    go_wp2
    go_ret
    rw [E.out]
    exact ⟨rfl, rfl⟩
set_option maxHeartbeats 400000 in
theorem same_any (A B : Nat → ByteArray) (n b cap b2 cap2 : Nat) (w : World) (hn : n ≤ 1000) (hA : Cl w b n (tI A)) (hB : Cl w b2 n (tI B)) (h : ∀ i, i < n → A i = B i) :
    Calls Tryz.prog 18 #[.slice (some ⟨b, 0, none⟩) n cap, .slice (some ⟨b2, 0, none⟩) n cap2] w fun e w' => e = .returned (.bool true) ∧ Below w.heap.size w w' := by
  have HA : Hid _ := hA
  have HB : Hid _ := hB
  have H : Hid _ := h
  clear hA hB h
  go_enter Tryz.func18, Tryz.ntmps18
  go_wp2
  go_loopw [5] (fun iv wr => ∃ i q : Nat, i ≤ n ∧ iv = .int .i64 i ∧ wr = w.drewN q) (fun iv _ => n - (intOf iv).toNat)
  case atStart => exact ⟨0, 0, by omega, rfl, rfl⟩
  case round =>
    obtain ⟨i, q, hi, rfl, hq⟩ := hrel
    by_cases hlt : i < n
    · have c1 : wr.cell? ⟨b, i, none⟩ = some (.string (A i)) := by rw [hq]; exact HA.out i hlt
      have c2 : wr.cell? ⟨b2, i, none⟩ = some (.string (A i)) := by rw [hq, H.out i hlt]; exact HB.out i hlt
      have HQ : Hid _ := hq
      clear hq
      have hi0' : (0 : Int) ≤ (i : Int) := by omega
      have hin' : (i : Int) < (n : Int) := by omega
      go_wp2
      go_quiet (fail)
      go_wp2
      go_roundw
      case rel => exact ⟨i + 1, _, by omega, by go_num, by rw [HQ.out, World.drewN_drewN]⟩
      case measure => simp [intOf]; omega
    · go_wp2
      go_ret
      exact ⟨rfl, below_drewN (Below.refl _ _) q⟩
end Go.Proofs.YtadinjaocnlglaaGreatDoor
namespace Go.Proofs.YtadinjaocnlglaaGreatDoor
open Go.RowKit
set_option maxRecDepth 100000
set_option maxHeartbeats 1000000
/-- the i-th piece of a text -/
def pc (s : ByteArray) (z i : Nat) : ByteArray := s.extract (i * z) ((i + 1) * z)
theorem pc_size (s : ByteArray) (z c i : Nat) (hs : s.size = c * z) (hi : i < c) : (pc s z i).size = z := by
  unfold pc
  rw [ByteArray.size_extract]
  have h1 : (i + 1) * z ≤ c * z := Nat.mul_le_mul_right z (by omega)
  rw [Nat.min_eq_left (by omega), Nat.succ_mul]
  omega
def tX (S : Nat → ByteArray) : Nat → Value := fun i => .string (S i)
theorem wrap_div (p V : Nat) (hp : p ≤ 1000000000000) : wrap64 ((p : Int) / (V : Int)) = ((p / V : Nat) : Int) := by
  have h : p / V ≤ p := Nat.div_le_self p V
  rw [← Int.natCast_ediv]
  obtain ⟨q, hq⟩ : ∃ q, p / V = q := ⟨_, rfl⟩
  rw [hq] at h ⊢
  unfold wrap64
  omega
theorem share_any (V n v : Nat) (w : World) (hV : 0 < V) (hV2 : V ≤ 1000) (hn : n ≤ 100000) (hv : v ≤ 1000) :
    Calls Tryz.prog 185 #[.int .i64 V, .int .i64 n, .int .i64 v] w fun e w' => e = .returned (.tuple #[.int .i64 ((v * n / V : Nat) : Int), .int .i64 (((v + 1) * n / V : Nat) : Int)]) ∧ ∃ q, w' = w.drewN q := by
  have h1 : v * n ≤ 100000000 := Nat.le_trans (Nat.mul_le_mul hv hn) (by omega)
  have h2 : (v + 1) * n ≤ 200000000 := Nat.le_trans (Nat.mul_le_mul (Nat.add_le_add_right hv 1) hn) (by omega)
  obtain ⟨p, hp⟩ : ∃ p, v * n = p := ⟨_, rfl⟩
  obtain ⟨p2, hp2⟩ : ∃ p2, (v + 1) * n = p2 := ⟨_, rfl⟩
  have e1 : (v : Int) * (n : Int) = ((p : Nat) : Int) := by rw [← hp]; simp
  have e2 : ((v : Int) + 1) * (n : Int) = ((p2 : Nat) : Int) := by rw [← hp2]; simp
  have hV0 : ((V : Int) == 0) = false := by simp; omega
  rw [hp] at h1 ⊢
  rw [hp2] at h2 ⊢
  clear hp hp2
  have d1 := wrap_div p V (by omega)
  have d2 := wrap_div p2 V (by omega)
  go_enter Tryz.func185, Tryz.ntmps185
  go_wp2
  go_quiet (fail)
  go_wp2
  go_ret2
  refine ⟨?_, nq, rfl⟩
  show Ending.returned (.tuple #[.int .i64 (wrap64 ((p : Int) / (V : Int))), .int .i64 (wrap64 ((p2 : Int) / (V : Int)))]) = _
  rw [d1, d2]
theorem cut_any (s : ByteArray) (z c : Nat) (w : World) (hz : 0 < z) (hz2 : z ≤ 100000) (hc : c ≤ 100000) (hs : s.size = c * z) :
    Calls Tryz.prog 203 #[.string s, .int .i64 z] w fun e w' => e = .returned (.slice (some ⟨w.heap.size, 0, none⟩) c c) ∧ Rw w' w.heap.size c 9 (tX (pc s z)) ∧ Below w.heap.size w w' := by
  have hsz : s.size ≤ 10000000000 := by rw [hs]; exact Nat.le_trans (Nat.mul_le_mul hc hz2) (by omega)
  have hq0 : s.size / z = c := by rw [hs]; exact Nat.mul_div_cancel _ hz
  have hd := wrap_div s.size z (by omega)
  rw [hq0] at hd
  have hz0 : ((z : Int) == 0) = false := by simp; omega
  have hmk := run_make_row' (P := Tryz.prog) 42 9 (.string ⟨#[]⟩) 16 Tryz.underlying42 info9 rfl .i64 .i64 c (by omega) (by omega)
  have HS : Hid _ := hs
  clear hs hq0
  go_enter Tryz.func203, Tryz.ntmps203
  go_wp2
  go_loopw [14] (fun iv wr => ∃ i : Nat, i ≤ c ∧ iv = .int .i64 i ∧ Below w.heap.size w wr ∧ Rw wr w.heap.size c 9 (part' i (tX (pc s z)) (.string ⟨#[]⟩))) (fun iv _ => c - (intOf iv).toNat)
  case atStart => exact ⟨0, by omega, rfl, (Below.refl _ _).alloc (Nat.le_refl _) _, (Rw.made w c 9 (.string ⟨#[]⟩)).to (fun j _ => (part_0 _ _ j).symm)⟩
  case round =>
    obtain ⟨i, hi, rfl, hb, hR⟩ := hrel
    by_cases hlt : i < c
    · have c1 := hR.cell i hlt
      have c2 := hR.free i
      have hle : (i + 1) * z ≤ s.size := by rw [HS.out]; exact Nat.mul_le_mul_right z (by omega)
      have hll : i * z ≤ (i + 1) * z := Nat.mul_le_mul_right z (by omega)
      obtain ⟨lo, hlo⟩ : ∃ lo, i * z = lo := ⟨_, rfl⟩
      obtain ⟨up, hup⟩ : ∃ up, (i + 1) * z = up := ⟨_, rfl⟩
      have e1 : (i : Int) * (z : Int) = ((lo : Nat) : Int) := by rw [← hlo]; simp
      have e2 : ((i : Int) + 1) * (z : Int) = ((up : Nat) : Int) := by rw [← hup]; simp
      rw [hlo, hup] at hll
      rw [hup] at hle
      have HPC : Hid (pc s z i = s.extract lo up) := by show pc s z i = s.extract lo up; unfold pc; rw [hlo, hup]
      clear hlo hup
      have hsl : ∀ W, (Instr.slice 9 (.string s) (some (.int .i64 ((lo : Nat) : Int))) (some (.int .i64 ((up : Nat) : Int))) none).run Tryz.prog W = .ok (.string (s.extract lo up)) W := fun W => by
        rw [run_slice_string W 9 s .i64 .i64 _ _ Tryz.underlying9 (by omega) (by omega) (by omega), Int.toNat_natCast, Int.toNat_natCast]
      have hc' : (i : Int) < (c : Int) := by omega
      go_wp2
      go_roundw
      case rel => exact ⟨i + 1, by omega, by go_num, hb.setCell (Nat.le_refl _) _, (hR.put i _).to (fun j _ => by rw [← HPC.out, ← part_step]; rfl)⟩
      case measure => simp [intOf]; omega
    · have e : i = c := by omega
      subst e
      go_wp2
      go_ret
      exact ⟨rfl, hR.to (fun j hj => by simp [part', hj]), hb⟩
end Go.Proofs.YtadinjaocnlglaaGreatDoor
namespace Go.Proofs.YtadinjaocnlglaaGreatDoor
open Go.RowKit
set_option maxRecDepth 100000
set_option maxHeartbeats 1000000
/-- params, as a value -/
def pV (K M C V : Nat) : Value := .agg #[.int .i64 K, .int .i64 M, .int .i64 C, .int .i64 V]
/-- how many stripes -/
def nst (z len : Nat) : Nat := (len + z - 1) / z
theorem countStripes_any (K M C V len z : Nat) (w : World) (hz : K * C = z) (hz0 : 0 < z) (hz1 : z ≤ 100000) (hl : len ≤ 100000) :
    Calls Tryz.prog 197 #[.agg #[.int .i64 K, .int .i64 M, .int .i64 C, .int .i64 V], .int .i64 len] w fun e w' => e = .returned (.int .i64 (nst z len : Nat)) ∧ Below w.heap.size w w' := by
  have e1 : (K : Int) * (C : Int) = (z : Int) := by rw [← hz]; simp
  have e2 : (len : Int) + (z : Int) - 1 = ((len + z - 1 : Nat) : Int) := by omega
  have d1 : ((len : Int) + (z : Int) - 1) / (z : Int) = (((len + z - 1) / z : Nat) : Int) := by rw [e2, Int.natCast_ediv]
  have hne : ((z : Int) == 0) = false := by simp; omega
  unfold nst
  have D1 : Hid _ := d1
  clear hz e2 d1
  go_enter Tryz.func197, Tryz.ntmps197
  go_wp2
  go_ret
  refine ⟨?_, (Below.refl _ _).alloc (Nat.le_refl _) _⟩
  show Ending.returned (.int .i64 (((len : Int) + (z : Int) - 1) / (z : Int))) = _
  rw [D1.out]
theorem countBlocks_any (K M C V len z : Nat) (w : World) (hz : K * C = z) (hz0 : 0 < z) (hz1 : z ≤ 100000) (hl : len ≤ 100000) (hK : K ≤ 1000) (hM : M ≤ 1000) :
    Calls Tryz.prog 154 #[.agg #[.int .i64 K, .int .i64 M, .int .i64 C, .int .i64 V], .int .i64 len] w fun e w' => e = .returned (.int .i64 (nst z len * (K + M) : Nat)) ∧ Below w.heap.size w w' := by
  have H : Hid (∀ W, _) := fun W => countStripes_any K M C V len z W hz hz0 hz1 hl
  have hns : nst z len ≤ 200000 := Nat.le_trans (Nat.div_le_self _ _) (by omega)
  obtain ⟨n, hn⟩ : ∃ n, nst z len = n := ⟨_, rfl⟩
  rw [hn] at H hns ⊢
  have h1 : n * (K + M) ≤ 400000000 := Nat.le_trans (Nat.mul_le_mul hns (show K + M ≤ 2000 by omega)) (by omega)
  obtain ⟨r, hr⟩ : ∃ r, n * (K + M) = r := ⟨_, rfl⟩
  have e1 : (n : Int) * ((K : Int) + (M : Int)) = (r : Int) := by rw [← hr]; simp
  rw [hr] at h1 ⊢
  clear hn hr hz
  go_enter Tryz.func154, Tryz.ntmps154
  go_wp2
  obtain ⟨s0, hs0⟩ : ∃ s0, s0 = w.alloc (Obj.cells #[Value.int IntKind.i64 K, Value.int IntKind.i64 M, Value.int IntKind.i64 C, Value.int IntKind.i64 V] 23) := ⟨_, rfl⟩
  have hO : s0.heap[w.heap.size]? = some (.cells #[.int .i64 K, .int .i64 M, .int .i64 C, .int .i64 V] 23 (0, 0)) := by rw [hs0]; exact heap_alloc_new _ _
  have HB0 : Hid (Below w.heap.size w s0) := by show Below _ _ _; rw [hs0]; exact (Below.refl _ _).alloc (Nat.le_refl _) _
  rw [← hs0]
  clear hs0
  obtain ⟨x, hx⟩ : ∃ x, x = w.heap.size := ⟨_, rfl⟩
  rw [← hx] at hO ⊢
  have HX : Hid _ := hx
  clear hx
  have c0 : s0.cell? ⟨x, 0, none⟩ = some (.int .i64 K) := cell_of_row _ _ _ _ 23 _ hO
  have c1 : s0.cell? ⟨x, 1, none⟩ = some (.int .i64 M) := cell_of_row _ _ _ _ 23 _ hO
  have c2 : s0.cell? ⟨x, 2, none⟩ = some (.int .i64 C) := cell_of_row _ _ _ _ 23 _ hO
  have c3 : s0.cell? ⟨x, 3, none⟩ = some (.int .i64 V) := cell_of_row _ _ _ _ 23 _ hO
  clear hO
  go_region_held3 (fun w' => w'.cell? ⟨x, 0, none⟩ = some (.int .i64 K) ∧ w'.cell? ⟨x, 1, none⟩ = some (.int .i64 M) ∧ w'.cell? ⟨x, 2, none⟩ = some (.int .i64 C) ∧ w'.cell? ⟨x, 3, none⟩ = some (.int .i64 V)) (go_keep) (first | (go_at_call 197; refine Calls.mono (H.out _) ?_; rintro e r1 ⟨rfl, hb1⟩; have hxl := block_lt_of_cell c0; have d0 : r1.cell? ⟨x, 0, none⟩ = some (.int .i64 K) := (hb1.cell (p := ⟨x, 0, none⟩) hxl).trans c0; have d1 : r1.cell? ⟨x, 1, none⟩ = some (.int .i64 M) := (hb1.cell (p := ⟨x, 1, none⟩) hxl).trans c1; have d2 : r1.cell? ⟨x, 2, none⟩ = some (.int .i64 C) := (hb1.cell (p := ⟨x, 2, none⟩) hxl).trans c2; have d3 : r1.cell? ⟨x, 3, none⟩ = some (.int .i64 V) := (hb1.cell (p := ⟨x, 3, none⟩) hxl).trans c3))
  go_wp2
  go_ret
  have a1 : IntKind.i64.wrap ((K : Int) + (M : Int)) = (K : Int) + (M : Int) := by rw [IntKind.wrap_i64]; omega
  have a2 : IntKind.i64.wrap (r : Int) = (r : Int) := by rw [IntKind.wrap_i64]; omega
  refine ⟨?_, ?_⟩
  · show Ending.returned (.int .i64 (IntKind.i64.wrap ((n : Int) * IntKind.i64.wrap ((K : Int) + (M : Int))))) = _
    rw [a1, e1, a2]
  · have hb2 : Below s0.heap.size s0 r1 := by first | exact hb1 | exact ((Below.refl _ _).drew).trans hb1
    exact HB0.out.trans (hb2.mono HB0.out.size)
end Go.Proofs.YtadinjaocnlglaaGreatDoor
namespace Go.Proofs.YtadinjaocnlglaaGreatDoor
open Go.RowKit
set_option maxRecDepth 100000
set_option maxHeartbeats 1000000
theorem lcheck_ok (K M C V : Nat) (w : World) (hK : 1 ≤ K) (hKM : K + M ≤ 255) (hC : 1 ≤ C) (hC2 : C ≤ 64) (hV : 1 ≤ V) (hV2 : V ≤ 16) :
    Calls Tryz.prog 140 #[pV K M C V] w fun e w' => e = .returned .nilIface ∧ Below w.heap.size w w' := by
  have c1 : (1 : Int) ≤ (C : Int) := by omega
  have c2 : (C : Int) ≤ 64 := by omega
  have v1 : (1 : Int) ≤ (V : Int) := by omega
  have v2 : (V : Int) ≤ 16 := by omega
  unfold pV
  go_enter Tryz.func140, Tryz.ntmps140
  go_wp2_with fail
  refine (checkParams_ok K M _ hK hKM).mono ?_
  rintro e w' ⟨rfl, rfl⟩
  go_wp2
  go_ret
  exact ⟨rfl, (Below.refl _ _).alloc (Nat.le_refl _) _⟩
end Go.Proofs.YtadinjaocnlglaaGreatDoor
namespace Go.Proofs.YtadinjaocnlglaaGreatDoor
open Go.RowKit
set_option maxRecDepth 100000
set_option maxHeartbeats 1000000
theorem state_ok (g : Nat) (w : World) (h8 : w.cell? ⟨g, 8, none⟩ = some (.bool false)) (h11 : w.cell? ⟨g, 11, none⟩ = some (.bool false)) :
    Calls Tryz.prog 148 #[.pointer (some ⟨g, 0, none⟩)] w fun e w' => e = .returned .nilIface ∧ w' = w := by
  go_enter Tryz.func148, Tryz.ntmps148
  go_wp2
  go_ret
  exact ⟨rfl, rfl⟩
theorem letGo_any (g : Nat) (w : World) (v4 v5 : Value) (h4 : w.cell? ⟨g, 4, none⟩ = some v4) (h5 : w.cell? ⟨g, 5, none⟩ = some v5) (hf : ∀ k, w.frozen? ⟨g, k, none⟩ = false) :
    Calls Tryz.prog 152 #[.pointer (some ⟨g, 0, none⟩)] w fun e w' => e = .returned (.tuple #[]) ∧ w' = (w.setCell ⟨g, 4, none⟩ (.map none)).setCell ⟨g, 5, none⟩ (.pointer none) := by
  have f4 := hf 4
  have f5 := hf 5
  go_enter Tryz.func152, Tryz.ntmps152
  go_wp2
  go_end0
  exact ⟨rfl, rfl⟩
/-- a Draft's cells -/
def dC (K M C V : Nat) (obj last : Value) (n len : Nat) : Array Value :=
  #[.int .i64 K, .int .i64 M, .int .i64 C, .int .i64 V, obj, last, .int .i64 n, .int .i64 len, .bool false, .int .i64 0, .int .i64 0, .bool false]
theorem new_ok (K M C V : Nat) (w : World) (hK : 1 ≤ K) (hKM : K + M ≤ 255) (hC : 1 ≤ C) (hC2 : C ≤ 64) (hV : 1 ≤ V) (hV2 : V ≤ 16) :
    Calls Tryz.prog 89 #[pV K M C V] w fun e w' => ∃ m, e = .returned (.tuple #[.pointer (some ⟨m + 1, 0, none⟩), .nilIface]) ∧ w.heap.size ≤ m ∧ w'.heap[m]? = some (.map #[] 0) ∧ w'.heap[m + 1]? = some (.cells (dC K M C V (.map (some m)) (.pointer none) 0 0) 252 (0, 0)) ∧ w'.heap.size = m + 2 ∧ Below w.heap.size w w' := by
  have H : Hid (∀ W, _) := fun W => lcheck_ok K M C V W hK hKM hC hC2 hV hV2
  unfold pV at H ⊢
  have hmm := @run_makeMap Tryz.prog
  go_enter Tryz.func89, Tryz.ntmps89
  go_wp2_with fail
  refine Calls.mono (H.out _) ?_
  rintro e w' ⟨rfl, hb1⟩
  have hl : w.heap.size < (w.alloc (Obj.cells #[Value.int IntKind.i64 K, Value.int IntKind.i64 M, Value.int IntKind.i64 C, Value.int IntKind.i64 V] 23)).heap.size := by simp
  have hO := heap_alloc_new w (Obj.cells #[Value.int IntKind.i64 K, Value.int IntKind.i64 M, Value.int IntKind.i64 C, Value.int IntKind.i64 V] 23)
  have c0 : w'.cell? ⟨w.heap.size, 0, none⟩ = some (.int .i64 K) := (hb1.cell (p := ⟨w.heap.size, 0, none⟩) hl).trans (cell_of_row _ _ _ _ 23 _ hO)
  have c1 : w'.cell? ⟨w.heap.size, 1, none⟩ = some (.int .i64 M) := (hb1.cell (p := ⟨w.heap.size, 1, none⟩) hl).trans (cell_of_row _ _ _ _ 23 _ hO)
  have c2 : w'.cell? ⟨w.heap.size, 2, none⟩ = some (.int .i64 C) := (hb1.cell (p := ⟨w.heap.size, 2, none⟩) hl).trans (cell_of_row _ _ _ _ 23 _ hO)
  have c3 : w'.cell? ⟨w.heap.size, 3, none⟩ = some (.int .i64 V) := (hb1.cell (p := ⟨w.heap.size, 3, none⟩) hl).trans (cell_of_row _ _ _ _ 23 _ hO)
  go_wp2
  go_ret2
  refine ⟨w'.heap.size, ?_, ?_, ?_, ?_, ?_, ?_⟩
  · simp
  · have := hb1.size; omega
  · rw [heap_alloc_old _ _ (by simp)]; exact heap_alloc_new _ _
  · have := heap_alloc_new (w'.alloc (.map #[] 0)) (.cells (dC K M C V (.map (some w'.heap.size)) (.pointer none) 0 0) 252)
    simpa [dC] using this
  · simp
  · have hB : Below w.heap.size w w' := ((Below.refl _ _).alloc (Nat.le_refl _) _).trans (hb1.mono (by omega))
    exact (hB.alloc hB.size _).alloc (by have := hB.size; simp; omega) _
end Go.Proofs.YtadinjaocnlglaaGreatDoor
