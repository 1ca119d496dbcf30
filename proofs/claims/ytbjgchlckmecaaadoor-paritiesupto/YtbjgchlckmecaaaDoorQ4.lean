/-
  What Parity and Restore answer; the refusals of Parity, both.
-/
import Derived.Test.YtbjgchlckmecaaaDoorS16
import Derived.Test.YtbjgchlckmecaaaDoorW2
import Derived.Test.YtbjgchlckmecaaaDoorE3
import Derived.Test.YtbjgchlckmecaaaDoorE4
namespace Go.Proofs.YtbjgchlckmecaaaDoor
open Go.RowKit
set_option maxRecDepth 100000
set_option maxHeartbeats 1000000
/-- an answer: an error's kind and place, or so many texts -/
abbrev Out : Type := (Int × Int) ⊕ (Nat × (Nat → ByteArray))
abbrev Out.bad (k i : Int) : Out := .inl (k, i)
abbrev Out.good (n : Nat) (T : Nat → ByteArray) : Out := .inr (n, T)
/-- an answer, as the program gives it -/
def GoOut (w : World) (o : Out) (x y : Value) (w' : World) : Prop := match o with
  | .inl (k, i) => ∃ g, x = .slice none 0 0 ∧ y = .iface 94 (.pointer (some ⟨g, 0, none⟩)) ∧ w.heap.size ≤ g ∧ w'.heap[g]? = some (.cells #[.int .i64 k, .int .i64 i, .nilIface] 96 (0, 0)) ∧ Below w.heap.size w w'
  | .inr (n, T) => ∃ g, x = .slice (some ⟨g, 0, none⟩) n n ∧ y = .nilIface ∧ w.heap.size ≤ g ∧ Rw w' g n 9 (tI T) ∧ Below w.heap.size w w'
/-- an answer, as the document's answer gives it -/
def RefOut (w : World) (o : Out) (x y : Value) (w' : World) : Prop := match o with
  | .inl (k, i) => ∃ g c, x = .slice none 0 0 ∧ y = .slice (some ⟨g, 0, none⟩) 1 c ∧ w'.cell? ⟨g, 0, none⟩ = some (.int .i64 k) ∧ w'.cell? ⟨g, 1, none⟩ = some (.int .i64 i) ∧ Below w.heap.size w w'
  | .inr (n, T) => y = .slice none 0 0 ∧ w'.ownsRow w.heap.size 9 1 x n ((List.range n).map fun i => .string (T i)) ∧ Below w.heap.size w w'
theorem goBad (w w' : World) (k i : Int) (hb : Below w.heap.size w w') : GoOut w (.bad k i) (.slice none 0 0) (.iface 94 (.pointer (some ⟨w'.heap.size, 0, none⟩))) (w'.alloc (.cells #[.int .i64 k, .int .i64 i, .nilIface] 96)) :=
  ⟨w'.heap.size, rfl, rfl, hb.size, heap_alloc_new _ _, hb.alloc hb.size _⟩
theorem refBad (w w' : World) (k i : Int) (hb : Below w.heap.size w w') : RefOut w (.bad k i) (.slice none 0 0) (.slice (some ⟨w'.heap.size, 0, none⟩) 1 1) (w'.alloc (.cells #[.int .i64 k, .int .i64 i] 85)) :=
  ⟨w'.heap.size, 1, rfl, rfl, cell_of_row _ _ 0 _ 85 _ (heap_alloc_new _ _), cell_of_row _ _ 1 _ 85 _ (heap_alloc_new _ _), hb.alloc hb.size _⟩
/-- the params are none, at i -/
def NoPar (K M i : Int) : Prop := (i = 0 ∧ K < 1) ∨ (i = 0 ∧ 255 < K) ∨ (i = 1 ∧ 1 ≤ K ∧ K ≤ 255 ∧ M < 0) ∨ (i = 1 ∧ 1 ≤ K ∧ K ≤ 255 ∧ 0 ≤ M ∧ 255 - K < M)
theorem cp_bad (K M i : Int) (w : World) (h : NoPar K M i) :
    Calls Tryd.prog 29 #[.int .i64 K, .int .i64 M] w fun e w' => e = .returned (.iface 94 (.pointer (some ⟨w.heap.size, 0, none⟩))) ∧ w' = w.alloc (.cells #[.int .i64 1, .int .i64 i, .nilIface] 96) := by
  rcases h with ⟨rfl, h⟩ | ⟨rfl, h⟩ | ⟨rfl, h1, h2, h⟩ | ⟨rfl, h1, h2, h3, h⟩
  · go_enter Tryd.func29, Tryd.ntmps29
    go_wp2_with (go_at_call 30; refine (At_any 1 0 _).mono ?_; rintro e w' ⟨rfl, rfl⟩)
    go_ret
    exact ⟨rfl, rfl⟩
  · have h0 : 1 ≤ K := by omega
    go_enter Tryd.func29, Tryd.ntmps29
    go_wp2_with (go_at_call 30; refine (At_any 1 0 _).mono ?_; rintro e w' ⟨rfl, rfl⟩)
    go_ret
    exact ⟨rfl, rfl⟩
  · go_enter Tryd.func29, Tryd.ntmps29
    go_wp2_with (go_at_call 30; refine (At_any 1 1 _).mono ?_; rintro e w' ⟨rfl, rfl⟩)
    go_ret
    exact ⟨rfl, rfl⟩
  · go_enter Tryd.func29, Tryd.ntmps29
    go_wp2_with (go_at_call 30; refine (At_any 1 1 _).mono ?_; rintro e w' ⟨rfl, rfl⟩)
    go_ret
    exact ⟨rfl, rfl⟩
theorem pt_bad (K M i : Int) (w : World) (h : NoPar K M i) :
    Calls Tryd.prog 22 #[.int .i64 K, .int .i64 M] w fun e w' => e = .returned (.slice (some ⟨w.heap.size, 0, none⟩) 1 1) ∧ w' = w.alloc (.cells #[.int .i64 1, .int .i64 i] 85) := by
  rcases h with ⟨rfl, h⟩ | ⟨rfl, h⟩ | ⟨rfl, h1, h2, h⟩ | ⟨rfl, h1, h2, h3, h⟩
  · go_enter Tryd.func22, Tryd.ntmps22
    go_wp2_with (go_at_call 23; refine (at_any 1 0 _).mono ?_; rintro e w' ⟨rfl, rfl⟩)
    go_ret
    exact ⟨rfl, rfl⟩
  · have h0 : 1 ≤ K := by omega
    go_enter Tryd.func22, Tryd.ntmps22
    go_wp2_with (go_at_call 23; refine (at_any 1 0 _).mono ?_; rintro e w' ⟨rfl, rfl⟩)
    go_ret
    exact ⟨rfl, rfl⟩
  · go_enter Tryd.func22, Tryd.ntmps22
    go_wp2_with (go_at_call 23; refine (at_any 1 1 _).mono ?_; rintro e w' ⟨rfl, rfl⟩)
    go_ret
    exact ⟨rfl, rfl⟩
  · go_enter Tryd.func22, Tryd.ntmps22
    go_wp2_with (go_at_call 23; refine (at_any 1 1 _).mono ?_; rintro e w' ⟨rfl, rfl⟩)
    go_ret
    exact ⟨rfl, rfl⟩
theorem pt_ok (k m : Nat) (w : World) (hk1 : 1 ≤ k) (hkm : k + m ≤ 255) :
    Calls Tryd.prog 22 #[.int .i64 k, .int .i64 m] w fun e w' => e = .returned (.slice none 0 0) ∧ w' = w := by
  have h1 : (1 : Int) ≤ (k : Int) := by omega
  have h2 : (k : Int) ≤ 255 := by omega
  have h3 : (0 : Int) ≤ (m : Int) := by omega
  have h4 : (m : Int) ≤ 255 - (k : Int) := by omega
  go_enter Tryd.func22, Tryd.ntmps22
  go_wp2
  go_ret
  exact ⟨rfl, rfl⟩
/-- every K and M: they are none, or they are -/
theorem par_cases (K M : Int) : (∃ i, NoPar K M i) ∨ ∃ k m : Nat, K = k ∧ M = m ∧ 1 ≤ k ∧ k + m ≤ 255 := by
  by_cases h1 : K < 1
  · exact .inl ⟨0, .inl ⟨rfl, h1⟩⟩
  by_cases h2 : 255 < K
  · exact .inl ⟨0, .inr (.inl ⟨rfl, h2⟩)⟩
  by_cases h3 : M < 0
  · exact .inl ⟨1, .inr (.inr (.inl ⟨rfl, by omega, by omega, h3⟩))⟩
  by_cases h4 : 255 - K < M
  · exact .inl ⟨1, .inr (.inr (.inr ⟨rfl, by omega, by omega, by omega, h4⟩))⟩
  exact .inr ⟨K.toNat, M.toNat, by omega, by omega, by omega, by omega⟩
/-- the program's Parity answers o -/
def PGo (o : Out) (K M : Int) (v : Value) (w : World) : Prop := Calls Tryd.prog 8 #[.int .i64 K, .int .i64 M, v] w fun e w' => ∃ x y, e = .returned (.tuple #[x, y]) ∧ GoOut w o x y w'
theorem vpar_wrap (o : Out) (K M : Int) (v : Value) (w : World) (H : Calls Tryd.prog 21 #[.int .i64 K, .int .i64 M, v] w fun e w' => ∃ x y, e = .returned (.tuple #[x, y]) ∧ GoOut w o x y w') : PGo o K M v w := by
  have H' : Hid _ := H
  clear H
  unfold PGo
  go_enter Tryd.func8, Tryd.ntmps8
  go_wp2_with fail
  refine Calls.mono H'.out ?_
  rintro e w1 ⟨x, y, rfl, hO⟩
  go_wp2
  go_ret2
  exact ⟨x, y, rfl, hO⟩
theorem par_params (K M i : Int) (v : Value) (w : World) (h : NoPar K M i) : PGo (.bad 1 i) K M v w := by
  refine vpar_wrap _ K M v w ?_
  have H : Hid _ := cp_bad K M i w h
  clear h
  go_enter Tryd.func21, Tryd.ntmps21
  go_wp2_with fail
  refine Calls.mono H.out ?_
  rintro e w1 ⟨rfl, rfl⟩
  go_wp2
  go_ret2
  exact ⟨_, _, rfl, goBad w w 1 i (Below.refl _ _)⟩
theorem par_range (k m n cap : Nat) (a : Option Addr) (w : World) (hk1 : 1 ≤ k) (hkm : k + m ≤ 255) (hn : n ≠ k) : PGo (.bad 15 n) k m (.slice a n cap) w := by
  refine vpar_wrap _ k m _ w ?_
  have hne : ((n : Int) != (k : Int)) = true := by rw [bne_iff_ne]; omega
  go_enter Tryd.func21, Tryd.ntmps21
  go_wp2_with fail
  refine (checkParams_ok k m w hk1 hkm).mono ?_
  rintro e w1 ⟨rfl, rfl⟩
  go_wp2_with fail
  refine (At_any 15 n w1).mono ?_
  rintro e w2 ⟨rfl, rfl⟩
  go_wp2
  go_ret2
  exact ⟨_, _, rfl, goBad w1 w1 15 n (Below.refl _ _)⟩
theorem par_big (S : Nat → ByteArray) (k m b cap i0 : Nat) (w : World) (hk1 : 1 ≤ k) (hkm : k + m ≤ 255) (hi0 : i0 < k) (h1 : (S i0).size ≠ (S 0).size) (h2 : ∀ j, j < i0 → (S j).size = (S 0).size) (hC : Cl w b k (tI S)) : PGo (.bad 4 i0) k m (.slice (some ⟨b, 0, none⟩) k cap) w := by
  refine vpar_wrap _ k m _ w ?_
  have HC : Hid _ := hC
  have H1 : Hid _ := h1
  have H2 : Hid _ := h2
  clear hC h1 h2
  go_enter Tryd.func21, Tryd.ntmps21
  go_wp2_with (go_at_call 29; refine (checkParams_ok k m _ hk1 hkm).mono ?_; rintro e w' ⟨rfl, rfl⟩)
  go_loop [26] (fun iv => ∃ i : Nat, i ≤ i0 ∧ iv = .int .i64 i) (fun iv => k - (intOf iv).toNat)
  case atStart => exact ⟨0, by omega, rfl⟩
  case round =>
    obtain ⟨i, hi, rfl⟩ := hrel
    have hlt : i < k := by omega
    have c1 : w'.cell? ⟨b, i, none⟩ = some (.string (S i)) := HC.out i hlt
    have c2 : w'.cell? ⟨b, 0, none⟩ = some (.string (S 0)) := HC.out 0 (by omega)
    have hk0 : (0 : Int) < (k : Int) := by omega
    by_cases he : i < i0
    · have hne : (((S i).size : Int) != ((S 0).size : Int)) = false := by rw [bne_eq_false_iff_eq, H2.out i he]
      go_wp2
      go_round
      case rel => exact ⟨i + 1, by omega, by go_num⟩
      case measure => simp [intOf]; omega
    · have e : i = i0 := by omega
      subst e
      have hne : (((S i).size : Int) != ((S 0).size : Int)) = true := by rw [bne_iff_ne]; exact fun h => H1.out (Int.ofNat.inj h)
      go_wp2_with fail
      refine (At_any 4 i w').mono ?_
      rintro e w2 ⟨rfl, rfl⟩
      go_wp2
      go_ret2
      exact ⟨_, _, rfl, goBad w' w' 4 i (Below.refl _ _)⟩
theorem par_good (S : Nat → ByteArray) (k m c b cap : Nat) (w : World) (hk1 : 1 ≤ k) (hkm : k + m ≤ 255) (hc : c ≤ 140737488351232) (hS : ∀ i, i < k → (S i).size = c) (hb : b < w.heap.size) (hC : Cl w b k (tI S)) :
    PGo (.good m (vl (fun i => i) (fun i => k + i) k c S)) k m (.slice (some ⟨b, 0, none⟩) k cap) w :=
  (vparity_ok S k m c b cap w hk1 hkm hc hS hb hC).mono fun _ _ ⟨g, h1, h2, h3, h4⟩ => ⟨_, _, h1, g, rfl, rfl, h2, h3, h4⟩
end Go.Proofs.YtbjgchlckmecaaaDoor
