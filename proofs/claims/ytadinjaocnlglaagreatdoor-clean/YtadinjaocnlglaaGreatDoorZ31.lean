/-
  What Parity and Restore answer; the refusals of Parity, both.
  NewWriter where params are refused, both; the document's Writer begun.
-/
import Derived.Test.YtadinjaocnlglaaGreatDoorZ29
import Derived.Test.YtadinjaocnlglaaGreatDoorZ10
import Derived.Test.YtadinjaocnlglaaGreatDoorZ26
import Derived.Test.YtadinjaocnlglaaGreatDoorZ30
import Derived.Test.YtadinjaocnlglaaGreatDoorZ05
namespace Go.Proofs.YtadinjaocnlglaaGreatDoor
open Go.RowKit
set_option maxRecDepth 100000
set_option maxHeartbeats 1000000
/-- an answer: an error's kind and place, or so many texts -/
abbrev Out : Type := (Int × Int) ⊕ (Nat × (Nat → ByteArray))
abbrev Out.bad (k i : Int) : Out := .inl (k, i)
abbrev Out.good (n : Nat) (T : Nat → ByteArray) : Out := .inr (n, T)
/-- an answer, as the program gives it -/
def GoOut (w : World) (o : Out) (x y : Value) (w' : World) : Prop := match o with
  | .inl (k, i) => ∃ g, x = .slice none 0 0 ∧ y = .iface 305 (.pointer (some ⟨g, 0, none⟩)) ∧ w.heap.size ≤ g ∧ w'.heap[g]? = some (.cells #[.int .i64 k, .int .i64 i, .nilIface] 307 (0, 0)) ∧ Below w.heap.size w w'
  | .inr (n, T) => ∃ g, x = .slice (some ⟨g, 0, none⟩) n n ∧ y = .nilIface ∧ w.heap.size ≤ g ∧ Rw w' g n 9 (tI T) ∧ Below w.heap.size w w'
/-- an answer, as the document's answer gives it -/
def RefOut (w : World) (o : Out) (x y : Value) (w' : World) : Prop := match o with
  | .inl (k, i) => ∃ g c, x = .slice none 0 0 ∧ y = .slice (some ⟨g, 0, none⟩) 1 c ∧ w'.cell? ⟨g, 0, none⟩ = some (.int .i64 k) ∧ w'.cell? ⟨g, 1, none⟩ = some (.int .i64 i) ∧ Below w.heap.size w w'
  | .inr (n, T) => y = .slice none 0 0 ∧ w'.ownsRow w.heap.size 9 1 x n ((List.range n).map fun i => .string (T i)) ∧ Below w.heap.size w w'
theorem goBad (w w' : World) (k i : Int) (hb : Below w.heap.size w w') : GoOut w (.bad k i) (.slice none 0 0) (.iface 305 (.pointer (some ⟨w'.heap.size, 0, none⟩))) (w'.alloc (.cells #[.int .i64 k, .int .i64 i, .nilIface] 307)) :=
  ⟨w'.heap.size, rfl, rfl, hb.size, heap_alloc_new _ _, hb.alloc hb.size _⟩
theorem refBad (w w' : World) (k i : Int) (hb : Below w.heap.size w w') : RefOut w (.bad k i) (.slice none 0 0) (.slice (some ⟨w'.heap.size, 0, none⟩) 1 1) (w'.alloc (.cells #[.int .i64 k, .int .i64 i] 250)) :=
  ⟨w'.heap.size, 1, rfl, rfl, cell_of_row _ _ 0 _ 250 _ (heap_alloc_new _ _), cell_of_row _ _ 1 _ 250 _ (heap_alloc_new _ _), hb.alloc hb.size _⟩
/-- the params are none, at i -/
def NoPar (K M i : Int) : Prop := (i = 0 ∧ K < 1) ∨ (i = 0 ∧ 255 < K) ∨ (i = 1 ∧ 1 ≤ K ∧ K ≤ 255 ∧ M < 0) ∨ (i = 1 ∧ 1 ≤ K ∧ K ≤ 255 ∧ 0 ≤ M ∧ 255 - K < M)
theorem cp_bad (K M i : Int) (w : World) (h : NoPar K M i) :
    Calls Tryz.prog 190 #[.int .i64 K, .int .i64 M] w fun e w' => e = .returned (.iface 305 (.pointer (some ⟨w.heap.size, 0, none⟩))) ∧ w' = w.alloc (.cells #[.int .i64 1, .int .i64 i, .nilIface] 307) := by
  rcases h with ⟨rfl, h⟩ | ⟨rfl, h⟩ | ⟨rfl, h1, h2, h⟩ | ⟨rfl, h1, h2, h3, h⟩
  · go_enter Tryz.func190, Tryz.ntmps190
    go_wp2_with (go_at_call 151; refine (At_any 1 0 _).mono ?_; rintro e w' ⟨rfl, rfl⟩)
    go_ret
    exact ⟨rfl, rfl⟩
  · have h0 : 1 ≤ K := by omega
    go_enter Tryz.func190, Tryz.ntmps190
    go_wp2_with (go_at_call 151; refine (At_any 1 0 _).mono ?_; rintro e w' ⟨rfl, rfl⟩)
    go_ret
    exact ⟨rfl, rfl⟩
  · go_enter Tryz.func190, Tryz.ntmps190
    go_wp2_with (go_at_call 151; refine (At_any 1 1 _).mono ?_; rintro e w' ⟨rfl, rfl⟩)
    go_ret
    exact ⟨rfl, rfl⟩
  · go_enter Tryz.func190, Tryz.ntmps190
    go_wp2_with (go_at_call 151; refine (At_any 1 1 _).mono ?_; rintro e w' ⟨rfl, rfl⟩)
    go_ret
    exact ⟨rfl, rfl⟩
theorem pt_bad (K M i : Int) (w : World) (h : NoPar K M i) :
    Calls Tryz.prog 235 #[.int .i64 K, .int .i64 M] w fun e w' => e = .returned (.slice (some ⟨w.heap.size, 0, none⟩) 1 1) ∧ w' = w.alloc (.cells #[.int .i64 1, .int .i64 i] 250) := by
  rcases h with ⟨rfl, h⟩ | ⟨rfl, h⟩ | ⟨rfl, h1, h2, h⟩ | ⟨rfl, h1, h2, h3, h⟩
  · go_enter Tryz.func235, Tryz.ntmps235
    go_wp2_with (go_at_call 91; refine (at_any 1 0 _).mono ?_; rintro e w' ⟨rfl, rfl⟩)
    go_ret
    exact ⟨rfl, rfl⟩
  · have h0 : 1 ≤ K := by omega
    go_enter Tryz.func235, Tryz.ntmps235
    go_wp2_with (go_at_call 91; refine (at_any 1 0 _).mono ?_; rintro e w' ⟨rfl, rfl⟩)
    go_ret
    exact ⟨rfl, rfl⟩
  · go_enter Tryz.func235, Tryz.ntmps235
    go_wp2_with (go_at_call 91; refine (at_any 1 1 _).mono ?_; rintro e w' ⟨rfl, rfl⟩)
    go_ret
    exact ⟨rfl, rfl⟩
  · go_enter Tryz.func235, Tryz.ntmps235
    go_wp2_with (go_at_call 91; refine (at_any 1 1 _).mono ?_; rintro e w' ⟨rfl, rfl⟩)
    go_ret
    exact ⟨rfl, rfl⟩
theorem pt_ok (k m : Nat) (w : World) (hk1 : 1 ≤ k) (hkm : k + m ≤ 255) :
    Calls Tryz.prog 235 #[.int .i64 k, .int .i64 m] w fun e w' => e = .returned (.slice none 0 0) ∧ w' = w := by
  have h1 : (1 : Int) ≤ (k : Int) := by omega
  have h2 : (k : Int) ≤ 255 := by omega
  have h3 : (0 : Int) ≤ (m : Int) := by omega
  have h4 : (m : Int) ≤ 255 - (k : Int) := by omega
  go_enter Tryz.func235, Tryz.ntmps235
  go_wp2
  go_ret
  exact ⟨rfl, rfl⟩
/-- every K and M: they are none, or they are -/
theorem par_cases (K M : Int) : (∃ i, NoPar K M i) ∨ ∃ k m : Nat, K = k ∧ M = m ∧ 1 ≤ k ∧ k + m ≤ 255 := by
  by_cases h1 : K < 1
  · exact .inl ⟨0, .inl ⟨rfl, h1⟩⟩
  by_cases h2 : 255 < K
  · exact .inl ⟨0, .inr (.inl ⟨rfl, h2⟩)⟩
  by_cases h3 : M < 0
  · exact .inl ⟨1, .inr (.inr (.inl ⟨rfl, by omega, by omega, h3⟩))⟩
  by_cases h4 : 255 - K < M
  · exact .inl ⟨1, .inr (.inr (.inr ⟨rfl, by omega, by omega, by omega, h4⟩))⟩
  exact .inr ⟨K.toNat, M.toNat, by omega, by omega, by omega, by omega⟩
/-- the program's Parity answers o -/
def PGo (o : Out) (K M : Int) (v : Value) (w : World) : Prop := Calls Tryz.prog 83 #[.int .i64 K, .int .i64 M, v] w fun e w' => ∃ x y, e = .returned (.tuple #[x, y]) ∧ GoOut w o x y w'
theorem vpar_wrap (o : Out) (K M : Int) (v : Value) (w : World) (H : Calls Tryz.prog 128 #[.int .i64 K, .int .i64 M, v] w fun e w' => ∃ x y, e = .returned (.tuple #[x, y]) ∧ GoOut w o x y w') : PGo o K M v w := by
  have H' : Hid _ := H
  clear H
  unfold PGo
  go_enter Tryz.func83, Tryz.ntmps83
  go_wp2_with fail
  refine Calls.mono H'.out ?_
  rintro e w1 ⟨x, y, rfl, hO⟩
  go_wp2
  go_ret2
  exact ⟨x, y, rfl, hO⟩
theorem par_params (K M i : Int) (v : Value) (w : World) (h : NoPar K M i) : PGo (.bad 1 i) K M v w := by
  refine vpar_wrap _ K M v w ?_
  have H : Hid _ := cp_bad K M i w h
  clear h
  go_enter Tryz.func128, Tryz.ntmps128
  go_wp2_with fail
  refine Calls.mono H.out ?_
  rintro e w1 ⟨rfl, rfl⟩
  go_wp2
  go_ret2
  exact ⟨_, _, rfl, goBad w w 1 i (Below.refl _ _)⟩
theorem par_range (k m n cap : Nat) (a : Option Addr) (w : World) (hk1 : 1 ≤ k) (hkm : k + m ≤ 255) (hn : n ≠ k) : PGo (.bad 15 n) k m (.slice a n cap) w := by
  refine vpar_wrap _ k m _ w ?_
  have hne : ((n : Int) != (k : Int)) = true := by rw [bne_iff_ne]; omega
  go_enter Tryz.func128, Tryz.ntmps128
  go_wp2_with fail
  refine (checkParams_ok k m w hk1 hkm).mono ?_
  rintro e w1 ⟨rfl, rfl⟩
  go_wp2_with fail
  refine (At_any 15 n w1).mono ?_
  rintro e w2 ⟨rfl, rfl⟩
  go_wp2
  go_ret2
  exact ⟨_, _, rfl, goBad w1 w1 15 n (Below.refl _ _)⟩
theorem par_big (S : Nat → ByteArray) (k m b cap i0 : Nat) (w : World) (hk1 : 1 ≤ k) (hkm : k + m ≤ 255) (hi0 : i0 < k) (h1 : (S i0).size ≠ (S 0).size) (h2 : ∀ j, j < i0 → (S j).size = (S 0).size) (hC : Cl w b k (tI S)) : PGo (.bad 4 i0) k m (.slice (some ⟨b, 0, none⟩) k cap) w := by
  refine vpar_wrap _ k m _ w ?_
  have HC : Hid _ := hC
  have H1 : Hid _ := h1
  have H2 : Hid _ := h2
  clear hC h1 h2
  go_enter Tryz.func128, Tryz.ntmps128
  go_wp2_with (go_at_call 190; refine (checkParams_ok k m _ hk1 hkm).mono ?_; rintro e w' ⟨rfl, rfl⟩)
  go_loop [26] (fun iv => ∃ i : Nat, i ≤ i0 ∧ iv = .int .i64 i) (fun iv => k - (intOf iv).toNat)
  case atStart => exact ⟨0, by omega, rfl⟩
  case round =>
    obtain ⟨i, hi, rfl⟩ := hrel
    have hlt : i < k := by omega
    have c1 : w'.cell? ⟨b, i, none⟩ = some (.string (S i)) := HC.out i hlt
    have c2 : w'.cell? ⟨b, 0, none⟩ = some (.string (S 0)) := HC.out 0 (by omega)
    have hk0 : (0 : Int) < (k : Int) := by omega
    by_cases he : i < i0
    · have hne : (((S i).size : Int) != ((S 0).size : Int)) = false := by rw [bne_eq_false_iff_eq, H2.out i he]
      go_wp2
      go_round
      case rel => exact ⟨i + 1, by omega, by go_num⟩
      case measure => simp [intOf]; omega
    · have e : i = i0 := by omega
      subst e
      have hne : (((S i).size : Int) != ((S 0).size : Int)) = true := by rw [bne_iff_ne]; exact fun h => H1.out (Int.ofNat.inj h)
      go_wp2_with fail
      refine (At_any 4 i w').mono ?_
      rintro e w2 ⟨rfl, rfl⟩
      go_wp2
      go_ret2
      exact ⟨_, _, rfl, goBad w' w' 4 i (Below.refl _ _)⟩
end Go.Proofs.YtadinjaocnlglaaGreatDoor
namespace Go.Proofs.YtadinjaocnlglaaGreatDoor
open Go.RowKit
set_option maxRecDepth 100000
set_option maxHeartbeats 1000000
/-- four params as a value -/
def pI4 (K M C V : Int) : Value := .agg #[.int .i64 K, .int .i64 M, .int .i64 C, .int .i64 V]
/-- the params are none, at i -/
def BadP (K M C V i : Int) : Prop := NoPar K M i ∨ ∃ k m : Nat, K = k ∧ M = m ∧ 1 ≤ k ∧ k + m ≤ 255 ∧ ((i = 2 ∧ C < 1) ∨ (i = 2 ∧ 64 < C) ∨ (i = 3 ∧ 1 ≤ C ∧ C ≤ 64 ∧ V < 1) ∨ (i = 3 ∧ 1 ≤ C ∧ C ≤ 64 ∧ 16 < V))
theorem par4_cases (K M C V : Int) : (∃ i, BadP K M C V i) ∨ ∃ k m c v : Nat, K = k ∧ M = m ∧ C = c ∧ V = v ∧ 1 ≤ k ∧ k + m ≤ 255 ∧ 1 ≤ c ∧ c ≤ 64 ∧ 1 ≤ v ∧ v ≤ 16 := by
  rcases par_cases K M with ⟨i, h⟩ | ⟨k, m, h1, h2, h3, h4⟩
  · exact .inl ⟨i, .inl h⟩
  · by_cases c1 : C < 1
    · exact .inl ⟨2, .inr ⟨k, m, h1, h2, h3, h4, .inl ⟨rfl, c1⟩⟩⟩
    by_cases c2 : 64 < C
    · exact .inl ⟨2, .inr ⟨k, m, h1, h2, h3, h4, .inr (.inl ⟨rfl, c2⟩)⟩⟩
    by_cases v1 : V < 1
    · exact .inl ⟨3, .inr ⟨k, m, h1, h2, h3, h4, .inr (.inr (.inl ⟨rfl, by omega, by omega, v1⟩))⟩⟩
    by_cases v2 : 16 < V
    · exact .inl ⟨3, .inr ⟨k, m, h1, h2, h3, h4, .inr (.inr (.inr ⟨rfl, by omega, by omega, v2⟩))⟩⟩
    exact .inr ⟨k, m, C.toNat, V.toNat, h1, h2, by omega, by omega, h3, h4, by omega, by omega, by omega, by omega⟩
theorem at_err (k i : Int) (w : World) : Calls Tryz.prog 151 #[.int .i64 k, .int .i64 i] w fun e w' => ∃ g, e = .returned (.iface 305 (.pointer (some ⟨g, 0, none⟩))) ∧ w'.heap[g]? = some (.cells #[.int .i64 k, .int .i64 i, .nilIface] 307 (0, 0)) ∧ Below w.heap.size w w' := by
  refine (At_any k i w).mono ?_
  rintro e w' ⟨rfl, rfl⟩
  exact ⟨_, rfl, heap_alloc_new _ _, (Below.refl _ _).alloc (Nat.le_refl _) _⟩
theorem over_err (k i : Int) (a : Addr) (w : World) : Calls Tryz.prog 178 #[.int .i64 k, .int .i64 i, .iface 305 (.pointer (some a))] w fun e w' => ∃ g, e = .returned (.iface 305 (.pointer (some ⟨g, 0, none⟩))) ∧ w'.heap[g]? = some (.cells #[.int .i64 k, .int .i64 i, .iface 305 (.pointer (some a))] 307 (0, 0)) ∧ Below w.heap.size w w' := by
  go_enter Tryz.func178, Tryz.ntmps178
  go_wp2
  go_ret
  exact ⟨_, rfl, heap_alloc_new _ _, (Below.refl _ _).alloc (Nat.le_refl _) _⟩
theorem cp_err (K M i : Int) (w : World) (h : NoPar K M i) : Calls Tryz.prog 190 #[.int .i64 K, .int .i64 M] w fun e w' => ∃ g, e = .returned (.iface 305 (.pointer (some ⟨g, 0, none⟩))) ∧ w'.heap[g]? = some (.cells #[.int .i64 1, .int .i64 i, .nilIface] 307 (0, 0)) ∧ Below w.heap.size w w' := by
  refine (cp_bad K M i w h).mono ?_
  rintro e w' ⟨rfl, rfl⟩
  exact ⟨_, rfl, heap_alloc_new _ _, (Below.refl _ _).alloc (Nat.le_refl _) _⟩
theorem own_le {w : World} {base b' : Nat} {e : TypeId} {size : Nat} {v : Value} {n : Nat} {xs : List Value} (h : w.ownsRow base e size v n xs) (hb : b' ≤ base) : w.ownsRow b' e size v n xs := by
  refine ⟨h.1, ?_⟩
  rcases h.2 with h2 | ⟨g, cap, cur, hv, hg, rest⟩
  · exact .inl h2
  · exact .inr ⟨g, cap, cur, hv, Nat.le_trans hb hg, rest⟩
theorem lcheck_bad (K M C V i : Int) (w : World) (h : BadP K M C V i) :
    Calls Tryz.prog 140 #[pI4 K M C V] w fun e w' => ∃ v, e = .returned v ∧ ErrAt w' v [(1, i)] ∧ Below w.heap.size w w' := by
  have HB : Hid (Below w.heap.size w (w.alloc (.cells #[.int .i64 K, .int .i64 M, .int .i64 C, .int .i64 V] 23))) := (Below.refl _ _).alloc (Nat.le_refl _) _
  unfold pI4
  rcases h with h | ⟨k, m, rfl, rfl, hk, hkm, h⟩
  · have H : Hid _ := fun W => cp_err K M i W h
    clear h
    go_enter Tryz.func140, Tryz.ntmps140
    go_wp2_with fail
    refine Calls.mono (H.out _) ?_
    rintro e w1 ⟨g, rfl, h1, hb⟩
    have HE : Hid (ErrAt w1 (.iface 305 (.pointer (some ⟨g, 0, none⟩))) [(1, i)]) := ⟨g, _, rfl, h1, rfl⟩
    have HB1 : Hid (Below w.heap.size w w1) := HB.out.trans (hb.mono HB.out.size)
    clear h1 hb
    go_wp2
    go_ret
    exact ⟨_, rfl, HE.out, HB1.out⟩
  · have H : Hid _ := fun W => checkParams_ok k m W hk hkm
    rcases h with ⟨rfl, h⟩ | ⟨rfl, h⟩ | ⟨rfl, h1, h2, h⟩ | ⟨rfl, h1, h2, h⟩
    · go_enter Tryz.func140, Tryz.ntmps140
      go_wp2_with fail
      refine Calls.mono (H.out _) ?_
      rintro e w1 ⟨rfl, rfl⟩
      go_wp2_with fail
      refine (at_err _ _ _).mono ?_
      rintro e w1 ⟨g, rfl, h1', hb⟩
      have HE : Hid (ErrAt w1 (.iface 305 (.pointer (some ⟨g, 0, none⟩))) [(1, _)]) := ⟨g, _, rfl, h1', rfl⟩
      have HB1 : Hid (Below w.heap.size w w1) := HB.out.trans (hb.mono HB.out.size)
      clear h1' hb
      go_wp2
      go_ret
      exact ⟨_, rfl, HE.out, HB1.out⟩
    · have h' : ¬ C < 1 := by omega
      go_enter Tryz.func140, Tryz.ntmps140
      go_wp2_with fail
      refine Calls.mono (H.out _) ?_
      rintro e w1 ⟨rfl, rfl⟩
      go_wp2_with fail
      refine (at_err _ _ _).mono ?_
      rintro e w1 ⟨g, rfl, h1', hb⟩
      have HE : Hid (ErrAt w1 (.iface 305 (.pointer (some ⟨g, 0, none⟩))) [(1, _)]) := ⟨g, _, rfl, h1', rfl⟩
      have HB1 : Hid (Below w.heap.size w w1) := HB.out.trans (hb.mono HB.out.size)
      clear h1' hb
      go_wp2
      go_ret
      exact ⟨_, rfl, HE.out, HB1.out⟩
    · go_enter Tryz.func140, Tryz.ntmps140
      go_wp2_with fail
      refine Calls.mono (H.out _) ?_
      rintro e w1 ⟨rfl, rfl⟩
      go_wp2_with fail
      refine (at_err _ _ _).mono ?_
      rintro e w1 ⟨g, rfl, h1', hb⟩
      have HE : Hid (ErrAt w1 (.iface 305 (.pointer (some ⟨g, 0, none⟩))) [(1, _)]) := ⟨g, _, rfl, h1', rfl⟩
      have HB1 : Hid (Below w.heap.size w w1) := HB.out.trans (hb.mono HB.out.size)
      clear h1' hb
      go_wp2
      go_ret
      exact ⟨_, rfl, HE.out, HB1.out⟩
    · have h' : ¬ V < 1 := by omega
      go_enter Tryz.func140, Tryz.ntmps140
      go_wp2_with fail
      refine Calls.mono (H.out _) ?_
      rintro e w1 ⟨rfl, rfl⟩
      go_wp2_with fail
      refine (at_err _ _ _).mono ?_
      rintro e w1 ⟨g, rfl, h1', hb⟩
      have HE : Hid (ErrAt w1 (.iface 305 (.pointer (some ⟨g, 0, none⟩))) [(1, _)]) := ⟨g, _, rfl, h1', rfl⟩
      have HB1 : Hid (Below w.heap.size w w1) := HB.out.trans (hb.mono HB.out.size)
      clear h1' hb
      go_wp2
      go_ret
      exact ⟨_, rfl, HE.out, HB1.out⟩
theorem new_bad (K M C V i : Int) (w : World) (h : BadP K M C V i) :
    Calls Tryz.prog 89 #[pI4 K M C V] w fun e w' => ∃ v, e = .returned (.tuple #[.pointer none, v]) ∧ ErrAt w' v [(1, i)] ∧ Below w.heap.size w w' := by
  have H : Hid (∀ W, _) := fun W => lcheck_bad K M C V i W h
  have HB : Hid (Below w.heap.size w (w.alloc (.cells #[.int .i64 K, .int .i64 M, .int .i64 C, .int .i64 V] 23))) := (Below.refl _ _).alloc (Nat.le_refl _) _
  unfold pI4 at H ⊢
  clear h
  go_enter Tryz.func89, Tryz.ntmps89
  go_wp2_with fail
  refine Calls.mono (H.out _) ?_
  rintro e w1 ⟨v, rfl, hE, hb⟩
  have HE : Hid _ := hE
  obtain ⟨g, u, rfl, _⟩ := hE
  have HB1 : Hid (Below w.heap.size w w1) := HB.out.trans (hb.mono HB.out.size)
  clear hb
  go_wp2
  go_ret2
  exact ⟨_, rfl, HE.out, HB1.out⟩
theorem nwriter_bad (K M C V i : Int) (w : World) (h : BadP K M C V i) :
    Calls Tryz.prog 48 #[pI4 K M C V] w fun e w' => ∃ v, e = .returned (.tuple #[.pointer none, v]) ∧ ErrAt w' v [(1, i)] ∧ Below w.heap.size w w' := by
  have H : Hid (∀ W, _) := fun W => new_bad K M C V i W h
  have HB : Hid (Below w.heap.size w (w.alloc (.cells #[.int .i64 K, .int .i64 M, .int .i64 C, .int .i64 V] 23))) := (Below.refl _ _).alloc (Nat.le_refl _) _
  unfold pI4 at H ⊢
  clear h
  go_enter Tryz.func48, Tryz.ntmps48
  go_wp2_with fail
  refine Calls.mono (H.out _) ?_
  rintro e w1 ⟨v, rfl, hE, hb⟩
  have HE : Hid _ := hE
  obtain ⟨g, u, rfl, _⟩ := hE
  have HB1 : Hid (Below w.heap.size w w1) := HB.out.trans (hb.mono HB.out.size)
  clear hb
  go_wp2
  go_ret2
  exact ⟨_, rfl, HE.out, HB1.out⟩
theorem rparams_bad (K M C V i : Int) (w : World) (h : BadP K M C V i) :
    Calls Tryz.prog 90 #[pI4 K M C V] w fun e w' => e = .returned (.int .i64 i) ∧ Below w.heap.size w w' := by
  have HB : Hid (Below w.heap.size w (w.alloc (.cells #[.int .i64 K, .int .i64 M, .int .i64 C, .int .i64 V] 23))) := (Below.refl _ _).alloc (Nat.le_refl _) _
  unfold pI4
  rcases h with h | ⟨k, m, rfl, rfl, hk, hkm, h⟩
  · rcases h with ⟨rfl, h⟩ | ⟨rfl, h⟩ | ⟨rfl, h1, h2, h⟩ | ⟨rfl, h1, h2, h3, h⟩
    · go_enter Tryz.func90, Tryz.ntmps90
      go_wp2
      go_ret
      exact ⟨rfl, HB.out⟩
    · have h' : ¬ K < 1 := by omega
      go_enter Tryz.func90, Tryz.ntmps90
      go_wp2
      go_ret
      exact ⟨rfl, HB.out⟩
    · go_enter Tryz.func90, Tryz.ntmps90
      go_wp2
      go_ret
      exact ⟨rfl, HB.out⟩
    · have h' : ¬ M < 0 := by omega
      go_enter Tryz.func90, Tryz.ntmps90
      go_wp2
      go_ret
      exact ⟨rfl, HB.out⟩
  · have a1 : (1 : Int) ≤ (k : Int) := by omega
    have a2 : (k : Int) ≤ 255 := by omega
    have a3 : (m : Int) ≤ 255 - (k : Int) := by omega
    rcases h with ⟨rfl, h⟩ | ⟨rfl, h⟩ | ⟨rfl, h1, h2, h⟩ | ⟨rfl, h1, h2, h⟩
    · go_enter Tryz.func90, Tryz.ntmps90
      go_wp2
      go_ret
      exact ⟨rfl, HB.out⟩
    · have h' : ¬ C < 1 := by omega
      go_enter Tryz.func90, Tryz.ntmps90
      go_wp2
      go_ret
      exact ⟨rfl, HB.out⟩
    · go_enter Tryz.func90, Tryz.ntmps90
      go_wp2
      go_ret
      exact ⟨rfl, HB.out⟩
    · have h' : ¬ V < 1 := by omega
      go_enter Tryz.func90, Tryz.ntmps90
      go_wp2
      go_ret
      exact ⟨rfl, HB.out⟩
theorem rparams_ok (k m c v : Nat) (w : World) (hk : 1 ≤ k) (hkm : k + m ≤ 255) (hc : 1 ≤ c) (hc2 : c ≤ 64) (hv : 1 ≤ v) (hv2 : v ≤ 16) :
    Calls Tryz.prog 90 #[pI4 k m c v] w fun e w' => e = .returned (.int .i64 (-1)) ∧ Below w.heap.size w w' := by
  have HB : Hid (Below w.heap.size w (w.alloc (.cells #[.int .i64 k, .int .i64 m, .int .i64 c, .int .i64 v] 23))) := (Below.refl _ _).alloc (Nat.le_refl _) _
  have a1 : (1 : Int) ≤ (k : Int) := by omega
  have a2 : (k : Int) ≤ 255 := by omega
  have a3 : (m : Int) ≤ 255 - (k : Int) := by omega
  have a4 : (1 : Int) ≤ (c : Int) := by omega
  have a5 : (c : Int) ≤ 64 := by omega
  have a6 : (1 : Int) ≤ (v : Int) := by omega
  have a7 : (v : Int) ≤ 16 := by omega
  unfold pI4
  go_enter Tryz.func90, Tryz.ntmps90
  go_wp2
  go_ret
  exact ⟨rfl, HB.out⟩
theorem rnew_bad (K M C V i : Int) (w : World) (h : BadP K M C V i) (hi : 0 ≤ i) :
    Calls Tryz.prog 49 #[pI4 K M C V] w fun e w' => ∃ v, e = .returned (.tuple #[.pointer none, v]) ∧ w'.ownsRow w.heap.size 250 2 v 1 (mkL [(1, i)]) ∧ Below w.heap.size w w' := by
  have H : Hid (∀ W, _) := fun W => rparams_bad K M C V i W h
  have HB : Hid (Below w.heap.size w (w.alloc (.cells #[.int .i64 K, .int .i64 M, .int .i64 C, .int .i64 V] 23))) := (Below.refl _ _).alloc (Nat.le_refl _) _
  unfold pI4 at H ⊢
  clear h
  go_enter Tryz.func49, Tryz.ntmps49
  go_wp2_with fail
  refine Calls.mono (H.out _) ?_
  rintro e w1 ⟨rfl, hb⟩
  have HB1 : Hid (Below w.heap.size w w1) := HB.out.trans (hb.mono HB.out.size)
  clear hb
  go_wp2_with fail
  refine (at_own 1 i _).mono ?_
  rintro e w2 ⟨v, rfl, ho, hb⟩
  have HO : Hid _ := ho
  have HB2 : Hid (Below w.heap.size w w2) := HB1.out.trans (hb.mono HB1.out.size)
  have HS : Hid _ := HB1.out.size
  clear ho hb
  go_wp2
  go_ret2
  exact ⟨_, rfl, own_le HO.out HS.out, HB2.out⟩
/-- the cells of the document's Writer -/
def yC (K M C V : Int) (vn vd vb : Value) (cl : Bool) : Array Value := #[.int .i64 K, .int .i64 M, .int .i64 C, .int .i64 V, vn, vd, vb, .bool cl]
theorem rnew_ok (k m c v : Nat) (w : World) (hk : 1 ≤ k) (hkm : k + m ≤ 255) (hc : 1 ≤ c) (hc2 : c ≤ 64) (hv : 1 ≤ v) (hv2 : v ≤ 16) :
    Calls Tryz.prog 49 #[pI4 k m c v] w fun e w' => ∃ y, e = .returned (.tuple #[.pointer (some ⟨y, 0, none⟩), .slice none 0 0]) ∧ w.heap.size ≤ y ∧ w'.heap[y]? = some (.cells (yC k m c v (.slice none 0 0) (.slice none 0 0) (.slice none 0 0) false) 185 (0, 0)) ∧ Below w.heap.size w w' := by
  have H : Hid (∀ W, _) := fun W => rparams_ok k m c v W hk hkm hc hc2 hv hv2
  have HB : Hid (Below w.heap.size w (w.alloc (.cells #[.int .i64 k, .int .i64 m, .int .i64 c, .int .i64 v] 23))) := (Below.refl _ _).alloc (Nat.le_refl _) _
  have HO : Hid ((w.alloc (.cells #[.int .i64 k, .int .i64 m, .int .i64 c, .int .i64 v] 23)).heap[w.heap.size]? = some (.cells #[.int .i64 k, .int .i64 m, .int .i64 c, .int .i64 v] 23 (0, 0))) := heap_alloc_new _ _
  unfold pI4 at H ⊢
  go_enter Tryz.func49, Tryz.ntmps49
  go_wp2_with fail
  refine Calls.mono (H.out _) ?_
  rintro e w1 ⟨rfl, hb⟩
  have HB1 : Hid (Below w.heap.size w w1) := HB.out.trans (hb.mono HB.out.size)
  have hr : w1.heap[w.heap.size]? = some (.cells #[.int .i64 k, .int .i64 m, .int .i64 c, .int .i64 v] 23 (0, 0)) := by rw [hb.block _ (by simp)]; exact HO.out
  have c0 : w1.cell? ⟨w.heap.size, 0, none⟩ = some (.int .i64 k) := cell_of_row _ _ _ _ 23 _ hr
  have c1 : w1.cell? ⟨w.heap.size, 1, none⟩ = some (.int .i64 m) := cell_of_row _ _ _ _ 23 _ hr
  have c2 : w1.cell? ⟨w.heap.size, 2, none⟩ = some (.int .i64 c) := cell_of_row _ _ _ _ 23 _ hr
  have c3 : w1.cell? ⟨w.heap.size, 3, none⟩ = some (.int .i64 v) := cell_of_row _ _ _ _ 23 _ hr
  clear hb hr HO
  go_wp2
  go_ret2
  exact ⟨w1.heap.size, rfl, HB1.out.size, heap_alloc_new _ _, HB1.out.alloc HB1.out.size _⟩
end Go.Proofs.YtadinjaocnlglaaGreatDoor
