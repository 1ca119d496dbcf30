/-
  The walks of slices.Index, stripe.checkLengths, split.
-/
import Derived.Test.YtbjgchlckmecaaaDoorS11
import Derived.Maps.AppendAt
import Derived.WalkKit
import Derived.WalkSpells
import Derived.WalkLawsBesides
import Derived.BigRegion
import Derived.BigQuiet
import Derived.Deep.QuietTactic
import Derived.Deep.RegionWith
import Derived.Deep.RegionHeld3
namespace Go.Proofs.YtbjgchlckmecaaaDoor
open Go.RowKit
set_option maxRecDepth 100000
/-- a list of bools -/
def bI (h : Nat → Bool) : Nat → Value := fun i => .bool (h i)
set_option maxHeartbeats 400000 in
theorem index_found (h : Nat → Bool) (b n cap i0 : Nat) (w : World) (hn : n ≤ 1000) (hi0 : i0 < n) (h1 : h i0 = true) (h2 : ∀ j, j < i0 → h j = false) (hc : Cl w b n (bI h)) :
    Calls Tryd.prog 42 #[.slice (some ⟨b, 0, none⟩) n cap, .bool true] w fun e w' => e = .returned (.int .i64 i0) ∧ w' = w := by
  have HC : Hid _ := hc
  have H1 : Hid _ := h1
  have H2 : Hid _ := h2
  clear hc h1 h2
  go_enter Tryd.func42, Tryd.ntmps42
  go_wp2
  go_loop [8] (fun iv => ∃ i : Nat, i ≤ i0 ∧ iv = .int .i64 i) (fun iv => n - (intOf iv).toNat)
  case atStart => exact ⟨0, by omega, rfl⟩
  case round =>
    obtain ⟨i, hi, rfl⟩ := hrel
    have c1 : w.cell? ⟨b, i, none⟩ = some (.bool (h i)) := HC.out i (by omega)
    have hin : i < n := by omega
    by_cases e : i = i0
    · subst e
      rw [H1.out] at c1
      go_wp2
      go_ret
      exact ⟨rfl, rfl⟩
    · rw [H2.out i (by omega)] at c1
      go_wp2
      go_round
      case rel => exact ⟨i + 1, by omega, by go_num⟩
      case measure => simp [intOf]; omega
set_option maxHeartbeats 1000000 in
theorem checkLengths_ok (S : Nat → ByteArray) (h : Nat → Bool) (b n cap b2 cap2 c i0 : Nat) (w : World) (hn : n ≤ 1000) (hi0 : i0 < n) (h1 : h i0 = true) (h2 : ∀ j, j < i0 → h j = false) (hS : ∀ i, i < n → h i = true → (S i).size = c) (hC : Cl w b n (tI S)) (hc : Cl w b2 n (bI h)) :
    Calls Tryd.prog 35 #[.slice (some ⟨b, 0, none⟩) n cap, .slice (some ⟨b2, 0, none⟩) n cap2] w fun e w' => e = .returned .nilIface ∧ ∃ q, w' = w.drewN q := by
  have H : Hid _ := fun W (hW : Cl W b2 n (bI h)) => index_found h b2 n cap2 i0 W hn hi0 h1 h2 hW
  have HC : Hid _ := hC
  have HB : Hid _ := hc
  have HS : Hid _ := hS
  have H1 : Hid _ := h1
  clear hC hc hS h1 h2
  go_enter Tryd.func35, Tryd.ntmps35
  go_wp2_with (go_at_call 42; refine (H.out _ HB.out).mono ?_; rintro e w' ⟨rfl, rfl⟩)
  go_loopw [12] (fun iv wr => ∃ i q : Nat, i ≤ n ∧ iv = .int .i64 i ∧ wr = w'.drewN q) (fun iv _ => n - (intOf iv).toNat)
  case atStart => exact ⟨0, 0, by omega, rfl, rfl⟩
  case round =>
    obtain ⟨i, q, hi, rfl, hq⟩ := hrel
    by_cases hlt : i < n
    · have c1 : wr.cell? ⟨b2, i, none⟩ = some (.bool (h i)) := by rw [hq]; exact HB.out i hlt
      have c2 : wr.cell? ⟨b, i, none⟩ = some (.string (S i)) := by rw [hq]; exact HC.out i hlt
      have c3 : wr.cell? ⟨b, i0, none⟩ = some (.string (S i0)) := by rw [hq]; exact HC.out i0 hi0
      have HQ : Hid _ := hq
      clear hq
      have hi0' : (0 : Int) ≤ (i : Int) := by omega
      have hin' : (i : Int) < (n : Int) := by omega
      have hj0' : (0 : Int) ≤ (i0 : Int) := by omega
      have hjn' : (i0 : Int) < (n : Int) := by omega
      by_cases hh : h i = true
      · rw [hh] at c1
        have hne : (((S i).size : Int) != ((S i0).size : Int)) = false := by rw [bne_eq_false_iff_eq, HS.out i hlt hh, HS.out i0 hi0 H1.out]
        go_wp2
        go_quiet (fail)
        go_wp2
        go_roundw
        case rel => exact ⟨i + 1, _, by omega, by go_num, by rw [HQ.out, World.drewN_drewN]⟩
        case measure => simp [intOf]; omega
      · have hf : h i = false := by simpa using hh
        rw [hf] at c1
        go_wp2
        go_quiet (fail)
        go_wp2
        go_roundw
        case rel => exact ⟨i + 1, _, by omega, by go_num, by rw [HQ.out, World.drewN_drewN]⟩
        case measure => simp [intOf]; omega
    · go_wp2
      go_ret
      exact ⟨rfl, q, rfl⟩
/-- the first k places that has, among the first i -/
def knL (h : Nat → Bool) (k : Nat) : Nat → List Nat
  | 0 => []
  | i + 1 => if h i = true ∧ (knL h k i).length < k then knL h k i ++ [i] else knL h k i
/-- the others -/
def wnL (h : Nat → Bool) (k : Nat) : Nat → List Nat
  | 0 => []
  | i + 1 => if h i = true ∧ (knL h k i).length < k then wnL h k i else wnL h k i ++ [i]
theorem knL_len (h : Nat → Bool) (k : Nat) : ∀ i, (knL h k i).length ≤ i
  | 0 => by simp [knL]
  | i + 1 => by
    rw [knL]
    have := knL_len h k i
    split
    · simp; omega
    · omega
theorem wnL_len (h : Nat → Bool) (k : Nat) : ∀ i, (wnL h k i).length ≤ i
  | 0 => by simp [wnL]
  | i + 1 => by
    rw [wnL]
    have := wnL_len h k i
    split
    · omega
    · simp; omega
def vI (l : List Nat) : List Value := l.map fun p => .int .i64 ((p : Nat) : Int)
theorem vI_snoc (l : List Nat) (i : Nat) : vI (l ++ [i]) = vI l ++ [.int .i64 ((i : Nat) : Int)] := by simp [vI]
theorem own_lt {w : World} {base : Nat} {e : TypeId} {size : Nat} {v : Value} {n : Nat} {xs : List Value} (h : w.ownsRow base e size v n xs) : ∀ g, v.ownBlock = some g → base ≤ g ∧ g < w.heap.size := by
  intro g hg
  rcases h.2 with ⟨h', _⟩ | ⟨g', cap', cur, h', hb, hh, _⟩
  · rw [h'] at hg; simp [Value.ownBlock] at hg
  · rw [h'] at hg; simp [Value.ownBlock] at hg
    subst hg
    exact ⟨hb, (Array.getElem?_eq_some_iff.1 hh).1⟩
/-- two slices of the call's own do not share their array -/
def Apt (u v : Value) : Prop := ∀ g, u.ownBlock = some g → v.ownBlock = some g → False
theorem Apt.symm {u v : Value} (h : Apt u v) : Apt v u := fun g a b => h g b a
theorem Apt.ne {u v : Value} (h : Apt u v) : v.ownBlock = none ∨ v.ownBlock ≠ u.ownBlock := by
  cases hv : v.ownBlock with
  | none => exact .inl rfl
  | some g => exact .inr (fun e => h g e.symm hv)
theorem Apt.step {w : World} {base : Nat} {e : TypeId} {size n : Nat} {xs : List Value} {u v u' : Value} (h : Apt u v) (hv : w.ownsRow base e size v n xs) (hu : u'.ownBlock = u.ownBlock ∨ u'.ownBlock = some w.heap.size) : Apt u' v := by
  intro g a b
  rcases hu with hu | hu
  · exact h g (by rw [← hu]; exact a) b
  · rw [hu] at a
    have := (own_lt hv g b).2
    cases a
    omega
theorem one_cell (x : Int) : ∀ u ∈ [Value.int .i64 x], u.oneCell' = true := by
  intro u hu; simp at hu; subst hu; rfl
theorem own_shape {w : World} {base : Nat} {e : TypeId} {size : Nat} {v : Value} {n : Nat} {xs : List Value} (h : w.ownsRow base e size v n xs) : ∃ a cap, v = .slice a n cap := by
  rcases h.2 with ⟨h', h0⟩ | ⟨g', cap', cur, h', _⟩
  · exact ⟨none, 0, by rw [h', h0]⟩
  · exact ⟨_, _, h'⟩
set_option maxHeartbeats 1000000 in
theorem split_any (h : Nat → Bool) (b n cap k : Nat) (w : World) (hn : n ≤ 1000) (hk : k ≤ 1000) (hb : b < w.heap.size) (hc : Cl w b n (bI h)) :
    Calls Tryd.prog 36 #[.slice (some ⟨b, 0, none⟩) n cap, .int .i64 k] w fun e w' => ∃ v1 v2, e = .returned (.tuple #[v1, v2]) ∧ w'.ownsRow w.heap.size 3 1 v1 (knL h k n).length (vI (knL h k n)) ∧ w'.ownsRow w.heap.size 3 1 v2 (wnL h k n).length (vI (wnL h k n)) ∧ Below w.heap.size w w' := by
  have HC : Hid _ := hc
  clear hc
  obtain ⟨i0, hi, hz0, hz1, hz2⟩ := info_parts info3
  go_enter Tryd.func36, Tryd.ntmps36
  go_wp2
  go_loopw [10, 4, 5] (fun iv v1 v2 wr => ∃ i : Nat, i ≤ n ∧ iv = .int .i64 i ∧ wr.ownsRow w.heap.size 3 1 v1 (knL h k i).length (vI (knL h k i)) ∧ wr.ownsRow w.heap.size 3 1 v2 (wnL h k i).length (vI (wnL h k i)) ∧ Apt v1 v2 ∧ Below w.heap.size w wr) (fun iv _ _ _ => n - (intOf iv).toNat)
  case atStart => exact ⟨0, by omega, rfl, World.ownsRow_nil _ _ _ _, World.ownsRow_nil _ _ _ _, fun g a _ => by simp [Value.ownBlock] at a, Below.refl _ _⟩
  case round =>
    obtain ⟨i, hin, rfl, ho1, ho2, hap, hbl⟩ := hrel
    obtain ⟨a1, cap1, hu4⟩ := own_shape ho1
    obtain ⟨a2, cap2, hu5⟩ := own_shape ho2
    subst hu4
    subst hu5
    by_cases hlt : i < n
    · have c1 : wr.cell? ⟨b, i, none⟩ = some (.bool (h i)) := Cl.below HC.out hbl hb i hlt
      have l1 := knL_len h k i
      have l2 := wnL_len h k i
      have hB' : w.heap.size ≤ (wr.alloc (Obj.cells #[Value.int IntKind.i64 ((i : Nat) : Int)] 3)).heap.size := by have := hbl.size; simp; omega
      by_cases hh : h i = true ∧ (knL h k i).length < k
      · have hkn : knL h k (i + 1) = knL h k i ++ [i] := by rw [knL, if_pos hh]
        have hwn : wnL h k (i + 1) = wnL h k i := by rw [wnL, if_pos hh]
        have HKN : Hid _ := hkn
        have HWN : Hid _ := hwn
        rw [hh.1] at c1
        have hlk : ((knL h k i).length : Int) < (k : Int) := by omega
        clear hkn hwn hh
        go_wp2_with (at_builtin; refine wpList_append_own_at _ rfl (.tmp 22) (.tmp 24) 56 rfl w.heap.size 3 i0 (.int .i64 0) 1 8 Tryd.underlying56 hi hz0 hz1 hz2 rfl (by decide) _ (knL h k i).length (vI (knL h k i)) rfl (ho1.alloc _) ⟨wr.heap.size, 0, none⟩ 1 1 [.int .i64 ((i : Nat) : Int)] rfl rfl (cell_one_new _ _ _) (one_cell _) ?kb ?kc hB' ?_)
        case kb => unfold maxLen; omega
        case kc => omega
        intro v' w' hown' hgrow _ hblk
        have hoth := (ho2.alloc (Obj.cells #[Value.int IntKind.i64 ((i : Nat) : Int)] 3)).kept hgrow (hap.ne)
        have hap' : Apt v' (.slice a2 (wnL h k i).length cap2) := Apt.step hap (ho2.alloc (Obj.cells #[Value.int IntKind.i64 ((i : Nat) : Int)] 3)) (by simpa using hblk)
        have hbl' : Below w.heap.size w w' := (hbl.alloc hbl.size _).grown hgrow hB' (fun g hg => (own_lt ho1 g hg).1)
        have ho1' : w'.ownsRow w.heap.size 3 1 v' (knL h k (i + 1)).length (vI (knL h k (i + 1))) := by rw [HKN.out, vI_snoc]; simpa using hown'
        have ho2' : w'.ownsRow w.heap.size 3 1 (.slice a2 (wnL h k i).length cap2) (wnL h k (i + 1)).length (vI (wnL h k (i + 1))) := by rw [HWN.out]; exact hoth
        clear hown' hgrow hblk hoth ho1 ho2 hap hbl hB'
        go_wp2
        go_roundw
        case rel => exact ⟨i + 1, by omega, by go_num, ho1', ho2', hap', hbl'⟩
        case measure => simp [intOf]; omega
      · have hkn : knL h k (i + 1) = knL h k i := by rw [knL, if_neg hh]
        have hwn : wnL h k (i + 1) = wnL h k i ++ [i] := by rw [wnL, if_neg hh]
        have HKN : Hid _ := hkn
        have HWN : Hid _ := hwn
        have hcase : h i = false ∨ (h i = true ∧ (k : Int) ≤ ((knL h k i).length : Int)) := by
          cases hv : h i with
          | false => exact .inl rfl
          | true => exact .inr ⟨rfl, by have : ¬ (knL h k i).length < k := fun e => hh ⟨hv, e⟩; omega⟩
        clear hkn hwn hh
        rcases hcase with hv | ⟨hv, hge⟩
        all_goals rw [hv] at c1
        all_goals
          go_wp2_with (at_builtin; refine wpList_append_own_at _ rfl (.tmp 26) (.tmp 28) 56 rfl w.heap.size 3 i0 (.int .i64 0) 1 8 Tryd.underlying56 hi hz0 hz1 hz2 rfl (by decide) _ (wnL h k i).length (vI (wnL h k i)) rfl (ho2.alloc _) ⟨wr.heap.size, 0, none⟩ 1 1 [.int .i64 ((i : Nat) : Int)] rfl rfl (cell_one_new _ _ _) (one_cell _) ?_ ?_ hB' ?_)
          · unfold maxLen; omega
          · omega
          intro v' w' hown' hgrow _ hblk
          have hoth := (ho1.alloc (Obj.cells #[Value.int IntKind.i64 ((i : Nat) : Int)] 3)).kept hgrow (hap.symm.ne)
          have hap' : Apt v' (.slice a1 (knL h k i).length cap1) := Apt.step hap.symm (ho1.alloc (Obj.cells #[Value.int IntKind.i64 ((i : Nat) : Int)] 3)) (by simpa using hblk)
          have hbl' : Below w.heap.size w w' := (hbl.alloc hbl.size _).grown hgrow hB' (fun g hg => (own_lt ho2 g hg).1)
          have ho2' : w'.ownsRow w.heap.size 3 1 v' (wnL h k (i + 1)).length (vI (wnL h k (i + 1))) := by rw [HWN.out, vI_snoc]; simpa using hown'
          have ho1' : w'.ownsRow w.heap.size 3 1 (.slice a1 (knL h k i).length cap1) (knL h k (i + 1)).length (vI (knL h k (i + 1))) := by rw [HKN.out]; exact hoth
          clear hown' hgrow hblk hoth ho1 ho2 hap hbl hB'
          go_wp2
          go_roundw
          case rel => exact ⟨i + 1, by omega, by go_num, ho1', ho2', hap'.symm, hbl'⟩
          case measure => simp [intOf]; omega
    · have e : i = n := by omega
      subst e
      go_wp2
      go_ret2
      exact ⟨_, _, rfl, ho1, ho2, hbl⟩
end Go.Proofs.YtbjgchlckmecaaaDoor
