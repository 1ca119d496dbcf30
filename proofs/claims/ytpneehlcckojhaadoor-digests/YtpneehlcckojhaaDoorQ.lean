/-
  The walk of the law.
-/
import Derived.Test.YtpneehlcckojhaaDoorO
import Derived.Test.YtpneehlcckojhaaDoorP
import Derived.WalkKit
import Derived.WalkSpells
import Derived.WalkLawsBesides
namespace Go.Proofs.YtpneehlcckojhaaDoor
open Go.RowKit
/-- what the tables hold, as the walks ask it -/
structure Tabs (w : World) (kt : Nat → Int) : Prop where
  own : Tab w 2 kt
  ref : Tab w 1 kt
  first : ∀ j, j < 8 → w.cell? ⟨0, j, none⟩ = some (.int .u32 (hini j))
  size : 3 ≤ w.heap.size
theorem Tabs.below {w w' : World} {kt : Nat → Int} (h : Tabs w kt) (hb : Below w.heap.size w w') : Tabs w' kt :=
  ⟨h.own.below hb (by have := h.size; omega), h.ref.below hb (by have := h.size; omega), fun j hj => (hb.cell (p := ⟨0, j, none⟩) (by have := h.size; show 0 < w.heap.size; omega)).trans (h.first j hj), Nat.le_trans h.size hb.size⟩
set_option maxHeartbeats 400000 in
theorem digest4 (kt : Nat → Int) (s : ByteArray) (w : World) (hs : s.size ≤ 140737488351232) (hT : Tabs w kt) :
    Calls Tryd.prog 4 #[.string s] w fun e w' => e = .returned (.string (ofT kt s)) ∧ Below w.heap.size w w' := by
  have h6 := of_any kt s w hs hT.own hT.size
  have H6 : Hid _ := h6
  clear h6 hT
  go_enter Tryd.func4, Tryd.ntmps4
  go_wp2_with fail
  refine Calls.mono H6.out ?_
  rintro e w1 ⟨rfl, hb1⟩
  go_wp2
  go_ret
  exact ⟨rfl, hb1⟩
theorem digest5 (kt : Nat → Int) (s : ByteArray) (w : World) (hs : s.size ≤ 140737488351232) (hT : Tabs w kt) :
    Calls Tryd.prog 5 #[.string s] w fun e w' => e = .returned (.string (ofT kt s)) ∧ Below w.heap.size w w' := by
  rw [one_digest]; exact refDigest_any kt s w hs hT.ref hT.first hT.size
set_option maxHeartbeats 400000 in
theorem digests_none (ao : Option Addr) (cap : Nat) (w : World) :
    Calls Tryd.prog 3 #[.slice ao 0 cap] w fun e w' => e = .returned (.bool true) ∧ Below w.heap.size w w' := by
  go_enter Tryd.func3, Tryd.ntmps3
  go_wp2
  refine wp_loop_rounds 1 ?_
  rw [rounds_succ]
  go_wp2
  go_ret
  exact ⟨rfl, Below.refl _ _⟩
set_option maxHeartbeats 1000000 in
theorem digests_some (kt : Nat → Int) (b off len cap : Nat) (ss : List ByteArray) (w : World) (hlen : len * 16 ≤ 140737488351232) (hl : len ≤ ss.length)
    (hcell : ∀ i, i < ss.length → w.cell? ⟨b, off + i, none⟩ = some (.string (ss.getD i ByteArray.empty))) (hsz : ∀ i, i < len → (ss.getD i ByteArray.empty).size ≤ 140737488351232) (hbs : b < w.heap.size) (hT : Tabs w kt) :
    Calls Tryd.prog 3 #[.slice (some ⟨b, off, none⟩) len cap] w fun e w' => e = .returned (.bool true) ∧ Below w.heap.size w w' := by
  have HC : Hid _ := hcell
  have HS : Hid _ := hsz
  clear hcell hsz
  go_enter Tryd.func3, Tryd.ntmps3
  go_wp2
  go_loopw [3] (fun i wr => ∃ k : Nat, k ≤ len ∧ i = .int .i64 k ∧ Below w.heap.size w wr) (fun i _ => len - (intOf i).toNat)
  case atStart => exact ⟨0, by omega, rfl, Below.refl _ _⟩
  case round =>
    obtain ⟨k, hk, rfl, hb⟩ := hrel
    by_cases hlt : k < len
    · obtain ⟨s, hs⟩ : ∃ s, s = ss.getD k ByteArray.empty := ⟨_, rfl⟩
      have hc : wr.cell? ⟨b, off + k, none⟩ = some (.string s) := by rw [hs]; exact (hb.cell (p := ⟨b, off + k, none⟩) hbs).trans (HC.out k (by omega))
      have hss : s.size ≤ 140737488351232 := by rw [hs]; exact HS.out k hlt
      clear hs
      have hTr : Tabs wr kt := hT.below hb
      go_wp2_with (first | (go_at_call 4; refine (digest4 kt s _ hss hTr).mono ?_; rintro e w1 ⟨rfl, hb1⟩; have hT1 := hTr.below hb1; have hc1 := (hb1.cell (p := ⟨b, off + k, none⟩) (block_lt_of_cell hc)).trans hc) | (go_at_call 5; refine (digest5 kt s _ hss hT1).mono ?_; rintro e w2 ⟨rfl, hb2⟩))
      go_roundw
      case rel => exact ⟨k + 1, by omega, by go_num, (hb.trans (hb1.mono hb.size)).trans (hb2.mono (Nat.le_trans hb.size hb1.size))⟩
      case measure => simp [intOf]; omega
    · go_wp2
      go_ret
      exact ⟨rfl, hb⟩
end Go.Proofs.YtpneehlcckojhaaDoor
