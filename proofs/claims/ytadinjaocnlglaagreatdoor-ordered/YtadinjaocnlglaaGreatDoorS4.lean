/-
  The walks of matrix.differences, productsOfOthers.
-/
import Derived.Test.YtadinjaocnlglaaGreatDoorS3
import Derived.WalkKit
import Derived.WalkSpells
import Derived.WalkLawsBesides
import Derived.BigRegion
import Derived.BigQuiet
import Derived.Deep.QuietTactic
import Derived.Deep.RegionWith
import Derived.Deep.RegionHeld3
namespace Go.Proofs.YtadinjaocnlglaaGreatDoor
open Go.RowKit
theorem m_minus (v : Value) (w : World) : (method 587 393 v "Minus").run Tryz.prog w = .ok (381, v) w := by kernel_rfl
theorem m_times (v : Value) (w : World) : (method 587 393 v "Times").run Tryz.prog w = .ok (385, v) w := by kernel_rfl
theorem m_plus (v : Value) (w : World) : (method 587 393 v "Plus").run Tryz.prog w = .ok (384, v) w := by kernel_rfl
theorem m_one (v : Value) (w : World) : (method 587 393 v "One").run Tryz.prog w = .ok (382, v) w := by kernel_rfl
theorem m_over (v : Value) (w : World) : (method 587 393 v "Over").run Tryz.prog w = .ok (383, v) w := by kernel_rfl
set_option maxHeartbeats 400000 in
theorem differences_any (x : Nat) (p : Nat → Nat) (b n cap : Nat) (w : World) (hx : x < 256) (hn : n ≤ 1000) (hp : ∀ i, i < n → p i < 256) (hb0 : b < w.heap.size) (hc : Cl w b n (nb p)) :
    Calls Tryz.prog 305 #[.int .u8 x, .slice (some ⟨b, 0, none⟩) n cap] w fun e w' => e = .returned (.slice (some ⟨w.heap.size, 0, none⟩) n n) ∧ Rw w' w.heap.size n 393 (nb fun i => x ^^^ p i) ∧ Below w.heap.size w w' := by
  have HC : Hid _ := hc
  have HP : Hid _ := hp
  clear hc hp
  have hmk := run_make_row' (P := Tryz.prog) 390 393 (.int .u8 0) 1 Tryz.underlying390 info56 rfl .i64 .i64 n (by omega) (by omega)
  go_enter Tryz.func305, Tryz.ntmps305
  go_wp2
  go_loopw [13] (fun i wr => ∃ k : Nat, k ≤ n ∧ i = .int .i64 k ∧ Below w.heap.size w wr ∧ Rw wr w.heap.size n 393 (part' k (nb fun i => x ^^^ p i) (.int .u8 0))) (fun i _ => n - (intOf i).toNat)
  case atStart => exact ⟨0, by omega, rfl, (Below.refl _ _).alloc (Nat.le_refl _) _, (Rw.made w n 393 (.int .u8 0)).to (fun j _ => (part_0 _ _ j).symm)⟩
  case round =>
    obtain ⟨k, hk, rfl, hb, hR⟩ := hrel
    by_cases hlt : k < n
    · have c1 := hR.cell k hlt
      have c2 := hR.free k
      have c3 : wr.cell? ⟨b, k, none⟩ = some (.int .u8 ((p k : Nat) : Int)) := Cl.below HC.out hb hb0 k hlt
      have hpk := HP.out k hlt
      have hm := m_minus
      go_wp2_with (go_at_call 381; refine (minus_any x (p k) _ hx hpk).mono ?_; rintro e w' ⟨rfl, rfl⟩)
      go_roundw
      case rel => exact ⟨k + 1, by omega, by go_num, hb.setCell (Nat.le_refl _) _, (hR.put k _).to (fun j _ => by rw [← part_step]; rfl)⟩
      case measure => simp [intOf]; omega
    · have e : k = n := by omega
      subst e
      go_wp2
      go_ret
      exact ⟨rfl, hR.to (fun j hj => by simp [part', hj]), hb⟩

/-- the product of what is ahead of the k-th factor -/
def ahd (f : Nat → Nat) : Nat → Nat
  | 0 => 1
  | k + 1 => gm (ahd f k) (f k)
/-- the product of the last c of n factors, from behind -/
def bhd (f : Nat → Nat) (n : Nat) : Nat → Nat
  | 0 => 1
  | c + 1 => gm (bhd f n c) (f (n - 1 - c))
/-- the product of all factors but the j-th -/
def oth (f : Nat → Nat) (n j : Nat) : Nat := gm (ahd f j) (bhd f n (n - 1 - j))
theorem ahd_lt (f : Nat → Nat) : ∀ k, ahd f k < 256
  | 0 => by show 1 < 256; omega
  | k + 1 => gm_lt _ _ (ahd_lt f k)
theorem bhd_lt (f : Nat → Nat) (n : Nat) : ∀ k, bhd f n k < 256
  | 0 => by show 1 < 256; omega
  | k + 1 => gm_lt _ _ (bhd_lt f n k)
/-- the last c products are whole -/
def mid (f : Nat → Nat) (n c : Nat) : Nat → Value := fun j => .int .u8 (((if n - c ≤ j then oth f n j else ahd f j) : Nat) : Int)
theorem mid_step (f : Nat → Nat) (n c : Nat) (hc : c < n) (j : Nat) (hj : j < n) : updV (mid f n c) (n - 1 - c) (.int .u8 ((gm (ahd f (n - 1 - c)) (bhd f n c) : Nat) : Int)) j = mid f n (c + 1) j := by
  simp only [updV, mid]
  by_cases h : j = n - 1 - c
  · rw [if_pos h, if_pos (by omega)]
    unfold oth
    rw [h, show n - 1 - (n - 1 - c) = c by omega]
  · rw [if_neg h]
    by_cases h2 : n - c ≤ j
    · rw [if_pos h2, if_pos (by omega)]
    · rw [if_neg h2, if_neg (by omega)]
set_option maxHeartbeats 1000000 in
theorem others_any (f : Nat → Nat) (b n cap : Nat) (w : World) (hn : n ≤ 1000) (hf : ∀ i, i < n → f i < 256) (hb0 : b < w.heap.size) (hc : Cl w b n (nb f)) :
    Calls Tryz.prog 304 #[.slice (some ⟨b, 0, none⟩) n cap] w fun e w' => e = .returned (.slice (some ⟨w.heap.size, 0, none⟩) n n) ∧ Rw w' w.heap.size n 393 (nb (oth f n)) ∧ Below w.heap.size w w' := by
  have HC : Hid _ := hc
  have HP : Hid _ := hf
  clear hc hf
  have hmk := run_make_row' (P := Tryz.prog) 390 393 (.int .u8 0) 1 Tryz.underlying390 info56 rfl .i64 .i64 n (by omega) (by omega)
  have hm1 := m_one
  have hm2 := m_times
  go_enter Tryz.func304, Tryz.ntmps304
  go_wp2_with (go_at_call 382; refine (one_any _ _).mono ?_; rintro e w' ⟨rfl, rfl⟩)
  go_loopw [18, 5] (fun i v wr => ∃ k : Nat, k ≤ n ∧ i = .int .i64 k ∧ v = .int .u8 ((ahd f k : Nat) : Int) ∧ Below w.heap.size w wr ∧ Rw wr w.heap.size n 393 (part' k (nb (ahd f)) (.int .u8 0))) (fun i _ _ => n - (intOf i).toNat)
  case atStart => exact ⟨0, by omega, rfl, rfl, (Below.refl _ _).alloc (Nat.le_refl _) _, (Rw.made w n 393 (.int .u8 0)).to (fun j _ => (part_0 _ _ j).symm)⟩
  case round =>
    obtain ⟨k, hk, rfl, rfl, hb, hR⟩ := hrel
    by_cases hlt : k < n
    · have c1 := hR.cell k hlt
      have c2 := hR.free k
      have c3 : wr.cell? ⟨b, k, none⟩ = some (.int .u8 ((f k : Nat) : Int)) := Cl.below HC.out hb hb0 k hlt
      have hpk := HP.out k hlt
      have hak := ahd_lt f k
      go_wp2_with (go_at_call 385; refine (times_any (ahd f k) (f k) _ hak hpk).mono ?_; rintro e w' ⟨rfl, rfl⟩)
      go_roundw
      case rel => exact ⟨k + 1, by omega, by go_num, rfl, hb.setCell (Nat.le_refl _) _, (hR.put k _).to (fun j _ => by rw [← part_step]; rfl)⟩
      case measure => simp [intOf]; omega
    · have e : k = n := by omega
      subst e
      have hR' : Rw wr w.heap.size k 393 (mid f k 0) := hR.to (fun j hj => by simp only [part', mid, nb]; rw [if_pos hj, if_neg (by omega)])
      clear hR
      go_wp2_with (go_at_call 382; refine (one_any _ _).mono ?_; rintro e w' ⟨rfl, rfl⟩)
      go_loopw [9, 8] (fun i v wr => ∃ c : Nat, c ≤ k ∧ i = .int .i64 ((k : Int) - 1 - c) ∧ v = .int .u8 ((bhd f k c : Nat) : Int) ∧ Below w.heap.size w wr ∧ Rw wr w.heap.size k 393 (mid f k c)) (fun i _ _ => (intOf i + 1).toNat)
      case atStart => exact ⟨0, by omega, by go_num, rfl, hb, hR'⟩
      case round =>
        clear hb hR'
        obtain ⟨c, hc, rfl, rfl, hb, hR⟩ := hrel
        by_cases hlt : c < k
        · obtain ⟨i, hi⟩ : ∃ i : Nat, i = k - 1 - c := ⟨_, rfl⟩
          have hii : ((k : Int) - 1 - c) = (i : Int) := by omega
          rw [hii]
          have hik : i < k := by omega
          have HI : Hid (i = k - 1 - c) := hi
          have HII : Hid (((k : Int) - 1 - c) = (i : Int)) := hii
          clear hi hii
          have c1 : wr.cell? ⟨w.heap.size, i, none⟩ = some (.int .u8 ((ahd f i : Nat) : Int)) := by
            rw [hR.cell i hik]
            simp only [mid]
            rw [if_neg (by have := HI.out; omega)]
          have c2 := hR.free i
          have c3 : wr.cell? ⟨b, i, none⟩ = some (.int .u8 ((f i : Nat) : Int)) := Cl.below HC.out hb hb0 i hik
          have hpk := HP.out i hik
          have hai := ahd_lt f i
          have hbc := bhd_lt f k c
          go_wp2_with fail
          refine (times_any (ahd f i) (bhd f k c) _ hai hbc).mono ?_
          rintro e w' ⟨rfl, rfl⟩
          have c4 : (w'.setCell ⟨w.heap.size, i, none⟩ (.int .u8 ((gm (ahd f i) (bhd f k c) : Nat) : Int))).cell? ⟨b, i, none⟩ = some (.int .u8 ((f i : Nat) : Int)) := Cl.below HC.out (hb.setCell (Nat.le_refl _) _) hb0 i hik
          go_wp2_with fail
          refine (times_any (bhd f k c) (f i) _ hbc hpk).mono ?_
          rintro e w'' ⟨rfl, rfl⟩
          go_wp2
          go_roundw
          case rel => exact ⟨c + 1, by omega, by have := HII.out; go_num, by show Value.int .u8 _ = Value.int .u8 ((gm (bhd f k c) (f (k - 1 - c)) : Nat) : Int); rw [← HI.out], hb.setCell (Nat.le_refl _) _, (hR.put i _).to (fun j hj => by rw [← mid_step f k c hlt j hj, ← HI.out])⟩
          case measure => have := HII.out; simp [intOf]
        · have e : c = k := by omega
          subst e
          go_wp2
          go_ret
          exact ⟨rfl, hR.to (fun j hj => by simp only [mid, nb]; rw [if_pos (by omega)]), hb⟩
end Go.Proofs.YtadinjaocnlglaaGreatDoor
