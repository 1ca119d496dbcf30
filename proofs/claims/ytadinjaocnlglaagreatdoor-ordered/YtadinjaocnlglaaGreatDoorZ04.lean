/-
  The walks of stripe.row, numbers, text; matrix.differences, width.
  The walks of matrix.differences, productsOfOthers.
  The walk of matrix.lagrangeScales.
  The walks of matrix.width, weighted.
-/
import Derived.Test.YtadinjaocnlglaaGreatDoorZ03
import Derived.WalkKit
import Derived.WalkSpells
import Derived.WalkLawsBesides
import Derived.BigRegion
import Derived.BigQuiet
import Derived.Deep.QuietTactic
import Derived.Deep.RegionWith
import Derived.Deep.RegionHeld3
namespace Go.Proofs.YtadinjaocnlglaaGreatDoor
open Go.RowKit

/-- the first n cells of the block b -/
def Cl (w : World) (b n : Nat) (v : Nat → Value) : Prop := ∀ i, i < n → w.cell? ⟨b, i, none⟩ = some (v i)
theorem Rw.cl {w : World} {g n : Nat} {t : TypeId} {f : Nat → Value} (h : Rw w g n t f) : Cl w g n f := fun i hi => h.cell i hi
theorem Cl.below {w w' : World} {b n : Nat} {v : Nat → Value} (h : Cl w b n v) {B : Nat} (hb : Below B w w') (hB : b < B) : Cl w' b n v := fun i hi => (hb.cell (p := ⟨b, i, none⟩) hB).trans (h i hi)
/-- a byte as a number -/
def nb (f : Nat → Nat) : Nat → Value := fun i => .int .u8 ((f i : Nat) : Int)
/-- the i-th byte -/
def bN (s : ByteArray) (i : Nat) : Nat := (s.data.toList.getD i 0).toNat
theorem bN_lt (s : ByteArray) (i : Nat) : bN s i < 256 := (s.data.toList.getD i 0).toNat_lt
theorem index_bN (s : ByteArray) (i : Nat) (h : i < s.size) (W : World) : (Instr.index 9 (.string s) (.int .i64 (i : Int))).run Tryz.prog W = .ok (.int .u8 ((bN s i : Nat) : Int)) W := by
  rw [run_index_string W 9 s .i64 i Tryz.underlying9, dif_pos ⟨by omega, by omega⟩]
  have hs : i < s.data.toList.length := h
  have e : bN s i = (s[i]'h).toNat := by
    unfold bN
    rw [List.getD_eq_getElem?_getD, List.getElem?_eq_getElem hs]
    rfl
  rw [e]
  rfl
set_option maxHeartbeats 400000 in
theorem row_any (s : ByteArray) (w : World) (hs : s.size ≤ 140737488351232) :
    Calls Tryz.prog 270 #[.string s] w fun e w' => e = .returned (.slice (some ⟨w.heap.size, 0, none⟩) s.size s.size) ∧ Rw w' w.heap.size s.size 393 (nb (bN s)) ∧ Below w.heap.size w w' := by
  have hmk := run_make_row' (P := Tryz.prog) 390 393 (.int .u8 0) 1 Tryz.underlying390 info56 rfl .i64 .i64 s.size (by omega) (by omega)
  go_enter Tryz.func270, Tryz.ntmps270
  go_wp2
  go_loopw [10] (fun i wr => ∃ k : Nat, k ≤ s.size ∧ i = .int .i64 k ∧ Below w.heap.size w wr ∧ Rw wr w.heap.size s.size 393 (part' k (nb (bN s)) (.int .u8 0))) (fun i _ => s.size - (intOf i).toNat)
  case atStart => exact ⟨0, by omega, rfl, (Below.refl _ _).alloc (Nat.le_refl _) _, (Rw.made w s.size 393 (.int .u8 0)).to (fun j _ => (part_0 _ _ j).symm)⟩
  case round =>
    obtain ⟨k, hk, rfl, hb, hR⟩ := hrel
    by_cases hlt : k < s.size
    · have c1 := hR.cell k hlt
      have c2 := hR.free k
      have hix := index_bN s k hlt
      go_wp2
      go_roundw
      case rel => exact ⟨k + 1, by omega, by go_num, hb.setCell (Nat.le_refl _) _, (hR.put k _).to (fun j _ => by rw [← part_step]; rfl)⟩
      case measure => simp [intOf]; omega
    · have e : k = s.size := by omega
      subst e
      go_wp2
      go_ret
      exact ⟨rfl, hR.to (fun j hj => by simp [part', hj]), hb⟩
/-- points as ints -/
def pI (p : Nat → Nat) : Nat → Value := fun i => .int .i64 ((p i : Nat) : Int)
set_option maxHeartbeats 400000 in
theorem numbers_any (p : Nat → Nat) (b n cap : Nat) (w : World) (hn : n ≤ 1000) (hp : ∀ i, i < n → p i < 256) (hb0 : b < w.heap.size) (hc : Cl w b n (pI p)) :
    Calls Tryz.prog 272 #[.slice (some ⟨b, 0, none⟩) n cap] w fun e w' => e = .returned (.slice (some ⟨w.heap.size, 0, none⟩) n n) ∧ Rw w' w.heap.size n 393 (nb p) ∧ Below w.heap.size w w' := by
  have HC : Hid _ := hc
  have HP : Hid _ := hp
  clear hc hp
  have hmk := run_make_row' (P := Tryz.prog) 390 393 (.int .u8 0) 1 Tryz.underlying390 info56 rfl .i64 .i64 n (by omega) (by omega)
  go_enter Tryz.func272, Tryz.ntmps272
  go_wp2
  go_loopw [11] (fun i wr => ∃ k : Nat, k ≤ n ∧ i = .int .i64 k ∧ Below w.heap.size w wr ∧ Rw wr w.heap.size n 393 (part' k (nb p) (.int .u8 0))) (fun i _ => n - (intOf i).toNat)
  case atStart => exact ⟨0, by omega, rfl, (Below.refl _ _).alloc (Nat.le_refl _) _, (Rw.made w n 393 (.int .u8 0)).to (fun j _ => (part_0 _ _ j).symm)⟩
  case round =>
    obtain ⟨k, hk, rfl, hb, hR⟩ := hrel
    by_cases hlt : k < n
    · have c1 := hR.cell k hlt
      have c2 := hR.free k
      have c3 : wr.cell? ⟨b, k, none⟩ = some (.int .i64 ((p k : Nat) : Int)) := Cl.below HC.out hb hb0 k hlt
      have hpk : (p k : Int) < 256 := by have := HP.out k hlt; omega
      have hmod : ((p k : Int) % 256) = (p k : Int) := by omega
      go_wp2
      go_roundw
      case rel => exact ⟨k + 1, by omega, by go_num, hb.setCell (Nat.le_refl _) _, (hR.put k _).to (fun j _ => by rw [← part_step]; rfl)⟩
      case measure => simp [intOf]; omega
    · have e : k = n := by omega
      subst e
      go_wp2
      go_ret
      exact ⟨rfl, hR.to (fun j hj => by simp [part', hj]), hb⟩
set_option maxHeartbeats 400000 in
theorem numbers_nil (w : World) :
    Calls Tryz.prog 272 #[.slice none 0 0] w fun e w' => e = .returned (.slice (some ⟨w.heap.size, 0, none⟩) 0 0) ∧ Rw w' w.heap.size 0 393 (nb fun _ => 0) ∧ Below w.heap.size w w' := by
  have hmk : ∀ w : World, (Instr.makeSlice 390 (.int .i64 0) (.int .i64 0)).run Tryz.prog w = .ok (.slice (some ⟨w.heap.size, 0, none⟩) 0 0) (w.alloc (.cells (madeCells #[.int .u8 0] 0) 393)) := run_make_row' (P := Tryz.prog) 390 393 (.int .u8 0) 1 Tryz.underlying390 info56 rfl .i64 .i64 0 (by omega) (by omega)
  go_enter Tryz.func272, Tryz.ntmps272
  go_wp2
  refine wp_loop_rounds 1 ?_
  rw [rounds_succ]
  go_wp2
  go_ret
  exact ⟨rfl, Rw.made w 0 393 (.int .u8 0), (Below.refl _ _).alloc (Nat.le_refl _) _⟩
/-- n bytes as a text -/
def txtN (n : Nat) (f : Nat → Nat) : ByteArray := strOfNums ((List.range n).map fun i => ((f i : Nat) : Int))
set_option maxHeartbeats 400000 in
theorem text_any (f : Nat → Nat) (b n cap : Nat) (w : World) (hn : n ≤ 140737488351232) (hb0 : b < w.heap.size) (hc : Cl w b n (nb f)) :
    Calls Tryz.prog 274 #[.slice (some ⟨b, 0, none⟩) n cap] w fun e w' => e = .returned (.string (txtN n f)) ∧ Below w.heap.size w w' := by
  have HC : Hid _ := hc
  clear hc
  have hmk := run_make_row' (P := Tryz.prog) 165 5 (.int .u8 0) 1 Tryz.underlying165 info5 rfl .i64 .i64 n (by omega) (by omega)
  go_enter Tryz.func274, Tryz.ntmps274
  go_wp2
  go_loopw [11] (fun i wr => ∃ k : Nat, k ≤ n ∧ i = .int .i64 k ∧ Below w.heap.size w wr ∧ Rw wr w.heap.size n 5 (part' k (nb f) (.int .u8 0))) (fun i _ => n - (intOf i).toNat)
  case atStart => exact ⟨0, by omega, rfl, (Below.refl _ _).alloc (Nat.le_refl _) _, (Rw.made w n 5 (.int .u8 0)).to (fun j _ => (part_0 _ _ j).symm)⟩
  case round =>
    obtain ⟨k, hk, rfl, hb, hR⟩ := hrel
    by_cases hlt : k < n
    · have c1 := hR.cell k hlt
      have c2 := hR.free k
      have c3 : wr.cell? ⟨b, k, none⟩ = some (.int .u8 ((f k : Nat) : Int)) := Cl.below HC.out hb hb0 k hlt
      go_wp2
      go_roundw
      case rel => exact ⟨k + 1, by omega, by go_num, hb.setCell (Nat.le_refl _) _, (hR.put k _).to (fun j _ => by rw [← part_step]; rfl)⟩
      case measure => simp [intOf]; omega
    · have e : k = n := by omega
      subst e
      have hcv := run_convert_bytes_arg (P := Tryz.prog) wr 165 5 Tryz.underlying165 Tryz.underlying5 w.heap.size 0 k k ((List.range k).map fun i => ((f i : Nat) : Int)) (by simp) (fun i hi => by
        rw [Nat.zero_add, hR.cell i hi]
        simp [part', hi, nb]) 9 Tryz.underlying9
      go_wp2
      go_ret
      exact ⟨rfl, hb⟩
theorem meth_minus (v : Value) (w : World) : (method 587 393 v "Minus").run Tryz.prog w = .ok (381, v) w := by kernel_rfl
end Go.Proofs.YtadinjaocnlglaaGreatDoor
namespace Go.Proofs.YtadinjaocnlglaaGreatDoor
open Go.RowKit
theorem m_minus (v : Value) (w : World) : (method 587 393 v "Minus").run Tryz.prog w = .ok (381, v) w := by kernel_rfl
theorem m_times (v : Value) (w : World) : (method 587 393 v "Times").run Tryz.prog w = .ok (385, v) w := by kernel_rfl
theorem m_plus (v : Value) (w : World) : (method 587 393 v "Plus").run Tryz.prog w = .ok (384, v) w := by kernel_rfl
theorem m_one (v : Value) (w : World) : (method 587 393 v "One").run Tryz.prog w = .ok (382, v) w := by kernel_rfl
theorem m_over (v : Value) (w : World) : (method 587 393 v "Over").run Tryz.prog w = .ok (383, v) w := by kernel_rfl
set_option maxHeartbeats 400000 in
theorem differences_any (x : Nat) (p : Nat → Nat) (b n cap : Nat) (w : World) (hx : x < 256) (hn : n ≤ 1000) (hp : ∀ i, i < n → p i < 256) (hb0 : b < w.heap.size) (hc : Cl w b n (nb p)) :
    Calls Tryz.prog 305 #[.int .u8 x, .slice (some ⟨b, 0, none⟩) n cap] w fun e w' => e = .returned (.slice (some ⟨w.heap.size, 0, none⟩) n n) ∧ Rw w' w.heap.size n 393 (nb fun i => x ^^^ p i) ∧ Below w.heap.size w w' := by
  have HC : Hid _ := hc
  have HP : Hid _ := hp
  clear hc hp
  have hmk := run_make_row' (P := Tryz.prog) 390 393 (.int .u8 0) 1 Tryz.underlying390 info56 rfl .i64 .i64 n (by omega) (by omega)
  go_enter Tryz.func305, Tryz.ntmps305
  go_wp2
  go_loopw [13] (fun i wr => ∃ k : Nat, k ≤ n ∧ i = .int .i64 k ∧ Below w.heap.size w wr ∧ Rw wr w.heap.size n 393 (part' k (nb fun i => x ^^^ p i) (.int .u8 0))) (fun i _ => n - (intOf i).toNat)
  case atStart => exact ⟨0, by omega, rfl, (Below.refl _ _).alloc (Nat.le_refl _) _, (Rw.made w n 393 (.int .u8 0)).to (fun j _ => (part_0 _ _ j).symm)⟩
  case round =>
    obtain ⟨k, hk, rfl, hb, hR⟩ := hrel
    by_cases hlt : k < n
    · have c1 := hR.cell k hlt
      have c2 := hR.free k
      have c3 : wr.cell? ⟨b, k, none⟩ = some (.int .u8 ((p k : Nat) : Int)) := Cl.below HC.out hb hb0 k hlt
      have hpk := HP.out k hlt
      have hm := m_minus
      go_wp2_with (go_at_call 381; refine (minus_any x (p k) _ hx hpk).mono ?_; rintro e w' ⟨rfl, rfl⟩)
      go_roundw
      case rel => exact ⟨k + 1, by omega, by go_num, hb.setCell (Nat.le_refl _) _, (hR.put k _).to (fun j _ => by rw [← part_step]; rfl)⟩
      case measure => simp [intOf]; omega
    · have e : k = n := by omega
      subst e
      go_wp2
      go_ret
      exact ⟨rfl, hR.to (fun j hj => by simp [part', hj]), hb⟩

/-- the product of what is ahead of the k-th factor -/
def ahd (f : Nat → Nat) : Nat → Nat
  | 0 => 1
  | k + 1 => gm (ahd f k) (f k)
/-- the product of the last c of n factors, from behind -/
def bhd (f : Nat → Nat) (n : Nat) : Nat → Nat
  | 0 => 1
  | c + 1 => gm (bhd f n c) (f (n - 1 - c))
/-- the product of all factors but the j-th -/
def oth (f : Nat → Nat) (n j : Nat) : Nat := gm (ahd f j) (bhd f n (n - 1 - j))
theorem ahd_lt (f : Nat → Nat) : ∀ k, ahd f k < 256
  | 0 => by show 1 < 256; omega
  | k + 1 => gm_lt _ _ (ahd_lt f k)
theorem bhd_lt (f : Nat → Nat) (n : Nat) : ∀ k, bhd f n k < 256
  | 0 => by show 1 < 256; omega
  | k + 1 => gm_lt _ _ (bhd_lt f n k)
/-- the last c products are whole -/
def mid (f : Nat → Nat) (n c : Nat) : Nat → Value := fun j => .int .u8 (((if n - c ≤ j then oth f n j else ahd f j) : Nat) : Int)
theorem mid_step (f : Nat → Nat) (n c : Nat) (hc : c < n) (j : Nat) (hj : j < n) : updV (mid f n c) (n - 1 - c) (.int .u8 ((gm (ahd f (n - 1 - c)) (bhd f n c) : Nat) : Int)) j = mid f n (c + 1) j := by
  simp only [updV, mid]
  by_cases h : j = n - 1 - c
  · rw [if_pos h, if_pos (by omega)]
    unfold oth
    rw [h, show n - 1 - (n - 1 - c) = c by omega]
  · rw [if_neg h]
    by_cases h2 : n - c ≤ j
    · rw [if_pos h2, if_pos (by omega)]
    · rw [if_neg h2, if_neg (by omega)]
set_option maxHeartbeats 1000000 in
theorem others_any (f : Nat → Nat) (b n cap : Nat) (w : World) (hn : n ≤ 1000) (hf : ∀ i, i < n → f i < 256) (hb0 : b < w.heap.size) (hc : Cl w b n (nb f)) :
    Calls Tryz.prog 304 #[.slice (some ⟨b, 0, none⟩) n cap] w fun e w' => e = .returned (.slice (some ⟨w.heap.size, 0, none⟩) n n) ∧ Rw w' w.heap.size n 393 (nb (oth f n)) ∧ Below w.heap.size w w' := by
  have HC : Hid _ := hc
  have HP : Hid _ := hf
  clear hc hf
  have hmk := run_make_row' (P := Tryz.prog) 390 393 (.int .u8 0) 1 Tryz.underlying390 info56 rfl .i64 .i64 n (by omega) (by omega)
  have hm1 := m_one
  have hm2 := m_times
  go_enter Tryz.func304, Tryz.ntmps304
  go_wp2_with (go_at_call 382; refine (one_any _ _).mono ?_; rintro e w' ⟨rfl, rfl⟩)
  go_loopw [18, 5] (fun i v wr => ∃ k : Nat, k ≤ n ∧ i = .int .i64 k ∧ v = .int .u8 ((ahd f k : Nat) : Int) ∧ Below w.heap.size w wr ∧ Rw wr w.heap.size n 393 (part' k (nb (ahd f)) (.int .u8 0))) (fun i _ _ => n - (intOf i).toNat)
  case atStart => exact ⟨0, by omega, rfl, rfl, (Below.refl _ _).alloc (Nat.le_refl _) _, (Rw.made w n 393 (.int .u8 0)).to (fun j _ => (part_0 _ _ j).symm)⟩
  case round =>
    obtain ⟨k, hk, rfl, rfl, hb, hR⟩ := hrel
    by_cases hlt : k < n
    · have c1 := hR.cell k hlt
      have c2 := hR.free k
      have c3 : wr.cell? ⟨b, k, none⟩ = some (.int .u8 ((f k : Nat) : Int)) := Cl.below HC.out hb hb0 k hlt
      have hpk := HP.out k hlt
      have hak := ahd_lt f k
      go_wp2_with (go_at_call 385; refine (times_any (ahd f k) (f k) _ hak hpk).mono ?_; rintro e w' ⟨rfl, rfl⟩)
      go_roundw
      case rel => exact ⟨k + 1, by omega, by go_num, rfl, hb.setCell (Nat.le_refl _) _, (hR.put k _).to (fun j _ => by rw [← part_step]; rfl)⟩
      case measure => simp [intOf]; omega
    · have e : k = n := by omega
      subst e
      have hR' : Rw wr w.heap.size k 393 (mid f k 0) := hR.to (fun j hj => by simp only [part', mid, nb]; rw [if_pos hj, if_neg (by omega)])
      clear hR
      go_wp2_with (go_at_call 382; refine (one_any _ _).mono ?_; rintro e w' ⟨rfl, rfl⟩)
      go_loopw [9, 8] (fun i v wr => ∃ c : Nat, c ≤ k ∧ i = .int .i64 ((k : Int) - 1 - c) ∧ v = .int .u8 ((bhd f k c : Nat) : Int) ∧ Below w.heap.size w wr ∧ Rw wr w.heap.size k 393 (mid f k c)) (fun i _ _ => (intOf i + 1).toNat)
      case atStart => exact ⟨0, by omega, by go_num, rfl, hb, hR'⟩
      case round =>
        clear hb hR'
        obtain ⟨c, hc, rfl, rfl, hb, hR⟩ := hrel
        by_cases hlt : c < k
        · obtain ⟨i, hi⟩ : ∃ i : Nat, i = k - 1 - c := ⟨_, rfl⟩
          have hii : ((k : Int) - 1 - c) = (i : Int) := by omega
          rw [hii]
          have hik : i < k := by omega
          have HI : Hid (i = k - 1 - c) := hi
          have HII : Hid (((k : Int) - 1 - c) = (i : Int)) := hii
          clear hi hii
          have c1 : wr.cell? ⟨w.heap.size, i, none⟩ = some (.int .u8 ((ahd f i : Nat) : Int)) := by
            rw [hR.cell i hik]
            simp only [mid]
            rw [if_neg (by have := HI.out; omega)]
          have c2 := hR.free i
          have c3 : wr.cell? ⟨b, i, none⟩ = some (.int .u8 ((f i : Nat) : Int)) := Cl.below HC.out hb hb0 i hik
          have hpk := HP.out i hik
          have hai := ahd_lt f i
          have hbc := bhd_lt f k c
          go_wp2_with fail
          refine (times_any (ahd f i) (bhd f k c) _ hai hbc).mono ?_
          rintro e w' ⟨rfl, rfl⟩
          have c4 : (w'.setCell ⟨w.heap.size, i, none⟩ (.int .u8 ((gm (ahd f i) (bhd f k c) : Nat) : Int))).cell? ⟨b, i, none⟩ = some (.int .u8 ((f i : Nat) : Int)) := Cl.below HC.out (hb.setCell (Nat.le_refl _) _) hb0 i hik
          go_wp2_with fail
          refine (times_any (bhd f k c) (f i) _ hbc hpk).mono ?_
          rintro e w'' ⟨rfl, rfl⟩
          go_wp2
          go_roundw
          case rel => exact ⟨c + 1, by omega, by have := HII.out; go_num, by show Value.int .u8 _ = Value.int .u8 ((gm (bhd f k c) (f (k - 1 - c)) : Nat) : Int); rw [← HI.out], hb.setCell (Nat.le_refl _) _, (hR.put i _).to (fun j hj => by rw [← mid_step f k c hlt j hj, ← HI.out])⟩
          case measure => have := HII.out; simp [intOf]
        · have e : c = k := by omega
          subst e
          go_wp2
          go_ret
          exact ⟨rfl, hR.to (fun j hj => by simp only [mid, nb]; rw [if_pos (by omega)]), hb⟩
end Go.Proofs.YtadinjaocnlglaaGreatDoor
namespace Go.Proofs.YtadinjaocnlglaaGreatDoor
open Go.RowKit
/-- the height of the i-th point's polynomial at it, over the first k points -/
def hgt (p : Nat → Nat) (i : Nat) : Nat → Nat
  | 0 => 1
  | k + 1 => if k = i then hgt p i k else gm (hgt p i k) (p i ^^^ p k)
theorem hgt_lt (p : Nat → Nat) (i : Nat) : ∀ k, hgt p i k < 256
  | 0 => by show 1 < 256; omega
  | k + 1 => by
    rw [hgt]
    split
    · exact hgt_lt p i k
    · exact gm_lt _ _ (hgt_lt p i k)
def scl (p : Nat → Nat) (n i : Nat) : Nat := gm 1 (gi (hgt p i n))
set_option maxHeartbeats 1000000 in
theorem scales_any (p : Nat → Nat) (b n cap : Nat) (w : World) (hn : n ≤ 1000) (hp : ∀ i, i < n → p i < 256) (hb0 : b < w.heap.size) (hc : Cl w b n (nb p)) :
    Calls Tryz.prog 303 #[.slice (some ⟨b, 0, none⟩) n cap] w fun e w' => e = .returned (.slice (some ⟨w.heap.size, 0, none⟩) n n) ∧ Rw w' w.heap.size n 393 (nb (scl p n)) ∧ Below w.heap.size w w' := by
  have HC : Hid _ := hc
  have HP : Hid _ := hp
  clear hc hp
  have hmk := run_make_row' (P := Tryz.prog) 390 393 (.int .u8 0) 1 Tryz.underlying390 info56 rfl .i64 .i64 n (by omega) (by omega)
  have hm1 := m_one
  have hm2 := m_times
  have hm3 := m_minus
  have hm4 := m_over
  go_enter Tryz.func303, Tryz.ntmps303
  go_wp2
  go_loopw [14] (fun i wr => ∃ k : Nat, k ≤ n ∧ i = .int .i64 k ∧ Below w.heap.size w wr ∧ Rw wr w.heap.size n 393 (part' k (nb (scl p n)) (.int .u8 0))) (fun i _ => n - (intOf i).toNat)
  case atStart => exact ⟨0, by omega, rfl, (Below.refl _ _).alloc (Nat.le_refl _) _, (Rw.made w n 393 (.int .u8 0)).to (fun j _ => (part_0 _ _ j).symm)⟩
  case round =>
    obtain ⟨i, hi, rfl, hb, hR⟩ := hrel
    by_cases hlt : i < n
    · have c1 := hR.cell i hlt
      have c2 := hR.free i
      have c3 : wr.cell? ⟨b, i, none⟩ = some (.int .u8 ((p i : Nat) : Int)) := Cl.below HC.out hb hb0 i hlt
      have hpi := HP.out i hlt
      go_wp2_with (go_at_call 382; refine (one_any _ _).mono ?_; rintro e w' ⟨rfl, rfl⟩)
      go_loop [24, 6] (fun j v => ∃ k : Nat, k ≤ n ∧ j = .int .i64 k ∧ v = .int .u8 ((hgt p i k : Nat) : Int)) (fun j _ => n - (intOf j).toNat)
      case atStart => exact ⟨0, by omega, rfl, rfl⟩
      case round =>
        obtain ⟨k, hk, rfl, rfl⟩ := hrel
        by_cases hlk : k < n
        · have c4 : w'.cell? ⟨b, k, none⟩ = some (.int .u8 ((p k : Nat) : Int)) := Cl.below HC.out hb hb0 k hlk
          have hpk := HP.out k hlk
          have hhk := hgt_lt p i k
          have hxx : p i ^^^ p k < 256 := Nat.xor_lt_two_pow (n := 8) hpi hpk
          by_cases hki : k = i
          · have hne : ((k : Int) != (i : Int)) = false := by rw [bne_eq_false_iff_eq]; omega
            go_wp2
            go_round
            case rel => exact ⟨k + 1, by omega, by go_num, by rw [hgt, if_pos hki]⟩
            case measure => simp [intOf]; omega
          · have hne : ((k : Int) != (i : Int)) = true := by rw [bne_iff_ne]; omega
            go_wp2_with (first | (go_at_call 381; refine (minus_any (p i) (p k) _ hpi hpk).mono ?_; rintro e w' ⟨rfl, rfl⟩) | (go_at_call 385; refine (times_any (hgt p i k) (p i ^^^ p k) _ hhk hxx).mono ?_; rintro e w' ⟨rfl, rfl⟩))
            go_round
            case rel => exact ⟨k + 1, by omega, by go_num, by rw [hgt, if_neg hki]⟩
            case measure => simp [intOf]; omega
        · have e : k = n := by omega
          subst e
          have hhk := hgt_lt p i k
          go_wp2_with (first | (go_at_call 382; refine (one_any _ _).mono ?_; rintro e w' ⟨rfl, rfl⟩) | (go_at_call 383; refine (over_any 1 (hgt p i k) _ (by omega) hhk).mono ?_; rintro e w' ⟨rfl, rfl⟩))
          go_roundw
          case rel => exact ⟨i + 1, by omega, by go_num, hb.setCell (Nat.le_refl _) _, (hR.put i _).to (fun j _ => by rw [← part_step]; rfl)⟩
          case measure => simp [intOf]; omega
    · have e : i = n := by omega
      subst e
      go_wp2
      go_ret
      exact ⟨rfl, hR.to (fun j hj => by simp [part', hj]), hb⟩
end Go.Proofs.YtadinjaocnlglaaGreatDoor
namespace Go.Proofs.YtadinjaocnlglaaGreatDoor
open Go.RowKit
set_option maxHeartbeats 400000 in
theorem width_some (b m n cap : Nat) (v : Nat → Value) (w : World) (hm : 0 < m) (hc : Cl w b m v) (hv : v 0 = .slice (some ⟨n, 0, none⟩) cap cap) :
    Calls Tryz.prog 326 #[.slice (some ⟨b, 0, none⟩) m m] w fun e w' => e = .returned (.int .i64 cap) ∧ w' = w := by
  have c0 : w.cell? ⟨b, 0, none⟩ = some (.slice (some ⟨n, 0, none⟩) cap cap) := by rw [hc 0 hm, hv]
  have hne : ((m : Int) == 0) = false := by rw [beq_eq_false_iff_ne]; omega
  have hmm : (0 : Int) < (m : Int) := by omega
  clear hc hv
  go_enter Tryz.func326, Tryz.ntmps326
  go_wp2
  go_ret
  exact ⟨rfl, rfl⟩
/-- the sum over the first k rows, at the place j -/
def sm (u : Nat → Nat) (V : Nat → Nat → Nat) (j : Nat) : Nat → Nat
  | 0 => 0
  | k + 1 => sm u V j k ^^^ gm (u k) (V k j)
theorem sm_lt (u : Nat → Nat) (V : Nat → Nat → Nat) (j : Nat) (hu : ∀ i, u i < 256) : ∀ k, sm u V j k < 256
  | 0 => by show 0 < 256; omega
  | k + 1 => Nat.xor_lt_two_pow (n := 8) (sm_lt u V j hu k) (gm_lt _ _ (hu k))
/-- a matrix of r rows, c wide -/
structure Mat (w : World) (b r c : Nat) (V : Nat → Nat → Nat) (G : Nat → Nat) : Prop where
  top : Cl w b r (fun i => .slice (some ⟨G i, 0, none⟩) c c)
  lt : b < w.heap.size
  rows : ∀ i, i < r → Cl w (G i) c (nb (V i)) ∧ G i < w.heap.size
theorem Mat.below {w w' : World} {b r c : Nat} {V : Nat → Nat → Nat} {G : Nat → Nat} (h : Mat w b r c V G) (hb : Below w.heap.size w w') : Mat w' b r c V G :=
  ⟨h.top.below hb h.lt, Nat.lt_of_lt_of_le h.lt hb.size, fun i hi => ⟨(h.rows i hi).1.below hb (h.rows i hi).2, Nat.lt_of_lt_of_le (h.rows i hi).2 hb.size⟩⟩
/-- the row of sums: those ahead of j over one row more -/
def smr (u : Nat → Nat) (V : Nat → Nat → Nat) (k j : Nat) : Nat → Value := fun l => .int .u8 (((if l < j then sm u V l (k + 1) else sm u V l k) : Nat) : Int)
theorem smr_step (u : Nat → Nat) (V : Nat → Nat → Nat) (k j l : Nat) : updV (smr u V k j) j (.int .u8 ((sm u V j k ^^^ gm (u k) (V k j) : Nat) : Int)) l = smr u V k (j + 1) l := by
  simp only [updV, smr]
  by_cases h : l = j
  · rw [if_pos h, if_pos (by omega), h]; rfl
  · rw [if_neg h]
    by_cases h2 : l < j
    · rw [if_pos h2, if_pos (by omega)]
    · rw [if_neg h2, if_neg (by omega)]
set_option maxHeartbeats 1000000 in
set_option maxRecDepth 100000 in
theorem weighted_any (u : Nat → Nat) (V : Nat → Nat → Nat) (G : Nat → Nat) (b r c b2 cap2 : Nat) (w : World) (hr0 : 0 < r) (hr : r ≤ 1000) (hcc : c ≤ 140737488351232) (hu : ∀ i, u i < 256) (hV : ∀ i j, V i j < 256) (hM : Mat w b r c V G) (hb2 : b2 < w.heap.size) (hc : Cl w b2 r (nb u)) :
    Calls Tryz.prog 306 #[.slice (some ⟨b, 0, none⟩) r r, .slice (some ⟨b2, 0, none⟩) r cap2] w fun e w' => e = .returned (.slice (some ⟨w.heap.size, 0, none⟩) c c) ∧ Rw w' w.heap.size c 393 (nb fun j => sm u V j r) ∧ Below w.heap.size w w' := by
  have HM : Hid _ := hM
  have HC : Hid _ := hc
  have HU : Hid _ := hu
  have HV : Hid _ := hV
  clear hM hc hu hV
  have hmk := run_make_row' (P := Tryz.prog) 390 393 (.int .u8 0) 1 Tryz.underlying390 info56 rfl .i64 .i64 c (by omega) (by omega)
  have hm1 := m_plus
  have hm2 := m_times
  go_enter Tryz.func306, Tryz.ntmps306
  go_wp2_with (go_at_call 326; refine (width_some b r (G 0) c _ _ hr0 (Mat.top HM.out) rfl).mono ?_; rintro e w' ⟨rfl, rfl⟩)
  go_loopw [15] (fun iv wr => ∃ i : Nat, i ≤ r ∧ iv = .int .i64 i ∧ Below w'.heap.size w' wr ∧ Rw wr w'.heap.size c 393 (smr u V i 0)) (fun iv _ => r - (intOf iv).toNat)
  case atStart => exact ⟨0, by omega, rfl, (Below.refl _ _).alloc (Nat.le_refl _) _, (Rw.made w' c 393 (.int .u8 0)).to (fun j _ => by simp only [smr]; rw [if_neg (by omega)]; rfl)⟩
  case round =>
    obtain ⟨i, hi, rfl, hb, hR⟩ := hrel
    by_cases hlt : i < r
    · have hMr := Mat.below HM.out hb
      have c1 := hMr.top i hlt
      have c2 : wr.cell? ⟨b2, i, none⟩ = some (.int .u8 ((u i : Nat) : Int)) := Cl.below HC.out hb hb2 i hlt
      have hGi := (Mat.rows HM.out i hlt).2
      have hrow := (Mat.rows HM.out i hlt).1
      have HR : Hid _ := hrow
      clear hrow hMr
      go_wp2
      go_loopw [22] (fun jv wr => ∃ j : Nat, j ≤ c ∧ jv = .int .i64 j ∧ Below w'.heap.size w' wr ∧ Rw wr w'.heap.size c 393 (smr u V i j)) (fun jv _ => c - (intOf jv).toNat)
      case atStart => exact ⟨0, by omega, rfl, hb, hR⟩
      case round =>
        clear hb hR c1 c2
        obtain ⟨j, hj, rfl, hb, hR⟩ := hrel
        by_cases hlj : j < c
        · have c1 : wr.cell? ⟨G i, j, none⟩ = some (.int .u8 ((V i j : Nat) : Int)) := Cl.below HR.out hb hGi j hlj
          have c2 : wr.cell? ⟨b2, i, none⟩ = some (.int .u8 ((u i : Nat) : Int)) := Cl.below HC.out hb hb2 i hlt
          have c3 : wr.cell? ⟨w'.heap.size, j, none⟩ = some (.int .u8 ((sm u V j i : Nat) : Int)) := by
            rw [hR.cell j hlj]; simp only [smr]; rw [if_neg (by omega)]
          have c4 := hR.free j
          have h1 := HU.out i
          have h2 := HV.out i j
          have h3 := sm_lt u V j HU.out i
          have h4 := gm_lt (u i) (V i j) h1
          have hj0 : (0 : Int) ≤ (j : Int) := by omega
          have hj8 : (j : Int) < (c : Int) := by omega
          have hi0 : (0 : Int) ≤ (i : Int) := by omega
          have hi8 : (i : Int) < (r : Int) := by omega
          go_wp2
          go_region_with (first | (go_at_call 385; refine (times_any (u i) (V i j) _ h1 h2).mono ?_; rintro e w' ⟨rfl, rfl⟩) | (go_at_call 384; refine (plus_any (sm u V j i) (gm (u i) (V i j)) _ h3 h4).mono ?_; rintro e w' ⟨rfl, rfl⟩))
          all_goals
            go_wp2
            go_roundw
            case rel => exact ⟨j + 1, by omega, by go_num, (hb.setCell (Nat.le_refl _) _).drew, ((hR.put j _).drew).to (fun l _ => smr_step u V i j l)⟩
            case measure => simp [intOf]; omega
        · have e : j = c := by omega
          subst e
          go_wp2
          go_roundw
          case rel => exact ⟨i + 1, by omega, by go_num, hb, hR.to (fun l hl => by simp only [smr]; rw [if_pos hl, if_neg (by omega)])⟩
          case measure => simp [intOf]; omega
    · have e : i = r := by omega
      subst e
      go_wp2
      go_ret
      exact ⟨rfl, hR.to (fun l hl => by simp only [smr, nb]; rw [if_neg (by omega)]), hb⟩
end Go.Proofs.YtadinjaocnlglaaGreatDoor
