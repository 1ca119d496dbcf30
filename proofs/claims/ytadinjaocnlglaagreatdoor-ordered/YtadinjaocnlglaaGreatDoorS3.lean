/-
  Rows of whatever values in a block; the walks of stripe.points, row, numbers, text.
  The walks of stripe.row, numbers, text; matrix.differences, width.
-/
import Derived.Test.YtadinjaocnlglaaGreatDoorS1
import Derived.Deep.OwnRows
import Derived.Deep.Draws
import Derived.Laws.BytesArg
namespace Go.Proofs.YtadinjaocnlglaaGreatDoor
open Go.RowKit

/-- n values in a row -/
def rowV (n : Nat) (f : Nat → Value) : Array Value := Array.ofFn (n := n) fun i => f i.val
def updV (f : Nat → Value) (k : Nat) (v : Value) : Nat → Value := fun j => if j = k then v else f j
theorem rowV_size (n : Nat) (f : Nat → Value) : (rowV n f).size = n := by simp [rowV]
theorem rowV_get (n : Nat) (f : Nat → Value) (k : Nat) (h : k < n) : (rowV n f)[k]? = some (f k) := by simp [rowV, h]
theorem rowV_none (n : Nat) (f : Nat → Value) (k : Nat) (h : ¬ k < n) : (rowV n f)[k]? = none := by simp [rowV, h]
theorem rowV_set (n : Nat) (f : Nat → Value) (k : Nat) (v : Value) : (rowV n f).setIfInBounds k v = rowV n (updV f k v) := by
  apply Array.ext_getElem?
  intro i
  rw [Array.getElem?_setIfInBounds, rowV_size]
  by_cases hi : i < n
  · rw [rowV_get n f i hi, rowV_get n _ i hi]
    by_cases h : k = i
    · subst h; simp [hi, updV]
    · simp [h, updV, Ne.symm h]
  · rw [rowV_none n f i hi, rowV_none n _ i hi]
    by_cases h : k = i
    · subst h; simp [hi]
    · simp [h]
theorem rowV_congr (n : Nat) (f g : Nat → Value) (h : ∀ j, j < n → f j = g j) : rowV n f = rowV n g := by
  apply Array.ext_getElem?
  intro i
  by_cases hi : i < n
  · rw [rowV_get n f i hi, rowV_get n g i hi, h i hi]
  · rw [rowV_none n f i hi, rowV_none n g i hi]
theorem made_row (z : Value) (n : Nat) : madeCells #[z] n = rowV n (fun _ => z) := by
  apply Array.ext_getElem?
  intro i
  by_cases hi : i < n
  · rw [rowV_get n _ i hi]; simp [madeCells, hi, Nat.mod_one]
  · rw [rowV_none n _ i hi]; simp [madeCells, hi]
/-- the block g holds n values -/
def Rw (w : World) (g n : Nat) (t : TypeId) (f : Nat → Value) : Prop := w.heap[g]? = some (.cells (rowV n f) t (0, 0))
theorem Rw.cell {w : World} {g n : Nat} {t : TypeId} {f : Nat → Value} (h : Rw w g n t f) (k : Nat) (hk : k < n) : w.cell? ⟨g, k, none⟩ = some (f k) := by
  rw [cell_of_row w g k _ t _ h, rowV_get n f k hk]
theorem Rw.free {w : World} {g n : Nat} {t : TypeId} {f : Nat → Value} (h : Rw w g n t f) (k : Nat) : w.frozen? ⟨g, k, none⟩ = false := frozen_of_row w g k _ t h
theorem Rw.put {w : World} {g n : Nat} {t : TypeId} {f : Nat → Value} (h : Rw w g n t f) (k : Nat) (v : Value) : Rw (w.setCell ⟨g, k, none⟩ v) g n t (updV f k v) := by
  have := heap_setCell_same w g k _ t v h
  rwa [rowV_set] at this
theorem Rw.drew {w : World} {g n : Nat} {t : TypeId} {f : Nat → Value} (h : Rw w g n t f) : Rw w.drew g n t f := h
theorem Rw.drewN {w : World} {g n : Nat} {t : TypeId} {f : Nat → Value} (h : Rw w g n t f) (m : Nat) : Rw (w.drewN m) g n t f := h
theorem Rw.other {w : World} {g n : Nat} {t : TypeId} {f : Nat → Value} (h : Rw w g n t f) (a : Addr) (v : Value) (ha : g ≠ a.block) : Rw (w.setCell a v) g n t f := by
  unfold Rw; rw [heap_setCell_other w a g v ha]; exact h
theorem Rw.lt {w : World} {g n : Nat} {t : TypeId} {f : Nat → Value} (h : Rw w g n t f) : g < w.heap.size := (Array.getElem?_eq_some_iff.1 h).1
theorem Rw.alloc {w : World} {g n : Nat} {t : TypeId} {f : Nat → Value} (h : Rw w g n t f) (o : Obj) : Rw (w.alloc o) g n t f := by
  unfold Rw; rw [Below.heap_alloc w o g h.lt]; exact h
theorem Rw.below {w w' : World} {g n : Nat} {t : TypeId} {f : Nat → Value} (h : Rw w g n t f) {B : Nat} (hb : Below B w w') (hg : g < B) : Rw w' g n t f := by
  unfold Rw; rw [hb.block g hg]; exact h
theorem Rw.to {w : World} {g n : Nat} {t : TypeId} {f h : Nat → Value} (b : Rw w g n t f) (e : ∀ j, j < n → f j = h j) : Rw w g n t h := by
  unfold Rw; rw [← rowV_congr n f h e]; exact b
theorem Rw.made (w : World) (n : Nat) (t : TypeId) (z : Value) : Rw (w.alloc (.cells (madeCells #[z] n) t)) w.heap.size n t (fun _ => z) := by
  unfold Rw; rw [← made_row]; exact heap_alloc_new _ _
/-- k of the row's values are in place -/
def part' (k : Nat) (v : Nat → Value) (z : Value) : Nat → Value := fun j => if j < k then v j else z
theorem part_0 (v : Nat → Value) (z : Value) (j : Nat) : part' 0 v z j = z := by simp [part']
theorem part_step (k : Nat) (v : Nat → Value) (z : Value) (j : Nat) : updV (part' k v z) k (v k) j = part' (k + 1) v z j := by
  unfold updV part'
  by_cases h : j = k
  · rw [if_pos h, if_pos (by omega), h]
  · rw [if_neg h]
    by_cases h2 : j < k
    · rw [if_pos h2, if_pos (by omega)]
    · rw [if_neg h2, if_neg (by omega)]

theorem info3 : (Tryz.prog.info? 3).map (fun i => (i.zero, i.size, i.bytes)) = some (some (.int .i64 0), 1, 8) := by kernel_rfl
theorem info56 : (Tryz.prog.info? 393).map (fun i => (i.zero, i.size, i.bytes)) = some (some (.int .u8 0), 1, 1) := by kernel_rfl
theorem info5 : (Tryz.prog.info? 5).map (fun i => (i.zero, i.size, i.bytes)) = some (some (.int .u8 0), 1, 1) := by kernel_rfl
theorem info9 : (Tryz.prog.info? 9).map (fun i => (i.zero, i.size, i.bytes)) = some (some (.string ⟨#[]⟩), 1, 16) := by kernel_rfl
theorem info53 : (Tryz.prog.info? 390).map (fun i => (i.zero, i.size, i.bytes)) = some (some (.slice none 0 0), 1, 24) := by kernel_rfl

/-- the numbers from a on -/
def from' (a : Nat) : Nat → Value := fun i => .int .i64 ((a + i : Nat) : Int)
set_option maxHeartbeats 400000 in
theorem points_any (a b : Nat) (w : World) (hab : a ≤ b) (hb : b ≤ 1000) :
    Calls Tryz.prog 232 #[.int .i64 a, .int .i64 b] w fun e w' => e = .returned (.slice (some ⟨w.heap.size, 0, none⟩) (b - a) (b - a)) ∧ Rw w' w.heap.size (b - a) 3 (from' a) ∧ Below w.heap.size w w' := by
  obtain ⟨n, hn⟩ : ∃ n, n = b - a := ⟨_, rfl⟩
  rw [← hn]
  have hd : ((b : Int) - (a : Int)) = ((n : Nat) : Int) := by omega
  have hn1 : n ≤ 1000 := by omega
  have HN : Hid (n = b - a) := hn
  clear hn
  have hmk := run_make_row' (P := Tryz.prog) 39 3 (.int .i64 0) 8 Tryz.underlying39 info3 rfl .i64 .i64 n (by omega) (by omega)
  go_enter Tryz.func232, Tryz.ntmps232
  go_wp2
  go_loopw [13] (fun i wr => ∃ k : Nat, k ≤ n ∧ i = .int .i64 k ∧ Below w.heap.size w wr ∧ Rw wr w.heap.size n 3 (part' k (from' a) (.int .i64 0))) (fun i _ => n - (intOf i).toNat)
  case atStart => exact ⟨0, by omega, rfl, (Below.refl _ _).alloc (Nat.le_refl _) _, (Rw.made w n 3 (.int .i64 0)).to (fun j _ => (part_0 _ _ j).symm)⟩
  case round =>
    obtain ⟨k, hk, rfl, hb, hR⟩ := hrel
    by_cases hlt : k < n
    · have c1 := hR.cell k hlt
      have c2 := hR.free k
      go_wp2
      go_roundw
      case rel => exact ⟨k + 1, by omega, by go_num, hb.setCell (Nat.le_refl _) _, (hR.put k _).to (fun j _ => by rw [← part_step]; rfl)⟩
      case measure => simp [intOf]; omega
    · have e : k = n := by omega
      subst e
      go_wp2
      go_ret
      exact ⟨rfl, hR.to (fun j hj => by simp [part', hj]), hb⟩
end Go.Proofs.YtadinjaocnlglaaGreatDoor
namespace Go.Proofs.YtadinjaocnlglaaGreatDoor
open Go.RowKit

/-- the first n cells of the block b -/
def Cl (w : World) (b n : Nat) (v : Nat → Value) : Prop := ∀ i, i < n → w.cell? ⟨b, i, none⟩ = some (v i)
theorem Rw.cl {w : World} {g n : Nat} {t : TypeId} {f : Nat → Value} (h : Rw w g n t f) : Cl w g n f := fun i hi => h.cell i hi
theorem Cl.below {w w' : World} {b n : Nat} {v : Nat → Value} (h : Cl w b n v) {B : Nat} (hb : Below B w w') (hB : b < B) : Cl w' b n v := fun i hi => (hb.cell (p := ⟨b, i, none⟩) hB).trans (h i hi)
/-- a byte as a number -/
def nb (f : Nat → Nat) : Nat → Value := fun i => .int .u8 ((f i : Nat) : Int)
/-- the i-th byte -/
def bN (s : ByteArray) (i : Nat) : Nat := (s.data.toList.getD i 0).toNat
theorem bN_lt (s : ByteArray) (i : Nat) : bN s i < 256 := (s.data.toList.getD i 0).toNat_lt
theorem index_bN (s : ByteArray) (i : Nat) (h : i < s.size) (W : World) : (Instr.index 9 (.string s) (.int .i64 (i : Int))).run Tryz.prog W = .ok (.int .u8 ((bN s i : Nat) : Int)) W := by
  rw [run_index_string W 9 s .i64 i Tryz.underlying9, dif_pos ⟨by omega, by omega⟩]
  have hs : i < s.data.toList.length := h
  have e : bN s i = (s[i]'h).toNat := by
    unfold bN
    rw [List.getD_eq_getElem?_getD, List.getElem?_eq_getElem hs]
    rfl
  rw [e]
  rfl
set_option maxHeartbeats 400000 in
theorem row_any (s : ByteArray) (w : World) (hs : s.size ≤ 140737488351232) :
    Calls Tryz.prog 270 #[.string s] w fun e w' => e = .returned (.slice (some ⟨w.heap.size, 0, none⟩) s.size s.size) ∧ Rw w' w.heap.size s.size 393 (nb (bN s)) ∧ Below w.heap.size w w' := by
  have hmk := run_make_row' (P := Tryz.prog) 390 393 (.int .u8 0) 1 Tryz.underlying390 info56 rfl .i64 .i64 s.size (by omega) (by omega)
  go_enter Tryz.func270, Tryz.ntmps270
  go_wp2
  go_loopw [10] (fun i wr => ∃ k : Nat, k ≤ s.size ∧ i = .int .i64 k ∧ Below w.heap.size w wr ∧ Rw wr w.heap.size s.size 393 (part' k (nb (bN s)) (.int .u8 0))) (fun i _ => s.size - (intOf i).toNat)
  case atStart => exact ⟨0, by omega, rfl, (Below.refl _ _).alloc (Nat.le_refl _) _, (Rw.made w s.size 393 (.int .u8 0)).to (fun j _ => (part_0 _ _ j).symm)⟩
  case round =>
    obtain ⟨k, hk, rfl, hb, hR⟩ := hrel
    by_cases hlt : k < s.size
    · have c1 := hR.cell k hlt
      have c2 := hR.free k
      have hix := index_bN s k hlt
      go_wp2
      go_roundw
      case rel => exact ⟨k + 1, by omega, by go_num, hb.setCell (Nat.le_refl _) _, (hR.put k _).to (fun j _ => by rw [← part_step]; rfl)⟩
      case measure => simp [intOf]; omega
    · have e : k = s.size := by omega
      subst e
      go_wp2
      go_ret
      exact ⟨rfl, hR.to (fun j hj => by simp [part', hj]), hb⟩
/-- points as ints -/
def pI (p : Nat → Nat) : Nat → Value := fun i => .int .i64 ((p i : Nat) : Int)
set_option maxHeartbeats 400000 in
theorem numbers_any (p : Nat → Nat) (b n cap : Nat) (w : World) (hn : n ≤ 1000) (hp : ∀ i, i < n → p i < 256) (hb0 : b < w.heap.size) (hc : Cl w b n (pI p)) :
    Calls Tryz.prog 272 #[.slice (some ⟨b, 0, none⟩) n cap] w fun e w' => e = .returned (.slice (some ⟨w.heap.size, 0, none⟩) n n) ∧ Rw w' w.heap.size n 393 (nb p) ∧ Below w.heap.size w w' := by
  have HC : Hid _ := hc
  have HP : Hid _ := hp
  clear hc hp
  have hmk := run_make_row' (P := Tryz.prog) 390 393 (.int .u8 0) 1 Tryz.underlying390 info56 rfl .i64 .i64 n (by omega) (by omega)
  go_enter Tryz.func272, Tryz.ntmps272
  go_wp2
  go_loopw [11] (fun i wr => ∃ k : Nat, k ≤ n ∧ i = .int .i64 k ∧ Below w.heap.size w wr ∧ Rw wr w.heap.size n 393 (part' k (nb p) (.int .u8 0))) (fun i _ => n - (intOf i).toNat)
  case atStart => exact ⟨0, by omega, rfl, (Below.refl _ _).alloc (Nat.le_refl _) _, (Rw.made w n 393 (.int .u8 0)).to (fun j _ => (part_0 _ _ j).symm)⟩
  case round =>
    obtain ⟨k, hk, rfl, hb, hR⟩ := hrel
    by_cases hlt : k < n
    · have c1 := hR.cell k hlt
      have c2 := hR.free k
      have c3 : wr.cell? ⟨b, k, none⟩ = some (.int .i64 ((p k : Nat) : Int)) := Cl.below HC.out hb hb0 k hlt
      have hpk : (p k : Int) < 256 := by have := HP.out k hlt; omega
      have hmod : ((p k : Int) % 256) = (p k : Int) := by omega
      go_wp2
      go_roundw
      case rel => exact ⟨k + 1, by omega, by go_num, hb.setCell (Nat.le_refl _) _, (hR.put k _).to (fun j _ => by rw [← part_step]; rfl)⟩
      case measure => simp [intOf]; omega
    · have e : k = n := by omega
      subst e
      go_wp2
      go_ret
      exact ⟨rfl, hR.to (fun j hj => by simp [part', hj]), hb⟩
set_option maxHeartbeats 400000 in
theorem numbers_nil (w : World) :
    Calls Tryz.prog 272 #[.slice none 0 0] w fun e w' => e = .returned (.slice (some ⟨w.heap.size, 0, none⟩) 0 0) ∧ Rw w' w.heap.size 0 393 (nb fun _ => 0) ∧ Below w.heap.size w w' := by
  have hmk : ∀ w : World, (Instr.makeSlice 390 (.int .i64 0) (.int .i64 0)).run Tryz.prog w = .ok (.slice (some ⟨w.heap.size, 0, none⟩) 0 0) (w.alloc (.cells (madeCells #[.int .u8 0] 0) 393)) := run_make_row' (P := Tryz.prog) 390 393 (.int .u8 0) 1 Tryz.underlying390 info56 rfl .i64 .i64 0 (by omega) (by omega)
  go_enter Tryz.func272, Tryz.ntmps272
  go_wp2
  refine wp_loop_rounds 1 ?_
  rw [rounds_succ]
  go_wp2
  go_ret
  exact ⟨rfl, Rw.made w 0 393 (.int .u8 0), (Below.refl _ _).alloc (Nat.le_refl _) _⟩
/-- n bytes as a text -/
def txtN (n : Nat) (f : Nat → Nat) : ByteArray := strOfNums ((List.range n).map fun i => ((f i : Nat) : Int))
set_option maxHeartbeats 400000 in
theorem text_any (f : Nat → Nat) (b n cap : Nat) (w : World) (hn : n ≤ 140737488351232) (hb0 : b < w.heap.size) (hc : Cl w b n (nb f)) :
    Calls Tryz.prog 274 #[.slice (some ⟨b, 0, none⟩) n cap] w fun e w' => e = .returned (.string (txtN n f)) ∧ Below w.heap.size w w' := by
  have HC : Hid _ := hc
  clear hc
  have hmk := run_make_row' (P := Tryz.prog) 165 5 (.int .u8 0) 1 Tryz.underlying165 info5 rfl .i64 .i64 n (by omega) (by omega)
  go_enter Tryz.func274, Tryz.ntmps274
  go_wp2
  go_loopw [11] (fun i wr => ∃ k : Nat, k ≤ n ∧ i = .int .i64 k ∧ Below w.heap.size w wr ∧ Rw wr w.heap.size n 5 (part' k (nb f) (.int .u8 0))) (fun i _ => n - (intOf i).toNat)
  case atStart => exact ⟨0, by omega, rfl, (Below.refl _ _).alloc (Nat.le_refl _) _, (Rw.made w n 5 (.int .u8 0)).to (fun j _ => (part_0 _ _ j).symm)⟩
  case round =>
    obtain ⟨k, hk, rfl, hb, hR⟩ := hrel
    by_cases hlt : k < n
    · have c1 := hR.cell k hlt
      have c2 := hR.free k
      have c3 : wr.cell? ⟨b, k, none⟩ = some (.int .u8 ((f k : Nat) : Int)) := Cl.below HC.out hb hb0 k hlt
      go_wp2
      go_roundw
      case rel => exact ⟨k + 1, by omega, by go_num, hb.setCell (Nat.le_refl _) _, (hR.put k _).to (fun j _ => by rw [← part_step]; rfl)⟩
      case measure => simp [intOf]; omega
    · have e : k = n := by omega
      subst e
      have hcv := run_convert_bytes_arg (P := Tryz.prog) wr 165 5 Tryz.underlying165 Tryz.underlying5 w.heap.size 0 k k ((List.range k).map fun i => ((f i : Nat) : Int)) (by simp) (fun i hi => by
        rw [Nat.zero_add, hR.cell i hi]
        simp [part', hi, nb]) 9 Tryz.underlying9
      go_wp2
      go_ret
      exact ⟨rfl, hb⟩
theorem meth_minus (v : Value) (w : World) : (method 587 393 v "Minus").run Tryz.prog w = .ok (381, v) w := by kernel_rfl
end Go.Proofs.YtadinjaocnlglaaGreatDoor
