/-
  The walks of stripe.row, numbers, text; matrix.differences, width.
-/
import Derived.Test.YtbjgchlckmecaaaDoorS2
namespace Go.Proofs.YtbjgchlckmecaaaDoor
open Go.RowKit

/-- the first n cells of the block b -/
def Cl (w : World) (b n : Nat) (v : Nat → Value) : Prop := ∀ i, i < n → w.cell? ⟨b, i, none⟩ = some (v i)
theorem Rw.cl {w : World} {g n : Nat} {t : TypeId} {f : Nat → Value} (h : Rw w g n t f) : Cl w g n f := fun i hi => h.cell i hi
theorem Cl.below {w w' : World} {b n : Nat} {v : Nat → Value} (h : Cl w b n v) {B : Nat} (hb : Below B w w') (hB : b < B) : Cl w' b n v := fun i hi => (hb.cell (p := ⟨b, i, none⟩) hB).trans (h i hi)
/-- a byte as a number -/
def nb (f : Nat → Nat) : Nat → Value := fun i => .int .u8 ((f i : Nat) : Int)
/-- the i-th byte -/
def bN (s : ByteArray) (i : Nat) : Nat := (s.data.toList.getD i 0).toNat
theorem bN_lt (s : ByteArray) (i : Nat) : bN s i < 256 := (s.data.toList.getD i 0).toNat_lt
theorem index_bN (s : ByteArray) (i : Nat) (h : i < s.size) (W : World) : (Instr.index 9 (.string s) (.int .i64 (i : Int))).run Tryd.prog W = .ok (.int .u8 ((bN s i : Nat) : Int)) W := by
  rw [run_index_string W 9 s .i64 i Tryd.underlying9, dif_pos ⟨by omega, by omega⟩]
  have hs : i < s.data.toList.length := h
  have e : bN s i = (s[i]'h).toNat := by
    unfold bN
    rw [List.getD_eq_getElem?_getD, List.getElem?_eq_getElem hs]
    rfl
  rw [e]
  rfl
set_option maxHeartbeats 400000 in
theorem row_any (s : ByteArray) (w : World) (hs : s.size ≤ 140737488351232) :
    Calls Tryd.prog 44 #[.string s] w fun e w' => e = .returned (.slice (some ⟨w.heap.size, 0, none⟩) s.size s.size) ∧ Rw w' w.heap.size s.size 108 (nb (bN s)) ∧ Below w.heap.size w w' := by
  have hmk := run_make_row' (P := Tryd.prog) 105 108 (.int .u8 0) 1 Tryd.underlying105 info56 rfl .i64 .i64 s.size (by omega) (by omega)
  go_enter Tryd.func44, Tryd.ntmps44
  go_wp2
  go_loopw [10] (fun i wr => ∃ k : Nat, k ≤ s.size ∧ i = .int .i64 k ∧ Below w.heap.size w wr ∧ Rw wr w.heap.size s.size 108 (part' k (nb (bN s)) (.int .u8 0))) (fun i _ => s.size - (intOf i).toNat)
  case atStart => exact ⟨0, by omega, rfl, (Below.refl _ _).alloc (Nat.le_refl _) _, (Rw.made w s.size 108 (.int .u8 0)).to (fun j _ => (part_0 _ _ j).symm)⟩
  case round =>
    obtain ⟨k, hk, rfl, hb, hR⟩ := hrel
    by_cases hlt : k < s.size
    · have c1 := hR.cell k hlt
      have c2 := hR.free k
      have hix := index_bN s k hlt
      go_wp2
      go_roundw
      case rel => exact ⟨k + 1, by omega, by go_num, hb.setCell (Nat.le_refl _) _, (hR.put k _).to (fun j _ => by rw [← part_step]; rfl)⟩
      case measure => simp [intOf]; omega
    · have e : k = s.size := by omega
      subst e
      go_wp2
      go_ret
      exact ⟨rfl, hR.to (fun j hj => by simp [part', hj]), hb⟩
/-- points as ints -/
def pI (p : Nat → Nat) : Nat → Value := fun i => .int .i64 ((p i : Nat) : Int)
set_option maxHeartbeats 400000 in
theorem numbers_any (p : Nat → Nat) (b n cap : Nat) (w : World) (hn : n ≤ 1000) (hp : ∀ i, i < n → p i < 256) (hb0 : b < w.heap.size) (hc : Cl w b n (pI p)) :
    Calls Tryd.prog 46 #[.slice (some ⟨b, 0, none⟩) n cap] w fun e w' => e = .returned (.slice (some ⟨w.heap.size, 0, none⟩) n n) ∧ Rw w' w.heap.size n 108 (nb p) ∧ Below w.heap.size w w' := by
  have HC : Hid _ := hc
  have HP : Hid _ := hp
  clear hc hp
  have hmk := run_make_row' (P := Tryd.prog) 105 108 (.int .u8 0) 1 Tryd.underlying105 info56 rfl .i64 .i64 n (by omega) (by omega)
  go_enter Tryd.func46, Tryd.ntmps46
  go_wp2
  go_loopw [11] (fun i wr => ∃ k : Nat, k ≤ n ∧ i = .int .i64 k ∧ Below w.heap.size w wr ∧ Rw wr w.heap.size n 108 (part' k (nb p) (.int .u8 0))) (fun i _ => n - (intOf i).toNat)
  case atStart => exact ⟨0, by omega, rfl, (Below.refl _ _).alloc (Nat.le_refl _) _, (Rw.made w n 108 (.int .u8 0)).to (fun j _ => (part_0 _ _ j).symm)⟩
  case round =>
    obtain ⟨k, hk, rfl, hb, hR⟩ := hrel
    by_cases hlt : k < n
    · have c1 := hR.cell k hlt
      have c2 := hR.free k
      have c3 : wr.cell? ⟨b, k, none⟩ = some (.int .i64 ((p k : Nat) : Int)) := Cl.below HC.out hb hb0 k hlt
      have hpk : (p k : Int) < 256 := by have := HP.out k hlt; omega
      have hmod : ((p k : Int) % 256) = (p k : Int) := by omega
      go_wp2
      go_roundw
      case rel => exact ⟨k + 1, by omega, by go_num, hb.setCell (Nat.le_refl _) _, (hR.put k _).to (fun j _ => by rw [← part_step]; rfl)⟩
      case measure => simp [intOf]; omega
    · have e : k = n := by omega
      subst e
      go_wp2
      go_ret
      exact ⟨rfl, hR.to (fun j hj => by simp [part', hj]), hb⟩
set_option maxHeartbeats 400000 in
theorem numbers_nil (w : World) :
    Calls Tryd.prog 46 #[.slice none 0 0] w fun e w' => e = .returned (.slice (some ⟨w.heap.size, 0, none⟩) 0 0) ∧ Rw w' w.heap.size 0 108 (nb fun _ => 0) ∧ Below w.heap.size w w' := by
  have hmk : ∀ w : World, (Instr.makeSlice 105 (.int .i64 0) (.int .i64 0)).run Tryd.prog w = .ok (.slice (some ⟨w.heap.size, 0, none⟩) 0 0) (w.alloc (.cells (madeCells #[.int .u8 0] 0) 108)) := run_make_row' (P := Tryd.prog) 105 108 (.int .u8 0) 1 Tryd.underlying105 info56 rfl .i64 .i64 0 (by omega) (by omega)
  go_enter Tryd.func46, Tryd.ntmps46
  go_wp2
  refine wp_loop_rounds 1 ?_
  rw [rounds_succ]
  go_wp2
  go_ret
  exact ⟨rfl, Rw.made w 0 108 (.int .u8 0), (Below.refl _ _).alloc (Nat.le_refl _) _⟩
/-- n bytes as a text -/
def txtN (n : Nat) (f : Nat → Nat) : ByteArray := strOfNums ((List.range n).map fun i => ((f i : Nat) : Int))
set_option maxHeartbeats 400000 in
theorem text_any (f : Nat → Nat) (b n cap : Nat) (w : World) (hn : n ≤ 140737488351232) (hb0 : b < w.heap.size) (hc : Cl w b n (nb f)) :
    Calls Tryd.prog 48 #[.slice (some ⟨b, 0, none⟩) n cap] w fun e w' => e = .returned (.string (txtN n f)) ∧ Below w.heap.size w w' := by
  have HC : Hid _ := hc
  clear hc
  have hmk := run_make_row' (P := Tryd.prog) 87 5 (.int .u8 0) 1 Tryd.underlying87 info5 rfl .i64 .i64 n (by omega) (by omega)
  go_enter Tryd.func48, Tryd.ntmps48
  go_wp2
  go_loopw [11] (fun i wr => ∃ k : Nat, k ≤ n ∧ i = .int .i64 k ∧ Below w.heap.size w wr ∧ Rw wr w.heap.size n 5 (part' k (nb f) (.int .u8 0))) (fun i _ => n - (intOf i).toNat)
  case atStart => exact ⟨0, by omega, rfl, (Below.refl _ _).alloc (Nat.le_refl _) _, (Rw.made w n 5 (.int .u8 0)).to (fun j _ => (part_0 _ _ j).symm)⟩
  case round =>
    obtain ⟨k, hk, rfl, hb, hR⟩ := hrel
    by_cases hlt : k < n
    · have c1 := hR.cell k hlt
      have c2 := hR.free k
      have c3 : wr.cell? ⟨b, k, none⟩ = some (.int .u8 ((f k : Nat) : Int)) := Cl.below HC.out hb hb0 k hlt
      go_wp2
      go_roundw
      case rel => exact ⟨k + 1, by omega, by go_num, hb.setCell (Nat.le_refl _) _, (hR.put k _).to (fun j _ => by rw [← part_step]; rfl)⟩
      case measure => simp [intOf]; omega
    · have e : k = n := by omega
      subst e
      have hcv := run_convert_bytes_arg (P := Tryd.prog) wr 87 5 Tryd.underlying87 Tryd.underlying5 w.heap.size 0 k k ((List.range k).map fun i => ((f i : Nat) : Int)) (by simp) (fun i hi => by
        rw [Nat.zero_add, hR.cell i hi]
        simp [part', hi, nb]) 9 Tryd.underlying9
      go_wp2
      go_ret
      exact ⟨rfl, hb⟩
theorem meth_minus (v : Value) (w : World) : (method 272 108 v "Minus").run Tryd.prog w = .ok (82, v) w := by kernel_rfl
end Go.Proofs.YtbjgchlckmecaaaDoor
