/-
  Rows as a region meets them; the pieces of a text.
-/
import Derived.Test.YtnghgdficnkbbaaDoorTE
namespace Go.Proofs.YtnghgdficnkbbaaDoor
open Go.RowKit
theorem run_loadAt_row8 {w : World} {g : Nat} {f : Nat → Int} (h : Words w g 8 38 f) : (Instr.loadAt 38 (.pointer (some ⟨g, 0, none⟩))).run Tryd.prog w = .ok (.agg (row 8 f)) w := by
  simp only [Instr.loadAt, Instr.sureAddr, Sem.run_bind, Sem.run_pure, Result.andThen_ok, run_loadVar_row w g 38 38 (row 8 f) (0, 0) _ h Tryd.underlying38 rfl (by rw [row_size]; exact info26)]
theorem run_storeAt_row8 {w : World} {g : Nat} {f : Nat → Int} (h : Words w g 8 38 f) (y : Nat → Int) : (Instr.storeAt 38 (.pointer (some ⟨g, 0, none⟩)) (.agg (row 8 y))).run Tryd.prog w = .ok () (w.setRow g (row 8 y)) := by
  simp only [Instr.storeAt, Instr.sureAddr, Sem.run_bind, Sem.run_pure, Result.andThen_ok, run_storeVar_row w g 38 38 (row 8 f) (row 8 y) h (by rw [row_size]; exact info26) (by simp [row_size]) (row_ones _ _)]

/-- the j-th piece of a text -/
def piece (s : ByteArray) (j : Nat) : ByteArray := s.extract (64 * j) (64 * j + 64)
/-- the state behind j pieces -/
def pcs (kt : Nat → Int) (s : ByteArray) (st : Nat → Int) : Nat → Nat → Int
  | 0 => st
  | j + 1 => press kt (wrd (iniR (piece s j))) (pcs kt s st j)
theorem byt_lo (s : ByteArray) (i : Nat) : 0 ≤ byt s i := by unfold byt; omega
theorem byt_hi (s : ByteArray) (i : Nat) : byt s i ≤ 255 := by
  unfold byt
  have := (s.data.toList.getD i 0).toNat_lt
  omega
theorem or_pieces (a b c d : Nat) (hb : b < 256) (hc : c < 256) (hd : d < 256) : ((a * 16777216 ||| b * 65536) ||| c * 256) ||| d = a * 16777216 + b * 65536 + c * 256 + d := by
  have e1 : a * 16777216 ||| b * 65536 = a * 16777216 + b * 65536 := by
    have := Nat.two_pow_add_eq_or_of_lt (i := 24) (b := b * 65536) (by omega) a
    rw [show a * 16777216 = 2 ^ 24 * a by omega]; exact this.symm
  have e2 : (a * 16777216 + b * 65536) ||| c * 256 = a * 16777216 + b * 65536 + c * 256 := by
    have := Nat.two_pow_add_eq_or_of_lt (i := 16) (b := c * 256) (by omega) (a * 256 + b)
    rw [show a * 16777216 + b * 65536 = 2 ^ 16 * (a * 256 + b) by omega]; exact this.symm
  have e3 : (a * 16777216 + b * 65536 + c * 256) ||| d = a * 16777216 + b * 65536 + c * 256 + d := by
    have := Nat.two_pow_add_eq_or_of_lt (i := 8) (b := d) (by omega) (a * 65536 + b * 256 + c)
    rw [show a * 16777216 + b * 65536 + c * 256 = 2 ^ 8 * (a * 65536 + b * 256 + c) by omega]; exact this.symm
  rw [e1, e2, e3]
theorem ini_eq (s : ByteArray) (k : Nat) : iniP s k = iniR s k := by
  obtain ⟨a, ha⟩ := Int.eq_ofNat_of_zero_le (byt_lo s (4 * k))
  obtain ⟨b, hb⟩ := Int.eq_ofNat_of_zero_le (byt_lo s (4 * k + 1))
  obtain ⟨c, hc⟩ := Int.eq_ofNat_of_zero_le (byt_lo s (4 * k + 2))
  obtain ⟨d, hd⟩ := Int.eq_ofNat_of_zero_le (byt_lo s (4 * k + 3))
  have h1 := byt_hi s (4 * k)
  have h2 := byt_hi s (4 * k + 1)
  have h3 := byt_hi s (4 * k + 2)
  have h4 := byt_hi s (4 * k + 3)
  rw [ha] at h1; rw [hb] at h2; rw [hc] at h3; rw [hd] at h4
  unfold iniP iniR
  rw [ha, hb, hc, hd]
  rw [show (a : Int) % 4294967296 * 16777216 % 4294967296 = ((a * 16777216 : Nat) : Int) by omega, show (b : Int) % 4294967296 * 65536 % 4294967296 = ((b * 65536 : Nat) : Int) by omega, show (c : Int) % 4294967296 * 256 % 4294967296 = ((c * 256 : Nat) : Int) by omega, show (d : Int) % 4294967296 = ((d : Nat) : Int) by omega]
  have o := or_pieces a b c d (by omega) (by omega) (by omega)
  rw [u32_or_nat _ _ (by omega) (by omega), u32_or_nat _ _ ?_ (by omega), u32_or_nat _ _ ?_ (by omega), o]
  · omega
  · have := Nat.le_trans (Nat.left_le_or (n := (a * 16777216 ||| b * 65536) ||| c * 256) (m := d)) (Nat.le_of_eq o)
    omega
  · have l1 := Nat.left_le_or (n := a * 16777216 ||| b * 65536) (m := c * 256)
    have l2 := Nat.le_trans (Nat.left_le_or (n := (a * 16777216 ||| b * 65536) ||| c * 256) (m := d)) (Nat.le_of_eq o)
    omega
theorem wrd_eq (s : ByteArray) : wrd (iniP s) = wrd (iniR s) := funext fun i => wrd_congr _ _ (fun j _ => ini_eq s j) i
theorem piece_size (s : ByteArray) (j : Nat) (h : 64 * j + 64 ≤ s.size) : (piece s j).size = 64 := by
  unfold piece; rw [ByteArray.size_extract]; omega
/-- eight cells, each readable and free -/
structure Cells8 (w : World) (g : Nat) (y : Nat → Int) : Prop where
  c0 : w.cell? ⟨g, 0, none⟩ = some (.int .u32 (y 0))
  c1 : w.cell? ⟨g, 1, none⟩ = some (.int .u32 (y 1))
  c2 : w.cell? ⟨g, 2, none⟩ = some (.int .u32 (y 2))
  c3 : w.cell? ⟨g, 3, none⟩ = some (.int .u32 (y 3))
  c4 : w.cell? ⟨g, 4, none⟩ = some (.int .u32 (y 4))
  c5 : w.cell? ⟨g, 5, none⟩ = some (.int .u32 (y 5))
  c6 : w.cell? ⟨g, 6, none⟩ = some (.int .u32 (y 6))
  c7 : w.cell? ⟨g, 7, none⟩ = some (.int .u32 (y 7))
  free : ∀ j, w.frozen? ⟨g, j, none⟩ = false
theorem Words.cells8 {w : World} {g : Nat} {y : Nat → Int} (h : Words w g 8 38 y) : Cells8 w g y := ⟨h.cell 0 (by omega), h.cell 1 (by omega), h.cell 2 (by omega), h.cell 3 (by omega), h.cell 4 (by omega), h.cell 5 (by omega), h.cell 6 (by omega), h.cell 7 (by omega), h.free⟩
theorem put8 {w : World} {g : Nat} {x y : Nat → Int} (h : Words w g 8 38 x) : Words ((((((((w.setCell ⟨g, 0, none⟩ (.int .u32 (y 0))).setCell ⟨g, 1, none⟩ (.int .u32 (y 1))).setCell ⟨g, 2, none⟩ (.int .u32 (y 2))).setCell ⟨g, 3, none⟩ (.int .u32 (y 3))).setCell ⟨g, 4, none⟩ (.int .u32 (y 4))).setCell ⟨g, 5, none⟩ (.int .u32 (y 5))).setCell ⟨g, 6, none⟩ (.int .u32 (y 6))).setCell ⟨g, 7, none⟩ (.int .u32 (y 7))) g 8 38 y := by
  have h8 := (((((((h.put 0 (y 0)).put 1 (y 1)).put 2 (y 2)).put 3 (y 3)).put 4 (y 4)).put 5 (y 5)).put 6 (y 6)).put 7 (y 7)
  unfold Words at h8 ⊢
  rw [h8]
  congr 2
theorem put8_other {w : World} {g k n : Nat} {t : TypeId} {f y : Nat → Int} (h : Words w k n t f) (hk : k ≠ g) : Words ((((((((w.setCell ⟨g, 0, none⟩ (.int .u32 (y 0))).setCell ⟨g, 1, none⟩ (.int .u32 (y 1))).setCell ⟨g, 2, none⟩ (.int .u32 (y 2))).setCell ⟨g, 3, none⟩ (.int .u32 (y 3))).setCell ⟨g, 4, none⟩ (.int .u32 (y 4))).setCell ⟨g, 5, none⟩ (.int .u32 (y 5))).setCell ⟨g, 6, none⟩ (.int .u32 (y 6))).setCell ⟨g, 7, none⟩ (.int .u32 (y 7))) k n t f :=
  (((((((h.other _ _ hk).other _ _ hk).other _ _ hk).other _ _ hk).other _ _ hk).other _ _ hk).other _ _ hk).other _ _ hk
theorem put8_below {W w : World} {g : Nat} {y : Nat → Int} (h : Below g W w) : Below g W ((((((((w.setCell ⟨g, 0, none⟩ (.int .u32 (y 0))).setCell ⟨g, 1, none⟩ (.int .u32 (y 1))).setCell ⟨g, 2, none⟩ (.int .u32 (y 2))).setCell ⟨g, 3, none⟩ (.int .u32 (y 3))).setCell ⟨g, 4, none⟩ (.int .u32 (y 4))).setCell ⟨g, 5, none⟩ (.int .u32 (y 5))).setCell ⟨g, 6, none⟩ (.int .u32 (y 6))).setCell ⟨g, 7, none⟩ (.int .u32 (y 7))) :=
  (((((((h.setCell (Nat.le_refl _) _).setCell (Nat.le_refl _) _).setCell (Nat.le_refl _) _).setCell (Nat.le_refl _) _).setCell (Nat.le_refl _) _).setCell (Nat.le_refl _) _).setCell (Nat.le_refl _) _).setCell (Nat.le_refl _) _
end Go.Proofs.YtnghgdficnkbbaaDoor
