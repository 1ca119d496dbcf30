/-
  Rows as a region meets them; the pieces of a text.
  The walk of digest.mixAll.
-/
import Derived.Test.YtadinjaocnlglaaGreatDoorTF
import Derived.WalkKit
import Derived.WalkSpells
import Derived.WalkLawsBesides
import Derived.BigRegion
import Derived.BigQuiet
import Derived.Deep.QuietTactic
import Derived.Deep.RegionWith
namespace Go.Proofs.YtadinjaocnlglaaGreatDoor
open Go.RowKit
theorem run_loadAt_row8 {w : World} {g : Nat} {f : Nat → Int} (h : Words w g 8 294 f) : (Instr.loadAt 294 (.pointer (some ⟨g, 0, none⟩))).run Tryz.prog w = .ok (.agg (row 8 f)) w := by
  simp only [Instr.loadAt, Instr.sureAddr, Sem.run_bind, Sem.run_pure, Result.andThen_ok, run_loadVar_row w g 294 294 (row 8 f) (0, 0) _ h Tryz.underlying294 rfl (by rw [row_size]; exact info26)]
theorem run_storeAt_row8 {w : World} {g : Nat} {f : Nat → Int} (h : Words w g 8 294 f) (y : Nat → Int) : (Instr.storeAt 294 (.pointer (some ⟨g, 0, none⟩)) (.agg (row 8 y))).run Tryz.prog w = .ok () (w.setRow g (row 8 y)) := by
  simp only [Instr.storeAt, Instr.sureAddr, Sem.run_bind, Sem.run_pure, Result.andThen_ok, run_storeVar_row w g 294 294 (row 8 f) (row 8 y) h (by rw [row_size]; exact info26) (by simp [row_size]) (row_ones _ _)]

/-- the j-th piece of a text -/
def piece (s : ByteArray) (j : Nat) : ByteArray := s.extract (64 * j) (64 * j + 64)
/-- the state behind j pieces -/
def pcs (kt : Nat → Int) (s : ByteArray) (st : Nat → Int) : Nat → Nat → Int
  | 0 => st
  | j + 1 => press kt (wrd (iniR (piece s j))) (pcs kt s st j)
theorem byt_lo (s : ByteArray) (i : Nat) : 0 ≤ byt s i := by unfold byt; omega
theorem byt_hi (s : ByteArray) (i : Nat) : byt s i ≤ 255 := by
  unfold byt
  have := (s.data.toList.getD i 0).toNat_lt
  omega
theorem or_pieces (a b c d : Nat) (hb : b < 256) (hc : c < 256) (hd : d < 256) : ((a * 16777216 ||| b * 65536) ||| c * 256) ||| d = a * 16777216 + b * 65536 + c * 256 + d := by
  have e1 : a * 16777216 ||| b * 65536 = a * 16777216 + b * 65536 := by
    have := Nat.two_pow_add_eq_or_of_lt (i := 24) (b := b * 65536) (by omega) a
    rw [show a * 16777216 = 2 ^ 24 * a by omega]; exact this.symm
  have e2 : (a * 16777216 + b * 65536) ||| c * 256 = a * 16777216 + b * 65536 + c * 256 := by
    have := Nat.two_pow_add_eq_or_of_lt (i := 16) (b := c * 256) (by omega) (a * 256 + b)
    rw [show a * 16777216 + b * 65536 = 2 ^ 16 * (a * 256 + b) by omega]; exact this.symm
  have e3 : (a * 16777216 + b * 65536 + c * 256) ||| d = a * 16777216 + b * 65536 + c * 256 + d := by
    have := Nat.two_pow_add_eq_or_of_lt (i := 8) (b := d) (by omega) (a * 65536 + b * 256 + c)
    rw [show a * 16777216 + b * 65536 + c * 256 = 2 ^ 8 * (a * 65536 + b * 256 + c) by omega]; exact this.symm
  rw [e1, e2, e3]
theorem ini_eq (s : ByteArray) (k : Nat) : iniP s k = iniR s k := by
  obtain ⟨a, ha⟩ := Int.eq_ofNat_of_zero_le (byt_lo s (4 * k))
  obtain ⟨b, hb⟩ := Int.eq_ofNat_of_zero_le (byt_lo s (4 * k + 1))
  obtain ⟨c, hc⟩ := Int.eq_ofNat_of_zero_le (byt_lo s (4 * k + 2))
  obtain ⟨d, hd⟩ := Int.eq_ofNat_of_zero_le (byt_lo s (4 * k + 3))
  have h1 := byt_hi s (4 * k)
  have h2 := byt_hi s (4 * k + 1)
  have h3 := byt_hi s (4 * k + 2)
  have h4 := byt_hi s (4 * k + 3)
  rw [ha] at h1; rw [hb] at h2; rw [hc] at h3; rw [hd] at h4
  unfold iniP iniR
  rw [ha, hb, hc, hd]
  rw [show (a : Int) % 4294967296 * 16777216 % 4294967296 = ((a * 16777216 : Nat) : Int) by omega, show (b : Int) % 4294967296 * 65536 % 4294967296 = ((b * 65536 : Nat) : Int) by omega, show (c : Int) % 4294967296 * 256 % 4294967296 = ((c * 256 : Nat) : Int) by omega, show (d : Int) % 4294967296 = ((d : Nat) : Int) by omega]
  have o := or_pieces a b c d (by omega) (by omega) (by omega)
  rw [u32_or_nat _ _ (by omega) (by omega), u32_or_nat _ _ ?_ (by omega), u32_or_nat _ _ ?_ (by omega), o]
  · omega
  · have := Nat.le_trans (Nat.left_le_or (n := (a * 16777216 ||| b * 65536) ||| c * 256) (m := d)) (Nat.le_of_eq o)
    omega
  · have l1 := Nat.left_le_or (n := a * 16777216 ||| b * 65536) (m := c * 256)
    have l2 := Nat.le_trans (Nat.left_le_or (n := (a * 16777216 ||| b * 65536) ||| c * 256) (m := d)) (Nat.le_of_eq o)
    omega
theorem wrd_eq (s : ByteArray) : wrd (iniP s) = wrd (iniR s) := funext fun i => wrd_congr _ _ (fun j _ => ini_eq s j) i
theorem piece_size (s : ByteArray) (j : Nat) (h : 64 * j + 64 ≤ s.size) : (piece s j).size = 64 := by
  unfold piece; rw [ByteArray.size_extract]; omega
/-- eight cells, each readable and free -/
structure Cells8 (w : World) (g : Nat) (y : Nat → Int) : Prop where
  c0 : w.cell? ⟨g, 0, none⟩ = some (.int .u32 (y 0))
  c1 : w.cell? ⟨g, 1, none⟩ = some (.int .u32 (y 1))
  c2 : w.cell? ⟨g, 2, none⟩ = some (.int .u32 (y 2))
  c3 : w.cell? ⟨g, 3, none⟩ = some (.int .u32 (y 3))
  c4 : w.cell? ⟨g, 4, none⟩ = some (.int .u32 (y 4))
  c5 : w.cell? ⟨g, 5, none⟩ = some (.int .u32 (y 5))
  c6 : w.cell? ⟨g, 6, none⟩ = some (.int .u32 (y 6))
  c7 : w.cell? ⟨g, 7, none⟩ = some (.int .u32 (y 7))
  free : ∀ j, w.frozen? ⟨g, j, none⟩ = false
theorem Words.cells8 {w : World} {g : Nat} {y : Nat → Int} (h : Words w g 8 294 y) : Cells8 w g y := ⟨h.cell 0 (by omega), h.cell 1 (by omega), h.cell 2 (by omega), h.cell 3 (by omega), h.cell 4 (by omega), h.cell 5 (by omega), h.cell 6 (by omega), h.cell 7 (by omega), h.free⟩
theorem put8 {w : World} {g : Nat} {x y : Nat → Int} (h : Words w g 8 294 x) : Words ((((((((w.setCell ⟨g, 0, none⟩ (.int .u32 (y 0))).setCell ⟨g, 1, none⟩ (.int .u32 (y 1))).setCell ⟨g, 2, none⟩ (.int .u32 (y 2))).setCell ⟨g, 3, none⟩ (.int .u32 (y 3))).setCell ⟨g, 4, none⟩ (.int .u32 (y 4))).setCell ⟨g, 5, none⟩ (.int .u32 (y 5))).setCell ⟨g, 6, none⟩ (.int .u32 (y 6))).setCell ⟨g, 7, none⟩ (.int .u32 (y 7))) g 8 294 y := by
  have h8 := (((((((h.put 0 (y 0)).put 1 (y 1)).put 2 (y 2)).put 3 (y 3)).put 4 (y 4)).put 5 (y 5)).put 6 (y 6)).put 7 (y 7)
  unfold Words at h8 ⊢
  rw [h8]
  congr 2
theorem put8_other {w : World} {g k n : Nat} {t : TypeId} {f y : Nat → Int} (h : Words w k n t f) (hk : k ≠ g) : Words ((((((((w.setCell ⟨g, 0, none⟩ (.int .u32 (y 0))).setCell ⟨g, 1, none⟩ (.int .u32 (y 1))).setCell ⟨g, 2, none⟩ (.int .u32 (y 2))).setCell ⟨g, 3, none⟩ (.int .u32 (y 3))).setCell ⟨g, 4, none⟩ (.int .u32 (y 4))).setCell ⟨g, 5, none⟩ (.int .u32 (y 5))).setCell ⟨g, 6, none⟩ (.int .u32 (y 6))).setCell ⟨g, 7, none⟩ (.int .u32 (y 7))) k n t f :=
  (((((((h.other _ _ hk).other _ _ hk).other _ _ hk).other _ _ hk).other _ _ hk).other _ _ hk).other _ _ hk).other _ _ hk
theorem put8_below {W w : World} {g : Nat} {y : Nat → Int} (h : Below g W w) : Below g W ((((((((w.setCell ⟨g, 0, none⟩ (.int .u32 (y 0))).setCell ⟨g, 1, none⟩ (.int .u32 (y 1))).setCell ⟨g, 2, none⟩ (.int .u32 (y 2))).setCell ⟨g, 3, none⟩ (.int .u32 (y 3))).setCell ⟨g, 4, none⟩ (.int .u32 (y 4))).setCell ⟨g, 5, none⟩ (.int .u32 (y 5))).setCell ⟨g, 6, none⟩ (.int .u32 (y 6))).setCell ⟨g, 7, none⟩ (.int .u32 (y 7))) :=
  (((((((h.setCell (Nat.le_refl _) _).setCell (Nat.le_refl _) _).setCell (Nat.le_refl _) _).setCell (Nat.le_refl _) _).setCell (Nat.le_refl _) _).setCell (Nat.le_refl _) _).setCell (Nat.le_refl _) _).setCell (Nat.le_refl _) _
end Go.Proofs.YtadinjaocnlglaaGreatDoor
namespace Go.Proofs.YtadinjaocnlglaaGreatDoor
open Go.RowKit
theorem mix_at (kt : Nat → Int) (st : Nat → Int) (s : ByteArray) (w : World) (h0 : s.size = 64) (hT : Tab w 2 kt) (h3 : 4 ≤ w.heap.size) :
    Calls Tryz.prog 226 #[.agg (row 8 st), .string s] w fun e w' => e = .returned (.agg (row 8 (press kt (wrd (iniR s)) st))) ∧ Below w.heap.size w w' := by
  rw [← wrd_eq]; exact mix_any kt st s w h0 hT h3
theorem mix_lit (kt : Nat → Int) (st : Nat → Int) (s : ByteArray) (w : World) (h0 : s.size = 64) (hT : Tab w 2 kt) (h3 : 4 ≤ w.heap.size) :
    Calls Tryz.prog 226 #[.agg #[.int .u32 (st 0), .int .u32 (st 1), .int .u32 (st 2), .int .u32 (st 3), .int .u32 (st 4), .int .u32 (st 5), .int .u32 (st 6), .int .u32 (st 7)], .string s] w fun e w' => ∃ y, Hid (y = press kt (wrd (iniR s)) st) ∧
      e = .returned (.agg #[.int .u32 (y 0), .int .u32 (y 1), .int .u32 (y 2), .int .u32 (y 3), .int .u32 (y 4), .int .u32 (y 5), .int .u32 (y 6), .int .u32 (y 7)]) ∧ Below w.heap.size w w' :=
  (mix_at kt st s w h0 hT h3).mono fun _ _ h => ⟨_, rfl, h.1, h.2⟩
set_option maxHeartbeats 1000000 in
set_option maxRecDepth 100000 in
theorem mixAll_any (kt : Nat → Int) (st : Nat → Int) (s : ByteArray) (n : Nat) (w : World) (h0 : s.size = 64 * n) (hn : n ≤ 2199023255552) (hT : Tab w 2 kt) (h3 : 4 ≤ w.heap.size) :
    Calls Tryz.prog 186 #[.agg (row 8 st), .string s] w fun e w' => e = .returned (.agg (row 8 (pcs kt s st n))) ∧ Below w.heap.size w w' := by
  have HT : Hid _ := hT
  clear hT
  have H0 : Hid _ := h0
  have hsz : s.size ≤ 140737488355328 := by omega
  clear h0
  go_enter Tryz.func186, Tryz.ntmps186
  go_wp2
  go_loopw [5] (fun i wr => ∃ k : Nat, k ≤ n ∧ i = .int .i64 ((64 * k : Nat) : Int) ∧ Below w.heap.size w wr ∧ Words wr (w.heap.size + 1) 8 294 (fun _ => 0) ∧ Words wr w.heap.size 8 294 (pcs kt s st k)) (fun i _ => s.size - (intOf i).toNat)
  case atStart => exact ⟨0, by omega, rfl, ((Below.refl _ _).alloc (Nat.le_refl _) _).alloc (by simp) _, heap_alloc2_new _ _ _, heap_alloc2_old _ _ _⟩
  case round =>
    obtain ⟨k, hk, rfl, hb, hR, hA⟩ := hrel
    by_cases hlt : k < n
    · obtain ⟨at', hat⟩ : ∃ m : Nat, m = 64 * k := ⟨_, rfl⟩
      have hle : at' + 64 ≤ s.size := by have := H0.out; omega
      rw [← hat]
      have HAT : Hid (at' = 64 * k) := hat
      clear hat
      obtain ⟨x, hx⟩ : ∃ x, pcs kt s st k = x := ⟨_, rfl⟩
      have HX : Hid (pcs kt s st k = x) := hx
      rw [hx] at hA
      clear hx
      obtain ⟨c0, c1, c2, c3, c4, c5, c6, c7, cf⟩ := hA.cells8
      have hge : w.heap.size + 2 ≤ wr.heap.size := by have := hR.lt; omega
      obtain ⟨q, HQ, hq, hsl⟩ : ∃ q, Hid (q = piece s k) ∧ q.size = 64 ∧ ∀ W, (Instr.slice 9 (.string s) (some (.int .i64 (at' : Int))) (some (.int .i64 ((at' : Int) + 64))) none).run Tryz.prog W = .ok (.string q) W := by
        refine ⟨piece s k, rfl, piece_size s k (by have := HAT.out; omega), fun W => ?_⟩
        rw [run_slice_string W 9 s .i64 .i64 _ _ Tryz.underlying9 (by omega) (by omega) (by omega)]
        have e1 : ((at' : Int)).toNat = 64 * k := by have := HAT.out; omega
        have e2 : ((at' : Int) + 64).toNat = 64 * k + 64 := by have := HAT.out; omega
        rw [e1, e2]; rfl
      have hwp : IntKind.i64.wrap ((at' : Int) + 64) = (at' : Int) + 64 := by rw [IntKind.wrap_i64]; omega
      go_wp2
      have hTr : Tab wr.drew 2 kt := Tab.below HT.out hb.drew (by omega)
      have h3r : 4 ≤ wr.drew.heap.size := by show 4 ≤ wr.heap.size; omega
      have hltb : w.heap.size < wr.drew.heap.size := by show w.heap.size < wr.heap.size; omega
      go_region_with (go_at_call 226; refine (mix_lit kt x q wr.drew hq hTr h3r).mono ?_; rintro e w' ⟨y, hy, rfl, hb'⟩; obtain ⟨d0, d1, d2, d3, d4, d5, d6, d7, df⟩ := (hA.drew.below hb' hltb).cells8)
      go_wp2
      go_roundw
      case rel =>
        refine ⟨k + 1, by omega, by have := HAT.out; go_num, put8_below (hb.drew.trans (hb'.mono (Nat.le_of_lt hltb))), put8_other ((hR.drew).below hb' (by show w.heap.size + 1 < wr.heap.size; omega)) (by simp), ?_⟩
        have e : pcs kt s st (k + 1) = y := by
          show press kt (wrd (iniR (piece s k))) (pcs kt s st k) = y
          rw [hy.out, HX.out, HQ.out]
        rw [e]
        exact put8 (hA.drew.below hb' hltb)
      case measure => have := HAT.out; have := H0.out; simp [intOf]; omega
    · have hkn : k = n := by omega
      subst hkn
      obtain ⟨x, hx⟩ : ∃ x, pcs kt s st k = x := ⟨_, rfl⟩
      have HX : Hid (pcs kt s st k = x) := hx
      rw [hx] at hA
      clear hx
      obtain ⟨m, hm⟩ : ∃ m : Nat, m = 64 * k := ⟨_, rfl⟩
      rw [← hm]
      have hms : s.size ≤ m := by have := H0.out; omega
      clear hm
      have hld8 : (Tryz.prog.info? 294).map (·.size) = some (row 8 x).size := by rw [row_size]; exact info26
      have hold8 : (row 8 (fun _ => 0)).size = (row 8 x).size := by simp [row_size]
      go_wp2_with (first | (refine wpList_load_row rfl 294 (.tmp 2) rfl w.heap.size rfl 294 (row 8 x) (0, 0) _ hA Tryz.underlying294 rfl hld8 ?_) | (refine wpList_store_row rfl 294 (.tmp 4) (.tmp 19) rfl (w.heap.size + 1) (row 8 x) rfl rfl 294 (row 8 fun _ => 0) hR hld8 hold8 (row_ones _ _) ?_))
      refine bodyPost_ret (v := .agg (row 8 x)) ?_ rfl ?_
      · exact results_cell_row Tryz.results186 _ _ (w.heap.size + 1) 294 (row 8 x) (0, 0) _ rfl (setRow_heap wr (w.heap.size + 1) _ _ 294 (0, 0) hR) Tryz.underlying294 rfl hld8
      · rw [HX.out]
        exact ⟨rfl, below_setRow hb _ (by omega) _⟩
end Go.Proofs.YtadinjaocnlglaaGreatDoor
