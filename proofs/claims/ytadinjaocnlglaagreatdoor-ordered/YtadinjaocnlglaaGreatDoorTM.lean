/-
  The walk of digest.Of.
-/
import Derived.Test.YtadinjaocnlglaaGreatDoorTI
import Derived.Test.YtadinjaocnlglaaGreatDoorTK
import Derived.Test.YtadinjaocnlglaaGreatDoorTL
import Derived.WalkKit
import Derived.WalkSpells
import Derived.WalkLawsBesides
import Derived.BigRegion
import Derived.BigQuiet
import Derived.Deep.QuietTactic
import Derived.Deep.RegionWith
namespace Go.Proofs.YtadinjaocnlglaaGreatDoor
open Go.RowKit
def hini : Nat → Int
  | 0 => 1779033703
  | 1 => 3144134277
  | 2 => 1013904242
  | 3 => 2773480762
  | 4 => 1359893119
  | 5 => 2600822924
  | 6 => 528734635
  | _ => 1541459225
theorem mixAll_lit (kt : Nat → Int) (st : Nat → Int) (s : ByteArray) (n : Nat) (w : World) (h0 : s.size = 64 * n) (hn : n ≤ 2199023255552) (hT : Tab w 2 kt) (h3 : 4 ≤ w.heap.size) :
    Calls Tryz.prog 186 #[.agg #[.int .u32 (st 0), .int .u32 (st 1), .int .u32 (st 2), .int .u32 (st 3), .int .u32 (st 4), .int .u32 (st 5), .int .u32 (st 6), .int .u32 (st 7)], .string s] w fun e w' => ∃ y, Hid (y = pcs kt s st n) ∧
      e = .returned (.agg #[.int .u32 (y 0), .int .u32 (y 1), .int .u32 (y 2), .int .u32 (y 3), .int .u32 (y 4), .int .u32 (y 5), .int .u32 (y 6), .int .u32 (y 7)]) ∧ Below w.heap.size w w' :=
  (mixAll_any kt st s n w h0 hn hT h3).mono fun _ _ h => ⟨_, rfl, h.1, h.2⟩
/-- the padded rest of a text -/
def padT (s : ByteArray) (n : Nat) : ByteArray := if s.size < 56 then txt 64 (padS s n 64 8) else txt 128 (padS s n 128 8)
def padN (s : ByteArray) : Nat := if s.size < 56 then 1 else 2
theorem txt_size (n : Nat) (f : Nat → Int) : (txt n f).size = n := by simp [txt, strOfNums_size]
theorem padT_size (s : ByteArray) (n : Nat) : (padT s n).size = 64 * padN s := by
  unfold padT padN
  by_cases h : s.size < 56
  · rw [if_pos h, if_pos h, txt_size]
  · rw [if_neg h, if_neg h, txt_size]
theorem padN_le (s : ByteArray) : padN s ≤ 2 := by
  unfold padN; split <;> omega
theorem padded_at (s : ByteArray) (n : Nat) (w : World) (h0 : s.size < 64) (hn : n ≤ 140737488355328) :
    Calls Tryz.prog 187 #[.string s, .int .i64 n] w fun e w' => e = .returned (.string (padT s n)) ∧ Below w.heap.size w w' := by
  unfold padT
  by_cases h : s.size < 56
  · rw [if_pos h]; exact padded_lo s n w h hn
  · rw [if_neg h]; exact padded_hi s n w (by omega) h0 hn
/-- the digest as the program makes it -/
def ofT (kt : Nat → Int) (s : ByteArray) : ByteArray :=
  strOfNums (tl (pcs kt (padT (s.extract (64 * (s.size / 64)) s.size) s.size) (pcs kt (s.extract 0 (64 * (s.size / 64))) hini (s.size / 64)) (padN (s.extract (64 * (s.size / 64)) s.size))) 8)
set_option maxHeartbeats 1000000 in
set_option maxRecDepth 100000 in
theorem of_any (kt : Nat → Int) (s : ByteArray) (w : World) (hs : s.size ≤ 140737488351232) (hT : Tab w 2 kt) (h3 : 4 ≤ w.heap.size) :
    Calls Tryz.prog 125 #[.string s] w fun e w' => e = .returned (.string (ofT kt s)) ∧ Below w.heap.size w w' := by
  have HT : Hid _ := hT
  clear hT
  obtain ⟨n, hn⟩ : ∃ n, n = s.size / 64 := ⟨_, rfl⟩
  obtain ⟨wh, hwh⟩ : ∃ wh, wh = 64 * n := ⟨_, rfl⟩
  have hwe : ((s.size : Int) - (s.size : Int) % 64) = (wh : Int) := by omega
  have hwl : wh ≤ s.size := by omega
  have hwr : s.size - wh < 64 := by omega
  obtain ⟨q1, HQ1, hq1, hsl1⟩ : ∃ q, Hid (q = s.extract 0 wh) ∧ q.size = 64 * n ∧ ∀ W, (Instr.slice 9 (.string s) none (some (.int .i64 (wh : Int))) none).run Tryz.prog W = .ok (.string q) W := by
    refine ⟨s.extract 0 wh, rfl, by rw [ByteArray.size_extract]; omega, fun W => ?_⟩
    rw [run_slice_string_to_if W 9 s .i64 _ Tryz.underlying9, if_pos ⟨by omega, by omega⟩, Int.toNat_natCast]
  obtain ⟨q2, HQ2, hq2, hsl2⟩ : ∃ q, Hid (q = s.extract wh s.size) ∧ q.size < 64 ∧ ∀ W, (Instr.slice 9 (.string s) (some (.int .i64 (wh : Int))) none none).run Tryz.prog W = .ok (.string q) W := by
    refine ⟨s.extract wh s.size, rfl, by rw [ByteArray.size_extract]; omega, fun W => ?_⟩
    rw [run_slice_string_from_if W 9 s .i64 _ Tryz.underlying9, if_pos ⟨by omega, by omega⟩, Int.toNat_natCast]
  have hnn : n ≤ 2199023255552 := by omega
  have HWH : Hid (wh = 64 * (s.size / 64)) := by rw [hwh, hn]; rfl
  have HN : Hid (n = s.size / 64) := hn
  have HQ1S : Hid (q1.size = 64 * n) := hq1
  have HWE : Hid (((s.size : Int) - (s.size : Int) % 64) = (wh : Int)) := hwe
  clear hn hwh hq1 hwe
  go_enter Tryz.func125, Tryz.ntmps125
  go_wp2
  rw [HWE.out]
  obtain ⟨w1, hw1⟩ : ∃ w1, w1 = w.alloc (Obj.cells #[Value.int IntKind.u32 1779033703, Value.int IntKind.u32 3144134277, Value.int IntKind.u32 1013904242, Value.int IntKind.u32 2773480762, Value.int IntKind.u32 1359893119, Value.int IntKind.u32 2600822924, Value.int IntKind.u32 528734635, Value.int IntKind.u32 1541459225] 294) := ⟨_, rfl⟩
  rw [← hw1]
  have hA1 : Words w1 w.heap.size 8 294 hini := by rw [hw1]; exact heap_alloc_new _ _
  have hB1 : Below w.heap.size w w1 := by rw [hw1]; exact (Below.refl _ _).alloc (Nat.le_refl _) _
  clear hw1
  obtain ⟨x, hx⟩ : ∃ x, x = hini := ⟨_, rfl⟩
  have HX : Hid (x = hini) := hx
  rw [← hx] at hA1
  clear hx
  have hlt1 : w.heap.size < w1.heap.size := hA1.lt
  have hTr : Tab w1.drew 2 kt := Tab.below HT.out hB1.drew (by omega)
  have h3r : 4 ≤ w1.drew.heap.size := by show 4 ≤ w1.heap.size; omega
  have hltb : w.heap.size < w1.drew.heap.size := hlt1
  obtain ⟨c0, c1, c2, c3, c4, c5, c6, c7, cf⟩ := hA1.cells8
  go_region_with (go_at_call 186; refine (mixAll_lit kt x q1 n w1.drew HQ1S.out hnn hTr h3r).mono ?_; rintro e w' ⟨y, hy, rfl, hb'⟩; obtain ⟨d0, d1, d2, d3, d4, d5, d6, d7, df⟩ := (hA1.drew.below hb' hltb).cells8)
  go_wp2
  obtain ⟨w2, hw2⟩ : ∃ w2, w2 = (((((((w'.setCell ⟨w.heap.size, 0, none⟩ (Value.int IntKind.u32 (y 0))).setCell ⟨w.heap.size, 1, none⟩ (Value.int IntKind.u32 (y 1))).setCell ⟨w.heap.size, 2, none⟩ (Value.int IntKind.u32 (y 2))).setCell ⟨w.heap.size, 3, none⟩ (Value.int IntKind.u32 (y 3))).setCell ⟨w.heap.size, 4, none⟩ (Value.int IntKind.u32 (y 4))).setCell ⟨w.heap.size, 5, none⟩ (Value.int IntKind.u32 (y 5))).setCell ⟨w.heap.size, 6, none⟩ (Value.int IntKind.u32 (y 6))).setCell ⟨w.heap.size, 7, none⟩ (Value.int IntKind.u32 (y 7)) := ⟨_, rfl⟩
  rw [← hw2]
  have hA2 : Words w2 w.heap.size 8 294 y := by rw [hw2]; exact put8 (hA1.drew.below hb' hltb)
  have hB2 : Below w.heap.size w w2 := by rw [hw2]; exact put8_below (hB1.drew.trans (hb'.mono (Nat.le_of_lt hltb)))
  clear hw2 d0 d1 d2 d3 d4 d5 d6 d7 df hb' c0 c1 c2 c3 c4 c5 c6 c7 cf hA1 hB1 hTr h3r hltb hlt1 hsl1
  have hlt2 : w.heap.size < w2.drew.heap.size := hA2.lt
  have hTr : Tab w2.drew 2 kt := Tab.below HT.out hB2.drew (by omega)
  have h3r : 4 ≤ w2.drew.heap.size := by omega
  have hns : s.size ≤ 140737488355328 := by omega
  have hpn := padN_le q2
  have hpnn : padN q2 ≤ 2199023255552 := by omega
  have HPS : Hid _ := padT_size q2 s.size
  obtain ⟨p, hp⟩ : ∃ p, padT q2 s.size = p := ⟨_, rfl⟩
  have HP : Hid (padT q2 s.size = p) := hp
  have hpad := fun W => padded_at q2 s.size W hq2 hns
  simp only [hp] at hpad
  have HPD : Hid _ := hpad
  have HPZ : Hid (p.size = 64 * padN q2) := by rw [← hp]; exact padT_size q2 s.size
  clear hp hpad HPS
  obtain ⟨c0, c1, c2, c3, c4, c5, c6, c7, cf⟩ := hA2.cells8
  go_region_with (first | (go_at_call 187; refine (HPD.out _).mono ?_; rintro e w5 ⟨rfl, hb5⟩; have hA5 := hA2.drew.below hb5 hlt2; have hT5 := Tab.below hTr hb5 (by omega); have h35 := Nat.le_trans h3r hb5.size; have hlt5 := Nat.lt_of_lt_of_le hlt2 hb5.size; obtain ⟨e0, e1, e2, e3, e4, e5, e6, e7, ef⟩ := hA5.cells8) | (go_at_call 186; refine (mixAll_lit kt y p (padN q2) w5 HPZ.out hpnn hT5 h35).mono ?_; rintro e w6 ⟨z, hz, rfl, hb6⟩; obtain ⟨f0, f1, f2, f3, f4, f5, f6, f7, ff⟩ := (hA5.below hb6 hlt5).cells8))
  all_goals
    have hA7 := put8 (y := z) (hA5.below hb6 hlt5)
    have hB7 := put8_below (y := z) ((hB2.drew.trans (hb5.mono (Nat.le_of_lt hlt2))).trans (hb6.mono (Nat.le_of_lt hlt5)))
    have hld8 : (Tryz.prog.info? 294).map (·.size) = some (row 8 z).size := by rw [row_size]; exact info26
    clear e0 e1 e2 e3 e4 e5 e6 e7 ef f0 f1 f2 f3 f4 f5 f6 f7 ff c0 c1 c2 c3 c4 c5 c6 c7 cf
    go_wp2_with (first | (refine wpList_load_row rfl 294 (.tmp 3) rfl w.heap.size rfl 294 (row 8 z) (0, 0) _ hA7 Tryz.underlying294 rfl hld8 ?_) | (go_at_call 188; refine (told_any z _).mono ?_; rintro e w7 ⟨rfl, hb7⟩))
    go_ret
    refine ⟨?_, hB7.trans (hb7.mono (by have := hA7.lt; omega))⟩
    unfold ofT
    rw [← HWH.out, ← HN.out, ← HQ1.out, ← HQ2.out, HP.out, ← HX.out, ← hy.out, ← hz.out]
    rfl
end Go.Proofs.YtadinjaocnlglaaGreatDoor
