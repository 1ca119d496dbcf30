/-
  The walk of digest.mixAll.
  The walk of digest.padded.
  The walk of digest.Of.
  The walk of vaultref.Digest.
  The two digests are one: plain facts on bytes.
  What the walks need of the world: the tables, and the type that errors.As asks. Both digests.
  U0
-/
import Derived.Test.YtadinjaocnlglaaGreatDoorZ11
import Derived.Test.YtadinjaocnlglaaGreatDoorZ10
import Derived.WalkKit
import Derived.WalkSpells
import Derived.WalkLawsBesides
import Derived.BigRegion
import Derived.BigQuiet
import Derived.Deep.QuietTactic
import Derived.Deep.RegionWith
import Derived.Test.YtadinjaocnlglaaGreatDoorZ03
import Derived.Deep.RegionLaw
import Derived.Deep.RegionHeld3
import Derived.Test.YtadinjaocnlglaaGreatDoorZ04
import Derived.Test.YtadinjaocnlglaaGreatDoorZ08
namespace Go.Proofs.YtadinjaocnlglaaGreatDoor
open Go.RowKit
theorem mix_at (kt : Nat → Int) (st : Nat → Int) (s : ByteArray) (w : World) (h0 : s.size = 64) (hT : Tab w 2 kt) (h3 : 4 ≤ w.heap.size) :
    Calls Tryz.prog 226 #[.agg (row 8 st), .string s] w fun e w' => e = .returned (.agg (row 8 (press kt (wrd (iniR s)) st))) ∧ Below w.heap.size w w' := by
  rw [← wrd_eq]; exact mix_any kt st s w h0 hT h3
theorem mix_lit (kt : Nat → Int) (st : Nat → Int) (s : ByteArray) (w : World) (h0 : s.size = 64) (hT : Tab w 2 kt) (h3 : 4 ≤ w.heap.size) :
    Calls Tryz.prog 226 #[.agg #[.int .u32 (st 0), .int .u32 (st 1), .int .u32 (st 2), .int .u32 (st 3), .int .u32 (st 4), .int .u32 (st 5), .int .u32 (st 6), .int .u32 (st 7)], .string s] w fun e w' => ∃ y, Hid (y = press kt (wrd (iniR s)) st) ∧
      e = .returned (.agg #[.int .u32 (y 0), .int .u32 (y 1), .int .u32 (y 2), .int .u32 (y 3), .int .u32 (y 4), .int .u32 (y 5), .int .u32 (y 6), .int .u32 (y 7)]) ∧ Below w.heap.size w w' :=
  (mix_at kt st s w h0 hT h3).mono fun _ _ h => ⟨_, rfl, h.1, h.2⟩
set_option maxHeartbeats 1000000 in
set_option maxRecDepth 100000 in
theorem mixAll_any (kt : Nat → Int) (st : Nat → Int) (s : ByteArray) (n : Nat) (w : World) (h0 : s.size = 64 * n) (hn : n ≤ 2199023255552) (hT : Tab w 2 kt) (h3 : 4 ≤ w.heap.size) :
    Calls Tryz.prog 186 #[.agg (row 8 st), .string s] w fun e w' => e = .returned (.agg (row 8 (pcs kt s st n))) ∧ Below w.heap.size w w' := by
  have HT : Hid _ := hT
  clear hT
  have H0 : Hid _ := h0
  have hsz : s.size ≤ 140737488355328 := by omega
  clear h0
  go_enter Tryz.func186, Tryz.ntmps186
  go_wp2
  go_loopw [5] (fun i wr => ∃ k : Nat, k ≤ n ∧ i = .int .i64 ((64 * k : Nat) : Int) ∧ Below w.heap.size w wr ∧ Words wr (w.heap.size + 1) 8 294 (fun _ => 0) ∧ Words wr w.heap.size 8 294 (pcs kt s st k)) (fun i _ => s.size - (intOf i).toNat)
  case atStart => exact ⟨0, by omega, rfl, ((Below.refl _ _).alloc (Nat.le_refl _) _).alloc (by simp) _, heap_alloc2_new _ _ _, heap_alloc2_old _ _ _⟩
  case round =>
    obtain ⟨k, hk, rfl, hb, hR, hA⟩ := hrel
    by_cases hlt : k < n
    · obtain ⟨at', hat⟩ : ∃ m : Nat, m = 64 * k := ⟨_, rfl⟩
      have hle : at' + 64 ≤ s.size := by have := H0.out; omega
      rw [← hat]
      have HAT : Hid (at' = 64 * k) := hat
      clear hat
      obtain ⟨x, hx⟩ : ∃ x, pcs kt s st k = x := ⟨_, rfl⟩
      have HX : Hid (pcs kt s st k = x) := hx
      rw [hx] at hA
      clear hx
      obtain ⟨c0, c1, c2, c3, c4, c5, c6, c7, cf⟩ := hA.cells8
      have hge : w.heap.size + 2 ≤ wr.heap.size := by have := hR.lt; omega
      obtain ⟨q, HQ, hq, hsl⟩ : ∃ q, Hid (q = piece s k) ∧ q.size = 64 ∧ ∀ W, (Instr.slice 9 (.string s) (some (.int .i64 (at' : Int))) (some (.int .i64 ((at' : Int) + 64))) none).run Tryz.prog W = .ok (.string q) W := by
        refine ⟨piece s k, rfl, piece_size s k (by have := HAT.out; omega), fun W => ?_⟩
        rw [run_slice_string W 9 s .i64 .i64 _ _ Tryz.underlying9 (by omega) (by omega) (by omega)]
        have e1 : ((at' : Int)).toNat = 64 * k := by have := HAT.out; omega
        have e2 : ((at' : Int) + 64).toNat = 64 * k + 64 := by have := HAT.out; omega
        rw [e1, e2]; rfl
      have hwp : IntKind.i64.wrap ((at' : Int) + 64) = (at' : Int) + 64 := by rw [IntKind.wrap_i64]; omega
      go_wp2
      have hTr : Tab wr.drew 2 kt := Tab.below HT.out hb.drew (by omega)
      have h3r : 4 ≤ wr.drew.heap.size := by show 4 ≤ wr.heap.size; omega
      have hltb : w.heap.size < wr.drew.heap.size := by show w.heap.size < wr.heap.size; omega
      go_region_with (go_at_call 226; refine (mix_lit kt x q wr.drew hq hTr h3r).mono ?_; rintro e w' ⟨y, hy, rfl, hb'⟩; obtain ⟨d0, d1, d2, d3, d4, d5, d6, d7, df⟩ := (hA.drew.below hb' hltb).cells8)
      go_wp2
      go_roundw
      case rel =>
        refine ⟨k + 1, by omega, by have := HAT.out; go_num, put8_below (hb.drew.trans (hb'.mono (Nat.le_of_lt hltb))), put8_other ((hR.drew).below hb' (by show w.heap.size + 1 < wr.heap.size; omega)) (by simp), ?_⟩
        have e : pcs kt s st (k + 1) = y := by
          show press kt (wrd (iniR (piece s k))) (pcs kt s st k) = y
          rw [hy.out, HX.out, HQ.out]
        rw [e]
        exact put8 (hA.drew.below hb' hltb)
      case measure => have := HAT.out; have := H0.out; simp [intOf]; omega
    · have hkn : k = n := by omega
      subst hkn
      obtain ⟨x, hx⟩ : ∃ x, pcs kt s st k = x := ⟨_, rfl⟩
      have HX : Hid (pcs kt s st k = x) := hx
      rw [hx] at hA
      clear hx
      obtain ⟨m, hm⟩ : ∃ m : Nat, m = 64 * k := ⟨_, rfl⟩
      rw [← hm]
      have hms : s.size ≤ m := by have := H0.out; omega
      clear hm
      have hld8 : (Tryz.prog.info? 294).map (·.size) = some (row 8 x).size := by rw [row_size]; exact info26
      have hold8 : (row 8 (fun _ => 0)).size = (row 8 x).size := by simp [row_size]
      go_wp2_with (first | (refine wpList_load_row rfl 294 (.tmp 2) rfl w.heap.size rfl 294 (row 8 x) (0, 0) _ hA Tryz.underlying294 rfl hld8 ?_) | (refine wpList_store_row rfl 294 (.tmp 4) (.tmp 19) rfl (w.heap.size + 1) (row 8 x) rfl rfl 294 (row 8 fun _ => 0) hR hld8 hold8 (row_ones _ _) ?_))
      refine bodyPost_ret (v := .agg (row 8 x)) ?_ rfl ?_
      · exact results_cell_row Tryz.results186 _ _ (w.heap.size + 1) 294 (row 8 x) (0, 0) _ rfl (setRow_heap wr (w.heap.size + 1) _ _ 294 (0, 0) hR) Tryz.underlying294 rfl hld8
      · rw [HX.out]
        exact ⟨rfl, below_setRow hb _ (by omega) _⟩
end Go.Proofs.YtadinjaocnlglaaGreatDoor
namespace Go.Proofs.YtadinjaocnlglaaGreatDoor
open Go.RowKit
theorem make64 (w : World) : (Instr.makeSlice 165 (.int .i64 64) (.int .i64 64)).run Tryz.prog w = .ok (.slice (some ⟨w.heap.size, 0, none⟩) 64 64) (w.alloc (.cells (Array.replicate 64 (.int .u8 0)) 5)) := by kernel_rfl
theorem make128 (w : World) : (Instr.makeSlice 165 (.int .i64 128) (.int .i64 128)).run Tryz.prog w = .ok (.slice (some ⟨w.heap.size, 0, none⟩) 128 128) (w.alloc (.cells (Array.replicate 128 (.int .u8 0)) 5)) := by kernel_rfl
theorem bzeros (n : Nat) : Array.replicate n (Value.int .u8 0) = brow n (fun _ => 0) := by
  apply Array.ext
  · simp [brow]
  · intro i h1 h2; simp [brow]
/-- the padding, k bytes of the length in place -/
def padS (s : ByteArray) (n sz k j : Nat) : Int :=
  if sz - k ≤ j then (n : Int) * 8 / 2 ^ (8 * (sz - 1 - j)) % 256 else if j < s.size then byt s j else if j = s.size then 128 else 0
theorem pad_0 (s : ByteArray) (n sz j : Nat) (hj : j < sz) : upd (over s fun _ => 0) s.size 128 j = padS s n sz 0 j := by
  unfold upd over padS
  rw [if_neg (show ¬ sz - 0 ≤ j by omega)]
  by_cases h1 : j = s.size
  · rw [if_pos h1, if_neg (by omega), if_pos h1]
  · rw [if_neg h1]
    by_cases h2 : j < s.size
    · rw [if_pos h2, if_pos h2]
    · rw [if_neg h2, if_neg h2, if_neg h1]
theorem pad_step (s : ByteArray) (n sz k j : Nat) (hk : k < sz) (hj : j < sz) : upd (padS s n sz k) (sz - 1 - k) ((n : Int) * 8 / 2 ^ (8 * k) % 256) j = padS s n sz (k + 1) j := by
  unfold upd
  by_cases h1 : j = sz - 1 - k
  · rw [if_pos h1]
    unfold padS
    rw [if_pos (by omega), show sz - 1 - j = k by omega]
  · rw [if_neg h1]
    unfold padS
    by_cases h2 : sz - k ≤ j
    · rw [if_pos h2, if_pos (by omega)]
    · rw [if_neg h2, if_neg (show ¬ sz - (k + 1) ≤ j by omega)]
set_option maxHeartbeats 1000000 in
set_option maxRecDepth 100000 in
theorem padded_lo (s : ByteArray) (n : Nat) (w : World) (h0 : s.size < 56) (hn : n ≤ 140737488355328) :
    Calls Tryz.prog 187 #[.string s, .int .i64 n] w fun e w' => e = .returned (.string (txt 64 (padS s n 64 8))) ∧ Below w.heap.size w w' := by
  have hmk := make64
  have hB : Byts (w.alloc (.cells (Array.replicate 64 (.int .u8 0)) 5)) w.heap.size 64 (fun _ => 0) := by unfold Byts; rw [← bzeros]; exact heap_alloc_new _ _
  go_enter Tryz.func187, Tryz.ntmps187
  go_wp2_with (refine wpList_copy_text rfl (.tmp 16) (.tmp 17) rfl w.heap.size 64 64 (fun _ => 0) hB s (by omega) rfl rfl ?_; intro w2 hw2; (have hB2 : Byts w2 w.heap.size 64 (over s fun _ => 0) := by rw [hw2.out]; exact byts_setRow _ hB); have hcs := hB2.cell s.size (by omega); have hfs := hB2.free s.size)
  have hw2b : Below w.heap.size w w2 := by rw [hw2.out]; exact below_setRow ((Below.refl _ _).alloc (Nat.le_refl _) _) _ (Nat.le_refl _) _
  have hP : Byts (w2.setCell ⟨w.heap.size, s.size, none⟩ (.int .u8 128)) w.heap.size 64 (padS s n 64 0) := (hB2.put s.size 128).to (fun j hj => pad_0 s n 64 j hj)
  have hb3 : Below w.heap.size w (w2.setCell ⟨w.heap.size, s.size, none⟩ (.int .u8 128)) := hw2b.setCell (Nat.le_refl _) _
  go_loopw [26] (fun i wr => ∃ k : Nat, k ≤ 8 ∧ i = .int .i64 k ∧ Below w.heap.size w wr ∧ Byts wr w.heap.size 64 (padS s n 64 k)) (fun i _ => 8 - (intOf i).toNat)
  case atStart => exact ⟨0, by omega, rfl, hb3, hP⟩
  case round =>
    clear hw2 hB2 hcs hfs hw2b hP hb3 hB
    obtain ⟨k, hk, rfl, hb, hP⟩ := hrel
    by_cases hlt : k < 8
    · have c1 := hP.cell (64 - 1 - k) (by omega)
      have c2 := hP.free (64 - 1 - k)
      go_wp2
      go_roundw
      case rel => exact ⟨k + 1, by omega, by go_num, hb.setCell (Nat.le_refl _) _, (hP.put (64 - 1 - k) _).to (fun j hj => pad_step s n 64 k j (by omega) hj)⟩
      case measure => simp [intOf]; omega
    · have hk8 : k = 8 := by omega
      subst hk8
      have hcv := convert_byts hP 64
      go_wp2
      go_ret
      exact ⟨rfl, hb⟩
set_option maxHeartbeats 1000000 in
set_option maxRecDepth 100000 in
theorem padded_hi (s : ByteArray) (n : Nat) (w : World) (h0 : 56 ≤ s.size) (h1 : s.size < 64) (hn : n ≤ 140737488355328) :
    Calls Tryz.prog 187 #[.string s, .int .i64 n] w fun e w' => e = .returned (.string (txt 128 (padS s n 128 8))) ∧ Below w.heap.size w w' := by
  have hmk := make128
  have hB : Byts (w.alloc (.cells (Array.replicate 128 (.int .u8 0)) 5)) w.heap.size 128 (fun _ => 0) := by unfold Byts; rw [← bzeros]; exact heap_alloc_new _ _
  go_enter Tryz.func187, Tryz.ntmps187
  go_wp2_with (refine wpList_copy_text rfl (.tmp 16) (.tmp 17) rfl w.heap.size 128 128 (fun _ => 0) hB s (by omega) rfl rfl ?_; intro w2 hw2; (have hB2 : Byts w2 w.heap.size 128 (over s fun _ => 0) := by rw [hw2.out]; exact byts_setRow _ hB); have hcs := hB2.cell s.size (by omega); have hfs := hB2.free s.size)
  have hw2b : Below w.heap.size w w2 := by rw [hw2.out]; exact below_setRow ((Below.refl _ _).alloc (Nat.le_refl _) _) _ (Nat.le_refl _) _
  have hP : Byts (w2.setCell ⟨w.heap.size, s.size, none⟩ (.int .u8 128)) w.heap.size 128 (padS s n 128 0) := (hB2.put s.size 128).to (fun j hj => pad_0 s n 128 j hj)
  have hb3 : Below w.heap.size w (w2.setCell ⟨w.heap.size, s.size, none⟩ (.int .u8 128)) := hw2b.setCell (Nat.le_refl _) _
  go_loopw [26] (fun i wr => ∃ k : Nat, k ≤ 8 ∧ i = .int .i64 k ∧ Below w.heap.size w wr ∧ Byts wr w.heap.size 128 (padS s n 128 k)) (fun i _ => 8 - (intOf i).toNat)
  case atStart => exact ⟨0, by omega, rfl, hb3, hP⟩
  case round =>
    clear hw2 hB2 hcs hfs hw2b hP hb3 hB
    obtain ⟨k, hk, rfl, hb, hP⟩ := hrel
    by_cases hlt : k < 8
    · have c1 := hP.cell (128 - 1 - k) (by omega)
      have c2 := hP.free (128 - 1 - k)
      go_wp2
      go_roundw
      case rel => exact ⟨k + 1, by omega, by go_num, hb.setCell (Nat.le_refl _) _, (hP.put (128 - 1 - k) _).to (fun j hj => pad_step s n 128 k j (by omega) hj)⟩
      case measure => simp [intOf]; omega
    · have hk8 : k = 8 := by omega
      subst hk8
      have hcv := convert_byts hP 128
      go_wp2
      go_ret
      exact ⟨rfl, hb⟩
end Go.Proofs.YtadinjaocnlglaaGreatDoor
namespace Go.Proofs.YtadinjaocnlglaaGreatDoor
open Go.RowKit
def hini : Nat → Int
  | 0 => 1779033703
  | 1 => 3144134277
  | 2 => 1013904242
  | 3 => 2773480762
  | 4 => 1359893119
  | 5 => 2600822924
  | 6 => 528734635
  | _ => 1541459225
theorem mixAll_lit (kt : Nat → Int) (st : Nat → Int) (s : ByteArray) (n : Nat) (w : World) (h0 : s.size = 64 * n) (hn : n ≤ 2199023255552) (hT : Tab w 2 kt) (h3 : 4 ≤ w.heap.size) :
    Calls Tryz.prog 186 #[.agg #[.int .u32 (st 0), .int .u32 (st 1), .int .u32 (st 2), .int .u32 (st 3), .int .u32 (st 4), .int .u32 (st 5), .int .u32 (st 6), .int .u32 (st 7)], .string s] w fun e w' => ∃ y, Hid (y = pcs kt s st n) ∧
      e = .returned (.agg #[.int .u32 (y 0), .int .u32 (y 1), .int .u32 (y 2), .int .u32 (y 3), .int .u32 (y 4), .int .u32 (y 5), .int .u32 (y 6), .int .u32 (y 7)]) ∧ Below w.heap.size w w' :=
  (mixAll_any kt st s n w h0 hn hT h3).mono fun _ _ h => ⟨_, rfl, h.1, h.2⟩
/-- the padded rest of a text -/
def padT (s : ByteArray) (n : Nat) : ByteArray := if s.size < 56 then txt 64 (padS s n 64 8) else txt 128 (padS s n 128 8)
def padN (s : ByteArray) : Nat := if s.size < 56 then 1 else 2
theorem txt_size (n : Nat) (f : Nat → Int) : (txt n f).size = n := by simp [txt, strOfNums_size]
theorem padT_size (s : ByteArray) (n : Nat) : (padT s n).size = 64 * padN s := by
  unfold padT padN
  by_cases h : s.size < 56
  · rw [if_pos h, if_pos h, txt_size]
  · rw [if_neg h, if_neg h, txt_size]
theorem padN_le (s : ByteArray) : padN s ≤ 2 := by
  unfold padN; split <;> omega
theorem padded_at (s : ByteArray) (n : Nat) (w : World) (h0 : s.size < 64) (hn : n ≤ 140737488355328) :
    Calls Tryz.prog 187 #[.string s, .int .i64 n] w fun e w' => e = .returned (.string (padT s n)) ∧ Below w.heap.size w w' := by
  unfold padT
  by_cases h : s.size < 56
  · rw [if_pos h]; exact padded_lo s n w h hn
  · rw [if_neg h]; exact padded_hi s n w (by omega) h0 hn
/-- the digest as the program makes it -/
def ofT (kt : Nat → Int) (s : ByteArray) : ByteArray :=
  strOfNums (tl (pcs kt (padT (s.extract (64 * (s.size / 64)) s.size) s.size) (pcs kt (s.extract 0 (64 * (s.size / 64))) hini (s.size / 64)) (padN (s.extract (64 * (s.size / 64)) s.size))) 8)
set_option maxHeartbeats 1000000 in
set_option maxRecDepth 100000 in
theorem of_any (kt : Nat → Int) (s : ByteArray) (w : World) (hs : s.size ≤ 140737488351232) (hT : Tab w 2 kt) (h3 : 4 ≤ w.heap.size) :
    Calls Tryz.prog 125 #[.string s] w fun e w' => e = .returned (.string (ofT kt s)) ∧ Below w.heap.size w w' := by
  have HT : Hid _ := hT
  clear hT
  obtain ⟨n, hn⟩ : ∃ n, n = s.size / 64 := ⟨_, rfl⟩
  obtain ⟨wh, hwh⟩ : ∃ wh, wh = 64 * n := ⟨_, rfl⟩
  have hwe : ((s.size : Int) - (s.size : Int) % 64) = (wh : Int) := by omega
  have hwl : wh ≤ s.size := by omega
  have hwr : s.size - wh < 64 := by omega
  obtain ⟨q1, HQ1, hq1, hsl1⟩ : ∃ q, Hid (q = s.extract 0 wh) ∧ q.size = 64 * n ∧ ∀ W, (Instr.slice 9 (.string s) none (some (.int .i64 (wh : Int))) none).run Tryz.prog W = .ok (.string q) W := by
    refine ⟨s.extract 0 wh, rfl, by rw [ByteArray.size_extract]; omega, fun W => ?_⟩
    rw [run_slice_string_to_if W 9 s .i64 _ Tryz.underlying9, if_pos ⟨by omega, by omega⟩, Int.toNat_natCast]
  obtain ⟨q2, HQ2, hq2, hsl2⟩ : ∃ q, Hid (q = s.extract wh s.size) ∧ q.size < 64 ∧ ∀ W, (Instr.slice 9 (.string s) (some (.int .i64 (wh : Int))) none none).run Tryz.prog W = .ok (.string q) W := by
    refine ⟨s.extract wh s.size, rfl, by rw [ByteArray.size_extract]; omega, fun W => ?_⟩
    rw [run_slice_string_from_if W 9 s .i64 _ Tryz.underlying9, if_pos ⟨by omega, by omega⟩, Int.toNat_natCast]
  have hnn : n ≤ 2199023255552 := by omega
  have HWH : Hid (wh = 64 * (s.size / 64)) := by rw [hwh, hn]; rfl
  have HN : Hid (n = s.size / 64) := hn
  have HQ1S : Hid (q1.size = 64 * n) := hq1
  have HWE : Hid (((s.size : Int) - (s.size : Int) % 64) = (wh : Int)) := hwe
  clear hn hwh hq1 hwe
  go_enter Tryz.func125, Tryz.ntmps125
  go_wp2
  rw [HWE.out]
  obtain ⟨w1, hw1⟩ : ∃ w1, w1 = w.alloc (Obj.cells #[Value.int IntKind.u32 1779033703, Value.int IntKind.u32 3144134277, Value.int IntKind.u32 1013904242, Value.int IntKind.u32 2773480762, Value.int IntKind.u32 1359893119, Value.int IntKind.u32 2600822924, Value.int IntKind.u32 528734635, Value.int IntKind.u32 1541459225] 294) := ⟨_, rfl⟩
  rw [← hw1]
  have hA1 : Words w1 w.heap.size 8 294 hini := by rw [hw1]; exact heap_alloc_new _ _
  have hB1 : Below w.heap.size w w1 := by rw [hw1]; exact (Below.refl _ _).alloc (Nat.le_refl _) _
  clear hw1
  obtain ⟨x, hx⟩ : ∃ x, x = hini := ⟨_, rfl⟩
  have HX : Hid (x = hini) := hx
  rw [← hx] at hA1
  clear hx
  have hlt1 : w.heap.size < w1.heap.size := hA1.lt
  have hTr : Tab w1.drew 2 kt := Tab.below HT.out hB1.drew (by omega)
  have h3r : 4 ≤ w1.drew.heap.size := by show 4 ≤ w1.heap.size; omega
  have hltb : w.heap.size < w1.drew.heap.size := hlt1
  obtain ⟨c0, c1, c2, c3, c4, c5, c6, c7, cf⟩ := hA1.cells8
  go_region_with (go_at_call 186; refine (mixAll_lit kt x q1 n w1.drew HQ1S.out hnn hTr h3r).mono ?_; rintro e w' ⟨y, hy, rfl, hb'⟩; obtain ⟨d0, d1, d2, d3, d4, d5, d6, d7, df⟩ := (hA1.drew.below hb' hltb).cells8)
  go_wp2
  obtain ⟨w2, hw2⟩ : ∃ w2, w2 = (((((((w'.setCell ⟨w.heap.size, 0, none⟩ (Value.int IntKind.u32 (y 0))).setCell ⟨w.heap.size, 1, none⟩ (Value.int IntKind.u32 (y 1))).setCell ⟨w.heap.size, 2, none⟩ (Value.int IntKind.u32 (y 2))).setCell ⟨w.heap.size, 3, none⟩ (Value.int IntKind.u32 (y 3))).setCell ⟨w.heap.size, 4, none⟩ (Value.int IntKind.u32 (y 4))).setCell ⟨w.heap.size, 5, none⟩ (Value.int IntKind.u32 (y 5))).setCell ⟨w.heap.size, 6, none⟩ (Value.int IntKind.u32 (y 6))).setCell ⟨w.heap.size, 7, none⟩ (Value.int IntKind.u32 (y 7)) := ⟨_, rfl⟩
  rw [← hw2]
  have hA2 : Words w2 w.heap.size 8 294 y := by rw [hw2]; exact put8 (hA1.drew.below hb' hltb)
  have hB2 : Below w.heap.size w w2 := by rw [hw2]; exact put8_below (hB1.drew.trans (hb'.mono (Nat.le_of_lt hltb)))
  clear hw2 d0 d1 d2 d3 d4 d5 d6 d7 df hb' c0 c1 c2 c3 c4 c5 c6 c7 cf hA1 hB1 hTr h3r hltb hlt1 hsl1
  have hlt2 : w.heap.size < w2.drew.heap.size := hA2.lt
  have hTr : Tab w2.drew 2 kt := Tab.below HT.out hB2.drew (by omega)
  have h3r : 4 ≤ w2.drew.heap.size := by omega
  have hns : s.size ≤ 140737488355328 := by omega
  have hpn := padN_le q2
  have hpnn : padN q2 ≤ 2199023255552 := by omega
  have HPS : Hid _ := padT_size q2 s.size
  obtain ⟨p, hp⟩ : ∃ p, padT q2 s.size = p := ⟨_, rfl⟩
  have HP : Hid (padT q2 s.size = p) := hp
  have hpad := fun W => padded_at q2 s.size W hq2 hns
  simp only [hp] at hpad
  have HPD : Hid _ := hpad
  have HPZ : Hid (p.size = 64 * padN q2) := by rw [← hp]; exact padT_size q2 s.size
  clear hp hpad HPS
  obtain ⟨c0, c1, c2, c3, c4, c5, c6, c7, cf⟩ := hA2.cells8
  go_region_with (first | (go_at_call 187; refine (HPD.out _).mono ?_; rintro e w5 ⟨rfl, hb5⟩; have hA5 := hA2.drew.below hb5 hlt2; have hT5 := Tab.below hTr hb5 (by omega); have h35 := Nat.le_trans h3r hb5.size; have hlt5 := Nat.lt_of_lt_of_le hlt2 hb5.size; obtain ⟨e0, e1, e2, e3, e4, e5, e6, e7, ef⟩ := hA5.cells8) | (go_at_call 186; refine (mixAll_lit kt y p (padN q2) w5 HPZ.out hpnn hT5 h35).mono ?_; rintro e w6 ⟨z, hz, rfl, hb6⟩; obtain ⟨f0, f1, f2, f3, f4, f5, f6, f7, ff⟩ := (hA5.below hb6 hlt5).cells8))
  all_goals
    have hA7 := put8 (y := z) (hA5.below hb6 hlt5)
    have hB7 := put8_below (y := z) ((hB2.drew.trans (hb5.mono (Nat.le_of_lt hlt2))).trans (hb6.mono (Nat.le_of_lt hlt5)))
    have hld8 : (Tryz.prog.info? 294).map (·.size) = some (row 8 z).size := by rw [row_size]; exact info26
    clear e0 e1 e2 e3 e4 e5 e6 e7 ef f0 f1 f2 f3 f4 f5 f6 f7 ff c0 c1 c2 c3 c4 c5 c6 c7 cf
    go_wp2_with (first | (refine wpList_load_row rfl 294 (.tmp 3) rfl w.heap.size rfl 294 (row 8 z) (0, 0) _ hA7 Tryz.underlying294 rfl hld8 ?_) | (go_at_call 188; refine (told_any z _).mono ?_; rintro e w7 ⟨rfl, hb7⟩))
    go_ret
    refine ⟨?_, hB7.trans (hb7.mono (by have := hA7.lt; omega))⟩
    unfold ofT
    rw [← HWH.out, ← HN.out, ← HQ1.out, ← HQ2.out, HP.out, ← HX.out, ← hy.out, ← hz.out]
    rfl
end Go.Proofs.YtadinjaocnlglaaGreatDoor
namespace Go.Proofs.YtadinjaocnlglaaGreatDoor
open Go.RowKit
end Go.Proofs.YtadinjaocnlglaaGreatDoor
namespace Go.Proofs.YtadinjaocnlglaaGreatDoor
open Go.RowKit
end Go.Proofs.YtadinjaocnlglaaGreatDoor
namespace Go.Proofs.YtadinjaocnlglaaGreatDoor
open Go.RowKit
/-- the program's table -/
structure Gd (kt : Nat → Int) (w : World) : Prop where
  tab : Tab w 2 kt
  one : 4 ≤ w.heap.size
theorem Gd.below {kt : Nat → Int} {w w' : World} (h : Gd kt w) (hb : Below w.heap.size w w') : Gd kt w' :=
  ⟨h.tab.below hb (by have := h.one; omega), Nat.le_trans h.one hb.size⟩
/-- the reference's tables -/
structure Gr (kt : Nat → Int) (w : World) : Prop where
  ref : Tab w 3 kt
  first : ∀ j, j < 8 → w.cell? ⟨1, j, none⟩ = some (.int .u32 (hini j))
  one : 4 ≤ w.heap.size
theorem Gr.below {kt : Nat → Int} {w w' : World} (h : Gr kt w) (hb : Below w.heap.size w w') : Gr kt w' :=
  ⟨h.ref.below hb (by have := h.one; omega), fun j hj => (hb.cell (p := ⟨1, j, none⟩) (by have := h.one; show 1 < w.heap.size; omega)).trans (h.first j hj), Nat.le_trans h.one hb.size⟩
/-- the type that errors.As asks -/
structure Ge (w : World) : Prop where
  err : w.cell? ⟨0, 0, none⟩ = some (.iface 376 (.agg #[.pointer (some ⟨7, 63, none⟩)]))
theorem Ge.below {w w' : World} (h : Ge w) (hb : Below w.heap.size w w') : Ge w' :=
  ⟨(hb.cell (p := ⟨0, 0, none⟩) (block_lt_of_cell h.err)).trans h.err⟩
end Go.Proofs.YtadinjaocnlglaaGreatDoor
/-
  Plain: trees over texts: the greatest power of two below n, the top, the path, the climb.
-/
namespace Go.Proofs.YtadinjaocnlglaaGreatDoor
/-- the greatest power of two below n (n above 1) -/
def hf (n : Nat) : Nat := 2 ^ Nat.log2 (n - 1)
theorem hf_pos (n : Nat) : 0 < hf n := Nat.two_pow_pos _
theorem hf_lt (n : Nat) (h : 2 ≤ n) : hf n < n := by
  have := Nat.log2_self_le (n := n - 1) (by omega)
  unfold hf; omega
def jn (D : ByteArray → ByteArray) (a b : ByteArray) : ByteArray := D (⟨#[1]⟩ ++ a ++ b)
def topT (D : ByteArray → ByteArray) (n : Nat) (L : Nat → ByteArray) : ByteArray :=
  if _h : n < 2 then (if n = 0 then D ⟨#[]⟩ else L 0)
  else
    have _h1 : hf n < n := hf_lt n (by omega)
    have _h2 : 0 < hf n := hf_pos n
    jn D (topT D (hf n) L) (topT D (n - hf n) (fun j => L (hf n + j)))
theorem topT_0 (D : ByteArray → ByteArray) (L : Nat → ByteArray) : topT D 0 L = D ⟨#[]⟩ := by rw [topT]; rfl
theorem topT_1 (D : ByteArray → ByteArray) (L : Nat → ByteArray) : topT D 1 L = L 0 := by rw [topT]; rfl
theorem topT_n (D : ByteArray → ByteArray) (n : Nat) (L : Nat → ByteArray) (h : 2 ≤ n) : topT D n L = jn D (topT D (hf n) L) (topT D (n - hf n) (fun j => L (hf n + j))) := by
  rw [topT, dif_neg (by omega)]
theorem topT_le (D : ByteArray → ByteArray) (k : Nat) (hD : ∀ s, (D s).size ≤ k) (n : Nat) (L : Nat → ByteArray) (h : ∀ i, i < n → (L i).size ≤ k) : (topT D n L).size ≤ k := by
  by_cases h0 : n = 0
  · rw [h0, topT_0]; exact hD _
  · by_cases h1 : n = 1
    · rw [h1, topT_1]; exact h 0 (by omega)
    · rw [topT_n D n L (by omega)]; exact hD _
theorem topT_congr (D : ByteArray → ByteArray) : ∀ (m n : Nat) (L M : Nat → ByteArray), n ≤ m → (∀ i, i < n → L i = M i) → topT D n L = topT D n M
  | 0, n, L, M, h, e => by obtain rfl : n = 0 := by omega
                           rw [topT_0, topT_0]
  | m + 1, n, L, M, h, e => by
    by_cases h0 : n = 0
    · rw [h0, topT_0, topT_0]
    · by_cases h1 : n = 1
      · rw [h1, topT_1, topT_1]; exact e 0 (by omega)
      · have h3 := hf_lt n (by omega)
        have h4 := hf_pos n
        rw [topT_n D n L (by omega), topT_n D n M (by omega), topT_congr D m (hf n) L M (by omega) (fun i hi => e i (by omega)), topT_congr D m (n - hf n) (fun j => L (hf n + j)) (fun j => M (hf n + j)) (by omega) (fun i hi => e _ (by omega))]
end Go.Proofs.YtadinjaocnlglaaGreatDoor
