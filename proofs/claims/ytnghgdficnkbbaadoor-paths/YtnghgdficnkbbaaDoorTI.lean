/-
  The walk of digest.mixAll.
-/
import Derived.Test.YtnghgdficnkbbaaDoorTF
import Derived.Test.YtnghgdficnkbbaaDoorTH
import Derived.WalkKit
import Derived.WalkSpells
import Derived.WalkLawsBesides
import Derived.BigRegion
import Derived.BigQuiet
import Derived.Deep.QuietTactic
import Derived.Deep.RegionWith
namespace Go.Proofs.YtnghgdficnkbbaaDoor
open Go.RowKit
theorem mix_at (kt : Nat → Int) (st : Nat → Int) (s : ByteArray) (w : World) (h0 : s.size = 64) (hT : Tab w 0 kt) (h3 : 1 ≤ w.heap.size) :
    Calls Tryd.prog 31 #[.agg (row 8 st), .string s] w fun e w' => e = .returned (.agg (row 8 (press kt (wrd (iniR s)) st))) ∧ Below w.heap.size w w' := by
  rw [← wrd_eq]; exact mix_any kt st s w h0 hT h3
theorem mix_lit (kt : Nat → Int) (st : Nat → Int) (s : ByteArray) (w : World) (h0 : s.size = 64) (hT : Tab w 0 kt) (h3 : 1 ≤ w.heap.size) :
    Calls Tryd.prog 31 #[.agg #[.int .u32 (st 0), .int .u32 (st 1), .int .u32 (st 2), .int .u32 (st 3), .int .u32 (st 4), .int .u32 (st 5), .int .u32 (st 6), .int .u32 (st 7)], .string s] w fun e w' => ∃ y, Hid (y = press kt (wrd (iniR s)) st) ∧
      e = .returned (.agg #[.int .u32 (y 0), .int .u32 (y 1), .int .u32 (y 2), .int .u32 (y 3), .int .u32 (y 4), .int .u32 (y 5), .int .u32 (y 6), .int .u32 (y 7)]) ∧ Below w.heap.size w w' :=
  (mix_at kt st s w h0 hT h3).mono fun _ _ h => ⟨_, rfl, h.1, h.2⟩
set_option maxHeartbeats 1000000 in
set_option maxRecDepth 100000 in
theorem mixAll_any (kt : Nat → Int) (st : Nat → Int) (s : ByteArray) (n : Nat) (w : World) (h0 : s.size = 64 * n) (hn : n ≤ 2199023255552) (hT : Tab w 0 kt) (h3 : 1 ≤ w.heap.size) :
    Calls Tryd.prog 19 #[.agg (row 8 st), .string s] w fun e w' => e = .returned (.agg (row 8 (pcs kt s st n))) ∧ Below w.heap.size w w' := by
  have HT : Hid _ := hT
  clear hT
  have H0 : Hid _ := h0
  have hsz : s.size ≤ 140737488355328 := by omega
  clear h0
  go_enter Tryd.func19, Tryd.ntmps19
  go_wp2
  go_loopw [5] (fun i wr => ∃ k : Nat, k ≤ n ∧ i = .int .i64 ((64 * k : Nat) : Int) ∧ Below w.heap.size w wr ∧ Words wr (w.heap.size + 1) 8 38 (fun _ => 0) ∧ Words wr w.heap.size 8 38 (pcs kt s st k)) (fun i _ => s.size - (intOf i).toNat)
  case atStart => exact ⟨0, by omega, rfl, ((Below.refl _ _).alloc (Nat.le_refl _) _).alloc (by simp) _, heap_alloc2_new _ _ _, heap_alloc2_old _ _ _⟩
  case round =>
    obtain ⟨k, hk, rfl, hb, hR, hA⟩ := hrel
    by_cases hlt : k < n
    · obtain ⟨at', hat⟩ : ∃ m : Nat, m = 64 * k := ⟨_, rfl⟩
      have hle : at' + 64 ≤ s.size := by have := H0.out; omega
      rw [← hat]
      have HAT : Hid (at' = 64 * k) := hat
      clear hat
      obtain ⟨x, hx⟩ : ∃ x, pcs kt s st k = x := ⟨_, rfl⟩
      have HX : Hid (pcs kt s st k = x) := hx
      rw [hx] at hA
      clear hx
      obtain ⟨c0, c1, c2, c3, c4, c5, c6, c7, cf⟩ := hA.cells8
      have hge : w.heap.size + 2 ≤ wr.heap.size := by have := hR.lt; omega
      obtain ⟨q, HQ, hq, hsl⟩ : ∃ q, Hid (q = piece s k) ∧ q.size = 64 ∧ ∀ W, (Instr.slice 9 (.string s) (some (.int .i64 (at' : Int))) (some (.int .i64 ((at' : Int) + 64))) none).run Tryd.prog W = .ok (.string q) W := by
        refine ⟨piece s k, rfl, piece_size s k (by have := HAT.out; omega), fun W => ?_⟩
        rw [run_slice_string W 9 s .i64 .i64 _ _ Tryd.underlying9 (by omega) (by omega) (by omega)]
        have e1 : ((at' : Int)).toNat = 64 * k := by have := HAT.out; omega
        have e2 : ((at' : Int) + 64).toNat = 64 * k + 64 := by have := HAT.out; omega
        rw [e1, e2]; rfl
      have hwp : IntKind.i64.wrap ((at' : Int) + 64) = (at' : Int) + 64 := by rw [IntKind.wrap_i64]; omega
      go_wp2
      have hTr : Tab wr.drew 0 kt := Tab.below HT.out hb.drew (by omega)
      have h3r : 1 ≤ wr.drew.heap.size := by show 1 ≤ wr.heap.size; omega
      have hltb : w.heap.size < wr.drew.heap.size := by show w.heap.size < wr.heap.size; omega
      go_region_with (go_at_call 31; refine (mix_lit kt x q wr.drew hq hTr h3r).mono ?_; rintro e w' ⟨y, hy, rfl, hb'⟩; obtain ⟨d0, d1, d2, d3, d4, d5, d6, d7, df⟩ := (hA.drew.below hb' hltb).cells8)
      go_wp2
      go_roundw
      case rel =>
        refine ⟨k + 1, by omega, by have := HAT.out; go_num, put8_below (hb.drew.trans (hb'.mono (Nat.le_of_lt hltb))), put8_other ((hR.drew).below hb' (by show w.heap.size + 1 < wr.heap.size; omega)) (by simp), ?_⟩
        have e : pcs kt s st (k + 1) = y := by
          show press kt (wrd (iniR (piece s k))) (pcs kt s st k) = y
          rw [hy.out, HX.out, HQ.out]
        rw [e]
        exact put8 (hA.drew.below hb' hltb)
      case measure => have := HAT.out; have := H0.out; simp [intOf]; omega
    · have hkn : k = n := by omega
      subst hkn
      obtain ⟨x, hx⟩ : ∃ x, pcs kt s st k = x := ⟨_, rfl⟩
      have HX : Hid (pcs kt s st k = x) := hx
      rw [hx] at hA
      clear hx
      obtain ⟨m, hm⟩ : ∃ m : Nat, m = 64 * k := ⟨_, rfl⟩
      rw [← hm]
      have hms : s.size ≤ m := by have := H0.out; omega
      clear hm
      have hld8 : (Tryd.prog.info? 38).map (·.size) = some (row 8 x).size := by rw [row_size]; exact info26
      have hold8 : (row 8 (fun _ => 0)).size = (row 8 x).size := by simp [row_size]
      go_wp2_with (first | (refine wpList_load_row rfl 38 (.tmp 2) rfl w.heap.size rfl 38 (row 8 x) (0, 0) _ hA Tryd.underlying38 rfl hld8 ?_) | (refine wpList_store_row rfl 38 (.tmp 4) (.tmp 19) rfl (w.heap.size + 1) (row 8 x) rfl rfl 38 (row 8 fun _ => 0) hR hld8 hold8 (row_ones _ _) ?_))
      refine bodyPost_ret (v := .agg (row 8 x)) ?_ rfl ?_
      · exact results_cell_row Tryd.results19 _ _ (w.heap.size + 1) 38 (row 8 x) (0, 0) _ rfl (setRow_heap wr (w.heap.size + 1) _ _ 38 (0, 0) hR) Tryd.underlying38 rfl hld8
      · rw [HX.out]
        exact ⟨rfl, below_setRow hb _ (by omega) _⟩
end Go.Proofs.YtnghgdficnkbbaaDoor
