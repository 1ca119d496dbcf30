/-
  The walk of vaultref.Digest.
  The two digests are one: plain facts on bytes.
  What the walks need of the world: the tables, and the type that errors.As asks. Both digests.
  U0
-/
import Derived.Test.YtadinjaocnlglaaGreatDoorZ04
import Derived.Test.YtadinjaocnlglaaGreatDoorZ10
import Derived.Test.YtadinjaocnlglaaGreatDoorZ11
import Derived.WalkKit
import Derived.WalkSpells
import Derived.WalkLawsBesides
import Derived.BigRegion
import Derived.BigQuiet
import Derived.Deep.QuietTactic
import Derived.Deep.RegionWith
import Derived.Deep.RegionLaw
import Derived.Deep.RegionHeld3
import Derived.Test.YtadinjaocnlglaaGreatDoorZ08
namespace Go.Proofs.YtadinjaocnlglaaGreatDoor
open Go.RowKit
theorem pressed_lit (kt : Nat → Int) (st : Nat → Int) (s : ByteArray) (w : World) (h0 : s.size = 64) (hT : Tab w 3 kt) (h3 : 4 ≤ w.heap.size) :
  Calls Tryz.prog 234 #[.agg #[.int .u32 (st 0), .int .u32 (st 1), .int .u32 (st 2), .int .u32 (st 3), .int .u32 (st 4), .int .u32 (st 5), .int .u32 (st 6), .int .u32 (st 7)], .string s] w fun e w' => ∃ y, Hid (y = press kt (wrd (iniR s)) st) ∧
   e = .returned (.agg #[.int .u32 (y 0), .int .u32 (y 1), .int .u32 (y 2), .int .u32 (y 3), .int .u32 (y 4), .int .u32 (y 5), .int .u32 (y 6), .int .u32 (y 7)]) ∧ Below w.heap.size w w' :=
 (pressed_any kt st s w h0 hT h3).mono fun _ _ h => ⟨_, rfl, h.1, h.2⟩
theorem news4 (w : World) (a b c d : Int) : ∀ j u, [Value.int .u8 a, .int .u8 b, .int .u8 c, .int .u8 d][j]? = some u → ((w.alloc (.cells #[.int .u8 a, .int .u8 b, .int .u8 c, .int .u8 d] 5)).drew).cell? ((⟨w.heap.size, 0, none⟩ : Addr).add j) = some u := by
 intro j u hj
 match j, hj with
 | 0, hj => simp at hj; subst hj; simp [Addr.add]
 | 1, hj => simp at hj; subst hj; simp [Addr.add]
 | 2, hj => simp at hj; subst hj; simp [Addr.add]
 | 3, hj => simp at hj; subst hj; simp [Addr.add]
theorem ones4 (a b c d : Int) : ∀ u ∈ [Value.int .u8 a, .int .u8 b, .int .u8 c, .int .u8 d], u.oneCell' = true := by
 intro u hu; simp at hu; rcases hu with rfl | rfl | rfl | rfl <;> rfl
theorem grown_words {w w' : World} {g n : Nat} {t : TypeId} {f : Nat → Int} {row : Option Nat} (h : Words w g n t f) (hg : w.grownBy w' row) (hr : ∀ k, row = some k → g + 1 ≤ k) : Words w' g n t f := by
 unfold Words
 rw [hg.block g h.lt (fun e => by have := hr g e.symm; omega)]
 exact h
theorem refT_size (s : ByteArray) : (refT s).size = 64 * ((s.size + 72) / 64) := by
 unfold refT; rw [refB_size, refA_size]; unfold nz; omega
def refD (kt : Nat → Int) (s : ByteArray) : ByteArray := strOfNums (tl (pcs kt (refT s) hini ((s.size + 72) / 64)) 8)
set_option maxHeartbeats 1000000 in
set_option maxRecDepth 100000 in
theorem refDigest_any (kt : Nat → Int) (s : ByteArray) (w : World) (h0 : s.size ≤ 140737488351232) (hT : Tab w 3 kt) (hH : ∀ j, j < 8 → w.cell? ⟨1, j, none⟩ = some (.int .u32 (hini j))) (h3 : 4 ≤ w.heap.size) :
  Calls Tryz.prog 192 #[.string s] w fun e w' => e = .returned (.string (refD kt s)) ∧ Below w.heap.size w w' := by
 have HT : Hid _ := hT
 have HH : Hid _ := hH
 clear hT hH
 obtain ⟨m, hm⟩ : ∃ m, m = refT s := ⟨_, rfl⟩
 obtain ⟨n, hn⟩ : ∃ n, n = (s.size + 72) / 64 := ⟨_, rfl⟩
 have HMS : Hid (m.size = 64 * n) := by rw [hm, hn]; exact refT_size s
 have hml : m.size ≤ 140737488355328 := by have := HMS.out; omega
 have HD : Hid (refD kt s = strOfNums (tl (pcs kt m hini n) 8)) := by rw [hm, hn]; rfl
 have hpd := refpad_any s w h0
 rw [← hm] at hpd
 have HPD : Hid _ := hpd
 clear hm hn hpd
 obtain ⟨x, hx⟩ : ∃ x, x = hini := ⟨_, rfl⟩
 rw [← hx] at HD HH
 clear hx
 go_enter Tryz.func192, Tryz.ntmps192
 go_wp2_with fail
 refine (Calls.mono HPD.out ?_)
 rintro e w1 ⟨rfl, hb1⟩
 have hb0 : 1 < w.heap.size := by omega
 have g0 := (hb1.cell (p := ⟨1, 0, none⟩) hb0).trans (HH.out 0 (by omega))
 have g1 := (hb1.cell (p := ⟨1, 1, none⟩) hb0).trans (HH.out 1 (by omega))
 have g2 := (hb1.cell (p := ⟨1, 2, none⟩) hb0).trans (HH.out 2 (by omega))
 have g3 := (hb1.cell (p := ⟨1, 3, none⟩) hb0).trans (HH.out 3 (by omega))
 have g4 := (hb1.cell (p := ⟨1, 4, none⟩) hb0).trans (HH.out 4 (by omega))
 have g5 := (hb1.cell (p := ⟨1, 5, none⟩) hb0).trans (HH.out 5 (by omega))
 have g6 := (hb1.cell (p := ⟨1, 6, none⟩) hb0).trans (HH.out 6 (by omega))
 have g7 := (hb1.cell (p := ⟨1, 7, none⟩) hb0).trans (HH.out 7 (by omega))
 go_wp2
 have hw1 : w.heap.size ≤ w1.heap.size := hb1.size
 have hA1 : Words (w1.alloc (Obj.cells #[Value.int IntKind.u32 (x 0), Value.int IntKind.u32 (x 1), Value.int IntKind.u32 (x 2), Value.int IntKind.u32 (x 3), Value.int IntKind.u32 (x 4), Value.int IntKind.u32 (x 5), Value.int IntKind.u32 (x 6), Value.int IntKind.u32 (x 7)] 294)) w1.heap.size 8 294 x := heap_alloc_new _ _
 have hB1 : Below w.heap.size w (w1.alloc (Obj.cells #[Value.int IntKind.u32 (x 0), Value.int IntKind.u32 (x 1), Value.int IntKind.u32 (x 2), Value.int IntKind.u32 (x 3), Value.int IntKind.u32 (x 4), Value.int IntKind.u32 (x 5), Value.int IntKind.u32 (x 6), Value.int IntKind.u32 (x 7)] 294)) := hb1.alloc hw1 _
 clear g0 g1 g2 g3 g4 g5 g6 g7 hb1
 generalize w1.heap.size = g at *
 go_loopw [5] (fun i wr => ∃ k : Nat, k ≤ n ∧ i = .int .i64 ((64 * k : Nat) : Int) ∧ Below w.heap.size w wr ∧ Words wr g 8 294 (pcs kt m x k)) (fun i _ => m.size - (intOf i).toNat)
 case atStart => exact ⟨0, by omega, rfl, hB1, hA1⟩
 case round =>
  clear hA1 hB1
  obtain ⟨k, hk, rfl, hb, hA⟩ := hrel
  by_cases hlt : k < n
  ·obtain ⟨at', hat⟩ : ∃ m : Nat, m = 64 * k := ⟨_, rfl⟩
   have hle : at' + 64 ≤ m.size := by have := HMS.out; omega
   rw [← hat]
   have HAT : Hid (at' = 64 * k) := hat
   clear hat
   obtain ⟨y, hy⟩ : ∃ y, pcs kt m x k = y := ⟨_, rfl⟩
   have HY : Hid (pcs kt m x k = y) := hy
   rw [hy] at hA
   clear hy
   obtain ⟨c0, c1, c2, c3, c4, c5, c6, c7, cf⟩ := hA.cells8
   obtain ⟨q, HQ, hq, hsl⟩ : ∃ q, Hid (q = piece m k) ∧ q.size = 64 ∧ ∀ W, (Instr.slice 9 (.string m) (some (.int .i64 (at' : Int))) (some (.int .i64 ((at' : Int) + 64))) none).run Tryz.prog W = .ok (.string q) W := by
    refine ⟨piece m k, rfl, piece_size m k (by have := HAT.out; omega), fun W => ?_⟩
    rw [run_slice_string W 9 m .i64 .i64 _ _ Tryz.underlying9 (by omega) (by omega) (by omega)]
    have e1 : ((at' : Int)).toNat = 64 * k := by have := HAT.out; omega
    have e2 : ((at' : Int) + 64).toNat = 64 * k + 64 := by have := HAT.out; omega
    rw [e1, e2]; rfl
   have hwp : IntKind.i64.wrap ((at' : Int) + 64) = (at' : Int) + 64 := by rw [IntKind.wrap_i64]; omega
   have hTr : Tab wr.drew 3 kt := Tab.below HT.out hb.drew (by omega)
   have h3r : 4 ≤ wr.drew.heap.size := Nat.le_trans h3 hb.size
   have hltb : g < wr.drew.heap.size := hA.lt
   go_wp2
   go_region_with (go_at_call 234; refine (pressed_lit kt y q wr.drew hq hTr h3r).mono ?_; rintro e w' ⟨z, hz, rfl, hb'⟩; obtain ⟨d0, d1, d2, d3, d4, d5, d6, d7, df⟩ := (hA.drew.below hb' hltb).cells8)
   go_wp2
   go_roundw
   case rel =>
    have e : pcs kt m x (k + 1) = z := by
     show press kt (wrd (iniR (piece m k))) (pcs kt m x k) = z
     rw [hz.out, HY.out, HQ.out]
    refine ⟨k + 1, by omega, by have := HAT.out; go_num, ?_, ?_⟩
    ·exact (hb.drew.trans (hb'.mono (Nat.le_trans hw1 (Nat.le_of_lt hltb)))).trans ((put8_below (Below.refl g _)).mono hw1)
    ·rw [e]; exact put8 (hA.drew.below hb' hltb)
   case measure => have := HAT.out; have := HMS.out; simp [intOf]; omega
  ·have hkn : k = n := by omega
   subst hkn
   obtain ⟨y, hy⟩ : ∃ y, pcs kt m x k = y := ⟨_, rfl⟩
   have HY : Hid (pcs kt m x k = y) := hy
   rw [hy] at hA
   clear hy
   obtain ⟨mm, hm⟩ : ∃ mm : Nat, mm = 64 * k := ⟨_, rfl⟩
   rw [← hm]
   have hms : m.size ≤ mm := by have := HMS.out; omega
   have hmd : decide (mm < m.size) = false := by simp; omega
   clear hm
   go_wp2
   obtain ⟨i0, hi, hz0, hz1, hz2⟩ := info_parts info5
   go_loopw [7, 6] (fun i v wr => ∃ k : Nat, k ≤ 8 ∧ i = .int .i64 k ∧ wr.ownsRow (g + 1) 5 1 v (4 * k) ((tl y k).map (Value.int .u8)) ∧ Below w.heap.size w wr ∧ Words wr g 8 294 y) (fun i _ _ => 8 - (intOf i).toNat)
   case atStart => exact ⟨0, by omega, rfl, World.ownsRow_nil _ _ _ _, hb, hA⟩
   case round =>
    clear hb hA
    obtain ⟨j, hj, rfl, hown, hb, hA⟩ := hrel
    by_cases hlt : j < 8
    ·have c1 := hA.cell j hlt
     go_wp2
     have hm1 : 4 * j + 4 ≤ maxLen := by unfold maxLen; omega
     have hm2 : (4 * j + 4) * 1 ≤ 140737488355328 := by omega
     have hgs : g + 1 ≤ ((wr.alloc (.cells #[.int .u8 (IntKind.u8.wrap (y j / 16777216)), .int .u8 (IntKind.u8.wrap (y j / 65536)), .int .u8 (IntKind.u8.wrap (y j / 256)), .int .u8 (IntKind.u8.wrap (y j))] 5)).drew).heap.size := by have := hA.lt; show g + 1 ≤ (wr.alloc _).heap.size; simp; omega
     have hj0 : (0 : Int) ≤ (j : Int) := by omega
     have hj8 : (j : Int) < 8 := by omega
     have hne := World.new_ne wr _ c1
     go_region_held3 (fun w' => w'.cell? ⟨g, j, none⟩ = some (.int .u32 (y j))) (go_keep) (first | (refine step_append_own rfl (.tmp 28) (.tmp 48) 165 rfl 5 i0 (.int .u8 0) 1 1 Tryz.underlying165 hi hz0 hz1 hz2 rfl (by decide) (g + 1) _ (4 * j) ((tl y j).map (Value.int .u8)) (by simp [Act.eval]; rfl) (by exact (hown.alloc _).drew) ⟨wr.heap.size, 0, none⟩ 4 4 [.int .u8 (IntKind.u8.wrap (y j / 16777216)), .int .u8 (IntKind.u8.wrap (y j / 65536)), .int .u8 (IntKind.u8.wrap (y j / 256)), .int .u8 (IntKind.u8.wrap (y j))] (by simp [Act.eval]) rfl (by exact news4 _ _ _ _ _) (ones4 _ _ _ _) hm1 hm2 (by exact hgs) ?_; intro v' w' hown' hgrow; have hA' := grown_words (hA.alloc _).drew hgrow (own_ge hown); have c1' := hA'.cell j hlt))
     have hb' : Below w.heap.size w w' := ((hb.alloc hb.size _).drew).grown hgrow (by have := hb.size; show w.heap.size ≤ (wr.alloc _).heap.size; simp; omega) (fun k hk => by have := own_ge hown k hk; omega)
     have hown2 : w'.ownsRow (g + 1) 5 1 v' (4 * (j + 1)) ((tl y (j + 1)).map (Value.int .u8)) := by
      have e : 4 * (j + 1) = 4 * j + 4 := by omega
      rw [e]
      simpa [tl, IntKind.wrap_u8'] using hown'
     clear hown' hgrow hown hb c1 c1' hA hne hgs
     go_wp2
     go_roundw
     case rel =>
      exact ⟨j + 1, by omega, by go_num, hown2, hb', hA'⟩
     case measure => simp [intOf]; omega
    ·have hj8 : j = 8 := by omega
     subst hj8
     rcases hown.2 with ⟨_, h'⟩ | ⟨g', cap', cur, hv, _⟩
     ·omega
     ·subst hv
      have hcv := run_convert_bytes_arg (P := Tryz.prog) wr 165 5 Tryz.underlying165 Tryz.underlying5 g' 0 (4 * 8) cap' (tl y 8) (tl_len y 8) (fun i hi => by
       rw [Nat.zero_add, hown.cellAt i (by omega)]
       have hl : i < (tl y 8).length := by rw [tl_len]; omega
       rw [List.getElem?_map, List.getElem?_eq_getElem hl, List.getD_eq_getElem?_getD, List.getElem?_eq_getElem hl]; rfl) 9 Tryz.underlying9
      go_wp2
      go_ret
      exact ⟨by rw [HD.out, ← HY.out]; rfl, hb⟩
theorem byt_none (s : ByteArray) (i : Nat) (h : s.size ≤ i) : byt s i = 0 := by
 unfold byt
 rw [List.getD_eq_getElem?_getD, List.getElem?_eq_none (by simpa using h)]
 rfl
theorem byt_append (a b : ByteArray) (i : Nat) : byt (a ++ b) i = if i < a.size then byt a i else byt b (i - a.size) := by
 unfold byt
 rw [ByteArray.data_append, Array.toList_append, List.getD_eq_getElem?_getD, List.getElem?_append]
 have e : a.data.toList.length = a.size := by simp
 rw [e]
 by_cases h : i < a.size
 ·rw [if_pos h, if_pos h, List.getD_eq_getElem?_getD]
 ·rw [if_neg h, if_neg h, List.getD_eq_getElem?_getD]
theorem byt_extract (s : ByteArray) (a b i : Nat) (h : a + i < b) : byt (s.extract a b) i = byt s (a + i) := by
 by_cases hs : a + i < s.size
 ·have h1 : i < (s.extract a b).size := by rw [ByteArray.size_extract]; omega
  rw [byt_get _ i h1, byt_get _ (a + i) hs]
  simp [ByteArray.data_extract]
 ·rw [byt_none s (a + i) (by omega), byt_none]
  rw [ByteArray.size_extract]; omega
theorem byt_piece (s : ByteArray) (j i : Nat) (h : i < 64) : byt (piece s j) i = byt s (64 * j + i) := by
 unfold piece; exact byt_extract s _ _ i (by omega)
theorem ini_congr (p q : ByteArray) (h : ∀ i, i < 64 → byt p i = byt q i) (j : Nat) (hj : j < 16) : iniR p j = iniR q j := by
 unfold iniR
 rw [h (4 * j) (by omega), h (4 * j + 1) (by omega), h (4 * j + 2) (by omega), h (4 * j + 3) (by omega)]
theorem pcs_add (kt : Nat → Int) (m q : ByteArray) (st : Nat → Int) (a : Nat) : ∀ b, (∀ i, i < 64 * b → byt q i = byt m (64 * a + i)) → pcs kt m st (a + b) = pcs kt q (pcs kt m st a) b
 | 0, _ => rfl
 | b + 1, h => by
  have ih := pcs_add kt m q st a b (fun i hi => h i (by omega))
  show press kt (wrd (iniR (piece m (a + b)))) (pcs kt m st (a + b)) = press kt (wrd (iniR (piece q b))) (pcs kt q (pcs kt m st a) b)
  have hw : wrd (iniR (piece m (a + b))) = wrd (iniR (piece q b)) := funext fun i => wrd_congr _ _ (fun j hj => ini_congr _ _ (fun i hi => by
   rw [byt_piece m (a + b) i hi, byt_piece q b i hi, h (64 * b + i) (by omega)]
   congr 1; omega) j hj) i
  rw [hw, ih]
theorem byt_txt (n : Nat) (f : Nat → Int) (i : Nat) (hi : i < n) (h0 : 0 ≤ f i) (h1 : f i ≤ 255) : byt (txt n f) i = f i := by
 unfold byt txt
 rw [strOfNums_data, List.getD_eq_getElem?_getD]
 simp [hi]
 omega
theorem byt_one (v : Int) (h0 : 0 ≤ v) (h1 : v ≤ 255) : byt (strOfNums [v]) 0 = v := by
 unfold byt
 rw [strOfNums_data]
 simp
 omega
theorem refA_byt (s : ByteArray) : ∀ k i, i < s.size + 1 + k → byt (refA s k) i = if i < s.size then byt s i else if i = s.size then 128 else 0
 | 0, i, hi => by
  show byt (s ++ ⟨#[128]⟩) i = _
  rw [byt_append]
  by_cases h : i < s.size
  ·rw [if_pos h, if_pos h]
  ·have e : i = s.size := by omega
   rw [if_neg h, if_neg h, if_pos e, e, Nat.sub_self]; rfl
 | k + 1, i, hi => by
  show byt (refA s k ++ ⟨#[0]⟩) i = _
  rw [byt_append, refA_size]
  by_cases h : i < s.size + 1 + k
  ·rw [if_pos h]; exact refA_byt s k i h
  ·have e : i - (s.size + 1 + k) = 0 := by omega
   rw [if_neg h, e, if_neg (by omega), if_neg (by omega)]; rfl
theorem len_byte (n j : Nat) : ((n : Int) * 8 / 2 ^ (8 * (7 - j))).tmod 256 % 256 = (n : Int) * 8 / 2 ^ (8 * (7 - j)) % 256 := by
 have hp : (0 : Int) < 2 ^ (8 * (7 - j)) := Int.pow_pos (by omega)
 have hx : 0 ≤ (n : Int) * 8 / 2 ^ (8 * (7 - j)) := Int.ediv_nonneg (by omega) (by omega)
 rw [Int.tmod_eq_emod_of_nonneg hx]
 omega
theorem refB_byt (a s : ByteArray) : ∀ k i, i < a.size + k → byt (refB a s k) i = if i < a.size then byt a i else (s.size : Int) * 8 / 2 ^ (8 * (7 - (i - a.size))) % 256
 | 0, i, hi => by rw [if_pos (by omega)]; rfl
 | k + 1, i, hi => by
  show byt (refB a s k ++ strOfNums [((s.size : Int) * 8 / 2 ^ (8 * (7 - k))).tmod 256 % 256]) i = _
  rw [byt_append, refB_size]
  by_cases h : i < a.size + k
  ·rw [if_pos h]; exact refB_byt a s k i h
  ·have e : i - (a.size + k) = 0 := by omega
   have e2 : i - a.size = k := by omega
   rw [if_neg h, e, if_neg (by omega), e2, byt_one _ (by omega) (by omega), len_byte]
theorem refT_byt (s : ByteArray) (i : Nat) (hi : i < 64 * ((s.size + 72) / 64)) : byt (refT s) i = if 64 * ((s.size + 72) / 64) - 8 ≤ i then (s.size : Int) * 8 / 2 ^ (8 * (64 * ((s.size + 72) / 64) - 1 - i)) % 256 else if i < s.size then byt s i else if i = s.size then 128 else 0 := by
 have hz : s.size + 1 + nz s = 64 * ((s.size + 72) / 64) - 8 := by unfold nz; omega
 unfold refT
 rw [refB_byt _ _ 8 i (by rw [refA_size]; omega), refA_size, hz]
 by_cases h : i < 64 * ((s.size + 72) / 64) - 8
 ·rw [if_pos h, if_neg (by omega), refA_byt s _ i (by omega)]
 ·rw [if_neg h, if_pos (by omega), show 7 - (i - (64 * ((s.size + 72) / 64) - 8)) = 64 * ((s.size + 72) / 64) - 1 - i by omega]
theorem padS_bd (s : ByteArray) (n sz i : Nat) : 0 ≤ padS s n sz 8 i ∧ padS s n sz 8 i ≤ 255 := by
 unfold padS
 by_cases h1 : sz - 8 ≤ i
 ·rw [if_pos h1]; omega
 ·rw [if_neg h1]
  by_cases h2 : i < s.size
  ·rw [if_pos h2]; exact ⟨byt_lo s i, byt_hi s i⟩
  ·rw [if_neg h2]
   by_cases h3 : i = s.size
   ·rw [if_pos h3]; omega
   ·rw [if_neg h3]; omega
theorem padT_byt (s : ByteArray) (n i : Nat) (hi : i < 64 * padN s) : byt (padT s n) i = padS s n (64 * padN s) 8 i := by
 unfold padT
 unfold padN at hi ⊢
 by_cases h : s.size < 56
 ·rw [if_pos h] at hi ⊢
  rw [if_pos h]
  exact byt_txt 64 _ i hi (padS_bd ..).1 (padS_bd ..).2
 ·rw [if_neg h] at hi ⊢
  rw [if_neg h]
  exact byt_txt 128 _ i hi (padS_bd ..).1 (padS_bd ..).2
theorem one_digest (kt : Nat → Int) (s : ByteArray) : ofT kt s = strOfNums (tl (pcs kt (refT s) hini ((s.size + 72) / 64)) 8) := by
 unfold ofT
 obtain ⟨r, hr⟩ : ∃ r, r = s.extract (64 * (s.size / 64)) s.size := ⟨_, rfl⟩
 have hrs : r.size = s.size - 64 * (s.size / 64) := by rw [hr, ByteArray.size_extract]; omega
 rw [← hr]
 have hN : (s.size + 72) / 64 = s.size / 64 + padN r := by
  unfold padN
  by_cases h : r.size < 56
  ·rw [if_pos h]; omega
  ·rw [if_neg h]; omega
 have h1 : pcs kt (refT s) hini (0 + s.size / 64) = pcs kt (s.extract 0 (64 * (s.size / 64))) (pcs kt (refT s) hini 0) (s.size / 64) := by
  apply pcs_add
  intro i hi
  rw [byt_extract s 0 _ i (by omega), Nat.mul_zero, Nat.zero_add, refT_byt s i (by omega), if_neg (by omega), if_pos (by omega)]
 have h2 : pcs kt (refT s) hini (s.size / 64 + padN r) = pcs kt (padT r s.size) (pcs kt (refT s) hini (s.size / 64)) (padN r) := by
  apply pcs_add
  intro i hi
  rw [padT_byt r _ i hi, refT_byt s _ (by omega), hN]
  unfold padS
  rw [show 64 * (s.size / 64 + padN r) = 64 * (s.size / 64) + 64 * padN r by omega]
  by_cases a1 : 64 * padN r - 8 ≤ i
  ·rw [if_pos a1, if_pos (by omega), show 64 * (s.size / 64) + 64 * padN r - 1 - (64 * (s.size / 64) + i) = 64 * padN r - 1 - i by omega]
  ·rw [if_neg a1, if_neg (show ¬ 64 * (s.size / 64) + 64 * padN r - 8 ≤ 64 * (s.size / 64) + i by omega)]
   by_cases a2 : i < r.size
   ·rw [if_pos a2, if_pos (by omega), hr, byt_extract s _ _ i (by omega)]
   ·rw [if_neg a2, if_neg (show ¬ 64 * (s.size / 64) + i < s.size by omega)]
    by_cases a3 : i = r.size
    ·rw [if_pos a3, if_pos (by omega)]
    ·rw [if_neg a3, if_neg (by omega)]
 rw [Nat.zero_add] at h1
 rw [hN, h2, h1]
 rfl
structure Gd (kt : Nat → Int) (w : World) : Prop where
 tab : Tab w 2 kt
 one : 4 ≤ w.heap.size
theorem Gd.below {kt : Nat → Int} {w w' : World} (h : Gd kt w) (hb : Below w.heap.size w w') : Gd kt w' :=
 ⟨h.tab.below hb (by have := h.one; omega), Nat.le_trans h.one hb.size⟩
structure Gr (kt : Nat → Int) (w : World) : Prop where
 ref : Tab w 3 kt
 first : ∀ j, j < 8 → w.cell? ⟨1, j, none⟩ = some (.int .u32 (hini j))
 one : 4 ≤ w.heap.size
theorem Gr.below {kt : Nat → Int} {w w' : World} (h : Gr kt w) (hb : Below w.heap.size w w') : Gr kt w' :=
 ⟨h.ref.below hb (by have := h.one; omega), fun j hj => (hb.cell (p := ⟨1, j, none⟩) (by have := h.one; show 1 < w.heap.size; omega)).trans (h.first j hj), Nat.le_trans h.one hb.size⟩
structure Ge (w : World) : Prop where
 err : w.cell? ⟨0, 0, none⟩ = some (.iface 376 (.agg #[.pointer (some ⟨7, 63, none⟩)]))
theorem rdigest_any (kt : Nat → Int) (s : ByteArray) (w : World) (hs : s.size ≤ 140737488351232) (hT : Gr kt w) :
  Calls Tryz.prog 192 #[.string s] w fun e w' => e = .returned (.string (ofT kt s)) ∧ Below w.heap.size w w' := by
 rw [one_digest]; exact refDigest_any kt s w hs hT.ref hT.first (by have := hT.one; omega)
end Go.Proofs.YtadinjaocnlglaaGreatDoor
namespace Go.Proofs.YtadinjaocnlglaaGreatDoor
def hf (n : Nat) : Nat := 2 ^ Nat.log2 (n - 1)
theorem hf_pos (n : Nat) : 0 < hf n := Nat.two_pow_pos _
theorem hf_lt (n : Nat) (h : 2 ≤ n) : hf n < n := by
 have := Nat.log2_self_le (n := n - 1) (by omega)
 unfold hf; omega
theorem hf_one (k n : Nat) (h1 : 2 ^ k < n) (h2 : n ≤ 2 * 2 ^ k) : 2 ^ k = hf n := by
 unfold hf
 have h0 : n - 1 ≠ 0 := by have := Nat.two_pow_pos k; omega
 rw [(Nat.log2_eq_iff (k := k) h0).2 ⟨by omega, by rw [Nat.pow_succ]; omega⟩]
def jn (D : ByteArray → ByteArray) (a b : ByteArray) : ByteArray := D (⟨#[1]⟩ ++ a ++ b)
def topT (D : ByteArray → ByteArray) (n : Nat) (L : Nat → ByteArray) : ByteArray :=
 if _h : n < 2 then (if n = 0 then D ⟨#[]⟩ else L 0)
 else
  have _h1 : hf n < n := hf_lt n (by omega)
  have _h2 : 0 < hf n := hf_pos n
  jn D (topT D (hf n) L) (topT D (n - hf n) (fun j => L (hf n + j)))
theorem topT_0 (D : ByteArray → ByteArray) (L : Nat → ByteArray) : topT D 0 L = D ⟨#[]⟩ := by rw [topT]; rfl
theorem topT_1 (D : ByteArray → ByteArray) (L : Nat → ByteArray) : topT D 1 L = L 0 := by rw [topT]; rfl
theorem topT_n (D : ByteArray → ByteArray) (n : Nat) (L : Nat → ByteArray) (h : 2 ≤ n) : topT D n L = jn D (topT D (hf n) L) (topT D (n - hf n) (fun j => L (hf n + j))) := by
 rw [topT, dif_neg (by omega)]
theorem topT_size (D : ByteArray → ByteArray) (k : Nat) (hD : ∀ s, (D s).size = k) : ∀ (n : Nat) (L : Nat → ByteArray), (∀ i, i < n → (L i).size = k) → (topT D n L).size = k := by
 intro n L h
 by_cases h0 : n = 0
 ·rw [h0, topT_0]; exact hD _
 ·by_cases h1 : n = 1
  ·rw [h1, topT_1]; exact h 0 (by omega)
  ·rw [topT_n D n L (by omega)]; exact hD _
theorem topT_le (D : ByteArray → ByteArray) (k : Nat) (hD : ∀ s, (D s).size ≤ k) (n : Nat) (L : Nat → ByteArray) (h : ∀ i, i < n → (L i).size ≤ k) : (topT D n L).size ≤ k := by
 by_cases h0 : n = 0
 ·rw [h0, topT_0]; exact hD _
 ·by_cases h1 : n = 1
  ·rw [h1, topT_1]; exact h 0 (by omega)
  ·rw [topT_n D n L (by omega)]; exact hD _
end Go.Proofs.YtadinjaocnlglaaGreatDoor
